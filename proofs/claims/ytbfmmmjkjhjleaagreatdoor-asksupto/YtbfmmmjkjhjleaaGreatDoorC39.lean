/- Mine. -/
import Derived.Test.YtbfmmmjkjhjleaaGreatDoorC35
import Derived.Test.YtbfmmmjkjhjleaaGreatDoorC38
set_option maxRecDepth 100000
set_option maxHeartbeats 0
namespace Go.Proofs.YtbfmmmjkjhjleaaGreatDoor
open Go.Proofs.Tryz
variable {budget:Int} {Z sc cc ic pc rb rn G:Nat} {sa ca ia pa:Option Addr} {nm:ByteArray}
section
open Go.RowKit Go.Maps Go.Sort
theorem Tryz.JR(args:Array Value)(w:World):(callFunc 88 args).run prog w=.ok (.enter 88 args) w:=by go_simp
theorem Tryz.Kx(args:Array Value)(w:World):(callFunc 87 args).run prog w=.ok (.enter 87 args) w:=by go_simp
theorem Tryz.Ob(args:Array Value)(w:World):(callFunc 82 args).run prog w=.ok (.enter 82 args) w:=by go_simp
theorem OB{W:World}{gb go m:Nat}{ns:List aH}{es:List bK}{q:aI}(h:jq gb go ns es m W)(ok:Sf ns es q.ah q.aq)(hb:0<=budget/\budget<=5000)(Bl:Ql q)
  (Br:dj W 5 (.slice sa q.ah.length sc) q.ah.length (q.ah.flatMap nG)) (Bn:dj W 7 (.slice ca q.aq.length cc) q.aq.length (q.aq.flatMap pX)) (Bo:dj W 2 (.slice ia q.af.length ic) q.af.length (q.af.flatMap kk)) (ht:Fa W):
  Calls prog 36 #[.pointer (some ⟨gb,go,none⟩),.agg (qC q (.slice sa q.ah.length sc) (.slice ca q.aq.length cc) (.slice ia q.af.length ic) (.slice pa q.aj.length pc)),.int .i64 budget] W fun e W'=>(∃v,e=.returned (.tuple #[v,.int .i64 (ew ns es q budget).2])/\W'.ownsRow W.heap.size 9 1 v (ew ns es q budget).1.length (strs (ew ns es q budget).1))/\Below W.heap.size W W':=by
 obtain⟨c,n⟩:∃c,qC q (.slice sa q.ah.length sc) (.slice ca q.aq.length cc) (.slice ia q.af.length ic) (.slice pa q.aj.length pc)=c:=⟨_,rfl⟩;have q3:c[3]?=some (.slice ia q.af.length ic):=by rw[<-n];rfl
 have q4:c[4]?=some (.int .i64 q.order):=by rw[<-n];rfl
 have q5:c[5]?=some (.bool q.down):=by rw[<-n];rfl
 have q6:c[6]?=some (.int .i64 q.skip):=by rw[<-n];rfl
 have q7:c[7]?=some (.int .i64 q.aX):=by rw[<-n];rfl
 have qs:c.size=17:=by rw[<-n];rfl
 have d:=p9 (And.intro q3 (And.intro q4 (And.intro q5 (And.intro q6 (And.intro q7 qs)))));clear q3 q4 q5 q6 q7 qs;have Aj:=(r5 W.heap.size W).alloc (rm _) (.cells #[.pointer (some ⟨gb,go,none⟩)] 108);have Ak:=Aj.alloc Aj.size (.cells c 49);have Bb:=Ak.alloc Ak.size (.cells #[.slice none 0 0] 158);have Bc:=Loc.new W #[.pointer (some ⟨gb,go,none⟩)] 108;have Bf:=Loc.new (W.alloc (.cells #[.pointer (some ⟨gb,go,none⟩)] 108)) c 49;have Be:=Loc.new ((W.alloc (.cells #[.pointer (some ⟨gb,go,none⟩)] 108)).alloc (.cells c 49)) #[.slice none 0 0] 158;have Bd:=(Bc.alloc (.cells c 49)).alloc (.cells #[.slice none 0 0] 158);have Bg:=Bf.alloc (.cells #[.slice none 0 0] 158);have p:=p9 Bb;have s:=p9 Bd;have g:=p9 Bg;have R:=p9 Be;clear Aj Ak Bb Bc Bf Be Bd Bg;have H:=p9 h;have Az:=p9 ok;have i:=p9 Bl;have C3:=p9 Br;have C2:=p9 Bn;have V:=p9 Bo;have HT:=p9 ht;have C0:=p9 n;clear h ok Bl Br Bn Bo ht;rw[n];clear n;go_enter func36,ntmps36
 go_upto_region 2 with fail;obtain⟨Y,hY⟩:∃Y,Y=W.heap.size:=⟨_,rfl⟩;have e1:(W.alloc (.cells #[.pointer (some ⟨gb,go,none⟩)] 108)).heap.size=Y+1:=by rw[hY];simp
 have e2:((W.alloc (.cells #[.pointer (some ⟨gb,go,none⟩)] 108)).alloc (.cells c 49)).heap.size=Y+1+1:=by rw[z6,e1]
 have Ba:=p9 hY;rw[e1] at g;rw[e2] at R;rw[<-hY] at s⊢;clear hY e1 e2;generalize ((W.alloc (.cells #[.pointer (some ⟨gb,go,none⟩)] 108)).alloc (.cells c 49)).alloc (.cells #[.slice none 0 0] 158)=W3 at p s g R⊢;have G:∀k,(k=Y+1+1\/(Value.slice none 0 0).ownBlock=some k)->W.heap.size<=k:=by
  intro k hk;rcases hk with rfl|hk
  ·rw[Ba.o];omega
  ·cases hk
 have Ag:=p9 G;have HE:qv (Calls prog 78 #[.pointer (some ⟨gb,go,none⟩),.agg c,.int .i64 budget,.func (.func 79) #[] #[.pointer (some ⟨Y+1+1,0,none⟩),.pointer (some ⟨Y,0,none⟩),.pointer (some ⟨Y+1,0,none⟩)]] W3 fun e W'=>e=.returned (.bool (decide (0<=(fU ns es q budget).left)))/\∃Ao,Fy (Rg ns q.af (Y+1+1)) Ao (fU ns es q budget).rows W'/\Kept (fun k=>k=Y+1+1\/(Value.slice none 0 0).ownBlock=some k) W3 W'/\∀k,Ao k->(k=Y+1+1\/(Value.slice none 0 0).ownBlock=some k)\/W3.heap.size<=k):=p9 (by
  rw[<-C0.o];refine SA (PH (JK ns q.af (Y+1+1))) Tryz.NR Az.o hb ⟨⟨_,R.o,tj _ _ _ _,fun k=>Iff.rfl⟩,fun f hf=>by cases hf⟩ (EC H.o p.o G) (fun w hk=>C3.o.below (ug p.o G hk)) (fun w hk=>C2.o.below (ug p.o G hk)) (fun B=>O3 (LJ (gb:=gb) (go:=go) (m:=m) (es:=es) (ao:=ia) (cp:=ic) (by have:=i.o.rY;omega) i.o.small fun w hk=>?_));have N:=ug p.o G hk;refine⟨H.o.below N,?_,?_,V.o.below N⟩
  ·refine Eq.trans ?_ ((s.o.cell 0).trans rfl);exact World.cell?_of_block (hk.block Y s.o.lt (fun e=>e ⟨s.o.lt,fun h1=>h1.elim (fun e=>by omega) (fun e=>by cases e)⟩))
  ·refine Eq.trans ?_ ((g.o.cell 3).trans d.o.1);exact World.cell?_of_block (hk.block (Y+1) g.o.lt (fun e=>e ⟨g.o.lt,fun h1=>h1.elim (fun e=>by omega) (fun e=>by cases e)⟩)))
 obtain⟨A0,A1⟩:=hb;have B1:qv ((prog.info? 49).map (·.size)=some c.toList.length):=p9 (by rw[Tryz.bp,A4,d.o.2.2.2.2.2]);have cG:=s.o.at_ 0 (.pointer (some ⟨gb,go,none⟩)) rfl;go_wp2_with (refine wpList_load_mid rfl 49 _ rfl (Y+1) 0 rfl c.toList _ g.o.range underlying49 rfl B1.o ?_;simp only[DI])
 refine HE.o.mono ?_;rintro e W5 ⟨rfl,Ao,⟨⟨v,Bj,A9,Bs⟩,Bu⟩,Al,Aa⟩;have I:=p9 (pC p.o Ag.o Al);have Ae:qv (Loc W5 (Y+1) c 49):=p9 ((Al.block (Y+1) g.o.lt (fun e=>e.elim (fun e=>by omega) (fun e=>by cases e))).trans g.o);obtain⟨a,r⟩:∃a,(fU ns es q budget).rows.map (fB ns q.af)=a:=⟨_,rfl⟩;have Ax:qv (∀l∈a,xO l):=p9 (by
  rw[<-r];intro l A;obtain⟨f,hf,rfl⟩:=List.mem_map.1 A;exact Kj H.o (Bu f hf) i.o.small)
 have Ac:qv (a.length<=6000):=p9 (by
  rw[<-r,tB];have h1:=nB ns es q.aq q.ah ⟨#[]⟩ ⟨budget,oU,[]⟩ A0;have h2:bZ ns es q.aq q.ah ⟨#[]⟩ ⟨budget,oU,[]⟩=fU ns es q budget:=rfl;rw[h2] at h1;have h3:=Az.o.Se;simp only[yd] at h1;omega)
 have t:W5.ownsRow 0 163 12 v a.length (a.flatMap gZ):=by
  rw[<-r,tB,List.flatMap_map];exact A9
 obtain⟨av,cv,rfl⟩:=aV t;have HV:qv (∀b,(Value.slice av a.length cv).ownBlock=some b->W.heap.size<=b):=p9 (fun b hbb=>by
  rcases Aa b ((Bs b).2 (a6 hbb)) with h1|h1
  ·exact Ag.o b h1
  ·exact r8 p.o.size h1)
 have B2:=p9 t;have Au:=p9 Bj;have Q:qv (ew ns es q budget=if 0<=(fU ns es q budget).left then ((jC q.skip q.aX (iq q.order q.down (mG q.af a))).map (iG q.af.length),0) else ([],6)):=p9 (by unfold ew;rw[r]);clear A9 t Bj Bs Aa Bu Al r G Ag HE g s R p cG;by_cases F:0<=(fU ns es q budget).left
 ·have hd:decide (0<=(fU ns es q budget).left)=true:=decide_eq_true F;rw[hd];have HF:qv (ew ns es q budget=((jC q.skip q.aX (iq q.order q.down (mG q.af a))).map (iG q.af.length),0)):=p9 (by rw[Q.o,a8 F]);clear hd F Q;have c3:W5.cell? ⟨Y+1,3,none⟩=some (.slice ia q.af.length ic):=(Ae.o.cell 3).trans d.o.1;have Ap:=p9 (D4 Tryz.Ob (fun x w=>uk x w) (V.o.below I.o) (by have:=i.o.rY;omega));go_wp2_with fail;refine Ap.o.mono ?_;rintro e W6 ⟨rfl,M⟩;have C:=p9 (I.o.trans (M.mono I.o.size));have E:=p9 (Ae.o.grown (ag M none) (by simp));have D:=p9 (Au.o.grown (ag M none) (by simp));have J:=p9 (B2.o.kept (ag M none) (by cases (Value.ownBlock _)<;>simp));clear M I Ae Au B2 Ap c3;go_upto_if 19 with fail;go_cut [] (fun w=>Tv W (Y+1+1) (Y+1) c (mG q.af a) w)
  case first=>
   cases ha:q.af.any fi with
   | false=>
    have HP:qv (mG q.af a=a):=p9 (by unfold mG;rw[ha];rfl);go_wp2_with fail;go_meet;exact⟨⟨av,cv,a,D.o,J.o,by rw[HP.o],HV.o⟩,E.o,C.o⟩
   | true=>
    have c3:W6.cell? ⟨Y+1,3,none⟩=some (.slice ia q.af.length ic):=(E.o.cell 3).trans d.o.1;have cL:W6.cell? ⟨Y+1+1,0,none⟩=some (.slice av a.length cv):=(D.o.cell 0).trans rfl;have HP:qv (mG q.af a=(tS q.af a).map (fun l=>gQ q.af l ((dm (dz q.af) a l).getD 0))):=p9 (by unfold mG;rw[ha];rfl);have HM:=p9 (OO J.o (V.o.below C.o) (fun w hk=>V.o.below (pC C.o HV.o hk)) (by have:=Ac.o;omega) i.o.rY.2 Ax.o);clear ha;go_wp2_with fail;refine HM.o.mono ?_;rintro e W7 ⟨v7,ks,rfl,Am,Bk,A8,A2,Bt⟩;have Aq:=p9 (pC C.o HV.o A2);have X:Loc W7 (Y+1+1) #[.slice av a.length cv] 158:=(A2.block _ D.o.lt (fun e=>aR J.o D.o (by decide) e)).trans D.o;have Bh:Loc W7 (Y+1) c 49:=(A2.block _ E.o.lt (fun e=>aR J.o E.o (by decide) e)).trans E.o;obtain⟨a7,c7,rfl⟩:=aV Am;have l7:W7.cell? ⟨Y+1+1,0,none⟩=some (.slice av a.length cv):=(X.cell 0).trans rfl;have f7:W7.frozen? ⟨Y+1+1,0,none⟩=false:=X.free 0;have Av:=p9 X;have Bz:=p9 Bh;have B3:=p9 Am;have Bw:=p9 (keys_perm Bk A8);have C4:qv (∀b,(Value.slice a7 ks.length c7).ownBlock=some b->W.heap.size<=b):=p9 (fun b hbb=>by
     rcases Bt b hbb with h1|h1
     ·exact HV.o b h1
     ·exact r8 C.o.size h1)
    clear X Bh Am Bk A8 A2 Bt HM c3 cL;go_wp2_with fail;go_meet;have C8:=B3.o.kept (aE W7 (Y+1+1) 0 (.slice a7 ks.length c7)) (a6 (fun e=>aR B3.o Av.o (by decide) e));have C5:=Bz.o.grown (aE W7 (Y+1+1) 0 (.slice a7 ks.length c7)) (by intro e;injection e with e;omega);have el:(ks.map fun l=>gQ q.af l ((dm (dz q.af) a l).getD 0)).length=ks.length:=by simp
    refine⟨⟨a7,c7,ks.map fun l=>gQ q.af l ((dm (dz q.af) a l).getD 0),?_,?_,?_,?_⟩,C5,?_⟩
    ·rw[el];exact Av.o.set 0 _
    ·rw[el];exact C8
    ·rw[HP.o];exact Bw.o.map _
    ·rw[el];exact C4.o
    ·exact Aq.o.grown (aE W7 (Y+1+1) 0 _) Aq.o.size (fun j hj=>by injection hj with hj;rw[<-hj,Ba.o];omega)
  case rest=>
   obtain⟨⟨ao,cp,ls,A,hr,hp,hv⟩,hq,N⟩:=hcut;have B8:=p9 (OT (af:=q.af) Ax.o (by have:=Ac.o;omega));have z:qv (∀l∈ls,xO l):=p9 (fun l A=>B8.o l (hp.subset A));have Ad:qv (ls.length<=6001):=p9 (by have h1:=ET q.af a;rw[hp.length_eq];have:=Ac.o;omega);have B5:=p9 (Ce (order:=q.order) (down:=q.down) hp);have cL:wc.cell? ⟨Y+1+1,0,none⟩=some (.slice ao ls.length cp):=(A.cell 0).trans rfl;have B6:=p9 (QI hr (fun l h=>(z.o l h).1) hq d.o.2.2.2.2.2 d.o.2.1 d.o.2.2.1 i.o.order (by have:=Ad.o;omega));have T:=p9 A;have Af:=p9 hr;have U:=p9 hq;have Ar:=p9 N;have B9:=p9 hv;clear A hr hp hv hq N D J E C HV B8;go_wp2_with fail;refine B6.o.mono ?_;rintro e L ⟨rfl,A5,A3⟩;have As:=p9 (pC Ar.o B9.o A3);have Aw:qv (Loc L (Y+1+1) #[.slice ao ls.length cp] 158):=p9 ((A3.block _ T.o.lt (fun e=>aR Af.o T.o (by decide) e)).trans T.o);have B0:qv (Loc L (Y+1) c 49):=p9 ((A3.block _ U.o.lt (fun e=>aR Af.o U.o (by decide) e)).trans U.o);obtain⟨st,A6⟩:∃st,iq q.order q.down ls=st:=⟨_,rfl⟩;rw[A6] at A5 B5;have An:st.length=ls.length:=by rw[<-A6];unfold iq;rw[tB,(l8 _ _).length_eq,tB]
   have A7:qv (∀l∈st,xO l):=p9 (by
    rw[<-A6];intro l A;unfold iq at A;obtain⟨x,hx,rfl⟩:=List.mem_map.1 A;have h1:=(l8 _ _).subset hx;obtain⟨y,hy,rfl⟩:=List.mem_map.1 h1;rw[xA (z.o y hy).1];exact z.o y hy)
   have B4:=p9 (aJ A5 A5.1);have Ay:qv (st.length<=6001):=p9 (by rw[An];exact Ad.o);rw[<-An] at B4 Aw;clear A6 An A5 A3 B6 z T Af U Ar B9 Ad cL;have Ah:L.cell? ⟨Y+1+1,0,none⟩=some (.slice ao st.length cp):=(Aw.o.cell 0).trans rfl;have Ai:L.cell? ⟨Y+1,3,none⟩=some (.slice ia q.af.length ic):=(B0.o.cell 3).trans d.o.1;have HS:qv (∀w,Below L.heap.size L w->w.cell? ⟨Y+1+1,0,none⟩=some (.slice ao st.length cp)/\w.rangeAt (Y+1) 0 c.toList/\w.cell? ⟨Y+1,3,none⟩=some (.slice ia q.af.length ic)):=p9 (fun w hb=>⟨(hb.cell (block_lt_of_cell Ah)).trans Ah,(B0.o.grown (ag hb none) (by simp)).range,(hb.cell (block_lt_of_cell Ai)).trans Ai⟩);have Ab:qv (Below L.heap.size L L.drew):=p9 ⟨rfl,rfl,rfl,rm _,fun _ _=>rfl⟩;clear Ah Ai;go_upto_region 8 with fail;refine wp_region_noPanic ?_;refine wp_region_held_drew (S:=fun w'=>w'.cell? ⟨Y+1+1,0,none⟩=some (.slice ao st.length cp)/\w'.rangeAt (Y+1) 0 c.toList/\w'.cell? ⟨Y+1,3,none⟩=some (.slice ia q.af.length ic)) (by kernel_rfl) (HS.o _ Ab.o) (fun hHeld0=>?_);refine mB [0,1,3,4,5] (by kernel_rfl) hHeld0 ?_
   iterate 1
    apply eH.one rfl (by rfl)
    ·intro w Z;obtain⟨C6,_,C7⟩:=Z;go_simp;(try with_reducible rfl)
    simp only[Act.put,tp,r9,vm,vk,ud]
   refine eH.by rfl (yieldsIf_load_mid (by rfl) 49 _ rfl (Y+1) 0 rfl c.toList _ (fun w hw=>hw.2.1) underlying49 rfl B1.o) ?_
   simp only[Act.put,tp,r9,tk,DI]
   iterate 3
    apply eH.one rfl (by rfl)
    ·intro w Z;obtain⟨C6,_,C7⟩:=Z;go_simp;(try with_reducible rfl)
    simp only[Act.put,tp,r9,tk,vm,vk,ud]
   refine wpAnyH_ready (rs:=[2]) (by kernel_rfl) (by simp) ?_;refine AllReadyH.cons rfl (fun K hK=>?_) AllReadyH.nil;have Bp:=i.o.skip;have Bi:=i.o.aX;refine fb rfl 88 _ _ Tryz.JR rfl #[.slice ao st.length cp,.agg c] (by simp[Act.eval]) (Rs (B4.o.below Ab.o) (by have:=Ay.o;omega) d.o.2.2.2.1 d.o.2.2.2.2.1 ⟨Bp.1,Bp.2,Bi.1,Bi.2⟩) (fun e w1 hp=>?_);obtain⟨⟨ap,c1,rfl,Bq⟩,A0⟩:=hp;refine⟨_,rfl,?_⟩;have u:qv (Below L.heap.size L w1):=p9 (Ab.o.trans A0);have B7:=p9 Bq;refine hK.out _ _ (HS.o w1 u.o) (fun hHeld1=>?_);clear hK K hHeld0 A0 Bq;simp only[Act.put,tp,r9,tk];obtain⟨pc,O⟩:∃pc,jC q.skip q.aX st=pc:=⟨_,rfl⟩;have Bx:qv (pc.length<=6001):=p9 (by
    rw[<-O];unfold jC;have:=Ay.o;split
    ·rw[x9];omega
    ·rw[v8,x9];omega)
   have By:qv (∀l∈pc,xO l):=p9 (by
    rw[<-O];unfold jC;intro l A;split at A
    ·exact A7.o l (List.mem_of_mem_drop A)
    ·exact A7.o l (List.mem_of_mem_drop (List.mem_of_mem_take A)))
   rw[O] at B7⊢;have At:qv (ew ns es q budget=(pc.map (iG q.af.length),0)):=p9 (by rw[HF.o,<-B5.o,O]);clear O;refine wpAnyH_ready (rs:=[6]) (by kernel_rfl) (by simp) ?_;refine AllReadyH.cons rfl (fun K hK=>?_) AllReadyH.nil;have P:qv (Below W.heap.size W w1):=p9 (As.o.trans (u.o.mono As.o.size));refine fb rfl 87 _ _ Tryz.Kx rfl #[.slice ap pc.length c1,.int .i64 (q.af.length:Int)] (by simp[Act.eval]) (Rb B7.o (by have:=Bx.o;omega) By.o i.o.rY (HT.o.below P.o)) (fun e w2 hp=>?_);obtain⟨⟨vr,rfl,Bm⟩,A1⟩:=hp;refine⟨_,rfl,?_⟩;have C1:=p9 (cP Bm P.o.size);have Bv:=p9 (P.o.trans (A1.mono P.o.size));refine hK.out _ _ (HS.o w2 (u.o.trans (A1.mono u.o.size))) (fun hHeld2=>?_);clear hK K hHeld1 A1 Bm;simp only[Act.put,tp,r9,tk];refine mB [7,8] (by kernel_rfl) hHeld2 ?_
   iterate 2
    apply eH.one rfl (by rfl)
    ·intro w Z;go_simp;(try with_reducible rfl)
    simp only[Act.put,tp,r9,tk,vm,vk,ud]
   refine wpAnyH_done (by kernel_rfl) ?_ _;refine NoPanic.normal ?_;clear hHeld2;go_simp;go_wp2_with fail;go_ret2;refine⟨⟨vr,?_,?_⟩,Bv.o⟩
   ·rw[At.o]
    rfl
   ·rw[At.o];simp only[tB];exact C1.o
 ·have hd:decide (0<=(fU ns es q budget).left)=false:=decide_eq_false F;rw[hd];have HF:qv (ew ns es q budget=([],6)):=p9 (by rw[Q.o,bk F]);clear hd F Q;go_wp2_with fail;go_ret2;refine⟨⟨.slice none 0 0,?_,?_⟩,I.o⟩
  ·rw[HF.o]
   rfl
  ·rw[HF.o];exact tj _ _ _ _
variable {gb go:Nat} {T:TypeId} {cs:Array Value} {vn ve:Value} {ns:List aH} {last:Int} {W w:World}
theorem kN.low{es:List bK}{m:Nat}(h:kN gb go T cs vn ve ns es last m W):∀b,Ma gb vn ve ns b->b<W.heap.size:=by
 intro b a;rcases a with rfl|a|a|⟨x,c,rfl⟩
 ·exact h.bJ.lt
 ·exact(h.on.lt b a).2
 ·exact(h.oe.lt b a).2
 ·exact(h.bf x c).lt
theorem Tryz.QH(args:Array Value)(w:World):(callFunc 37 args).run prog w=.ok (.enter 37 args) w:=by go_simp
def sY(gb go:Nat)(T:TypeId)(cs:Array Value)(vn ve:Value)(ns:List aH)(W:World)(g:wO)(W':World):Prop:=
 ∃ns' cs' vn',ns'.map eR=g.ns.map eR/\kN gb go T cs' vn' ve ns' g.es g.last 6 W'/\cs'.size=cs.size/\(∀j,j<go\/go+2<j->cs'[j]?=cs[j]?)/\Kept (fun b=>b=gb\/vn.ownBlock=some b) W W'/\wI W vn vn'/\∀y∈ns',(∃x∈ns,x.bJ=y.bJ)\/W.heap.size<=y.bJ
theorem sY.same(h:kN gb go T cs vn ve ns [] last 6 W)(a:Below W.heap.size W w):sY gb go T cs vn ve ns W ⟨ns,[],last⟩ w:=
 ⟨ns,cs,vn,rfl,h.later a,rfl,fun _ _=>rfl,(Kept.refl _ W).below a,fun _ a=>ad a,fun y hy=>ad ⟨y,hy,rfl⟩⟩
theorem sY.from{n:World}{g:wO}(h:sY gb go T cs vn ve ns n g w)(k:Below W.heap.size W n):sY gb go T cs vn ve ns W g w:=by
 obtain⟨l,i,m,a,b,c,d,e,f,j⟩:=h;exact⟨l,i,m,a,b,c,d,((Kept.refl _ W).below k).trans e,fun x hx=>(f x hx).imp id (fun h=>r8 k.size h),fun y hy=>(j y hy).imp id (fun h=>r8 k.size h)⟩
theorem sY.below{i:World}{g:wO}(h:sY gb go T cs vn ve ns W g i)(n:Below i.heap.size i w):sY gb go T cs vn ve ns W g w:=by
 obtain⟨l,k,m,a,b,c,d,e,f,j⟩:=h;exact⟨l,k,m,a,b.later n,c,d,e.below n,f,j⟩
theorem sY.under{g:wO}(h:sY gb go T cs vn ve ns W g w)(a:∀b,(b=gb\/vn.ownBlock=some b)->Z<=b)(c:Z<=W.heap.size):Below Z W w:=by
 obtain⟨_,_,_,_,_,_,_,k,_⟩:=h;exact⟨k.os,k.tape,k.output,k.size,fun b hb=>k.block b (vH hb c) (fun e=>by have:=a b e;omega)⟩
theorem SU{cap:Nat}{S:bF->Bool}{q:aI}{vs vc vi:Value}{a:Option Addr}(h:kN gb go T cs vn ve ns [] last 6 W)(w:go+2<cs.size)(n:Rc ⟨ns,[],last⟩)(r:dl W rb rn S)(v:kG q)(hp:dj W 2 (.slice a q.aj.length cap) q.aj.length (q.aj.flatMap dG)):
  Calls prog 138 #[.pointer (some ⟨gb,go,none⟩),.agg #[.string nm,.map (some rb)],.agg (qC q vs vc vi (.slice a q.aj.length cap)),.int .i64 budget] W fun e W'=>e=.returned (.tuple #[.int .i64 (xZ S ⟨ns,[],last⟩ q budget).1,.int .i64 (xZ S ⟨ns,[],last⟩ q budget).2.1])/\sY gb go T cs vn ve ns W (xZ S ⟨ns,[],last⟩ q budget).2.2 W':=by
 obtain⟨_,o,x,hk⟩:=pL v;have u:=n.n40;simp only at u;by_cases hm:jz S q budget ns.length=0
 ·have e:xZ S ⟨ns,[],last⟩ q budget=(last+1,0,⟨ns++[⟨last+1,q.ai,0,jS q.aj⟩],[],last+1⟩):=by
   unfold xZ;simp only;rw[a8 hm]
  rw[e];have b:=n.last;simp only at b;refine(OD h w r hp (by omega) o hk ⟨b.1,by omega⟩ (by omega) hm).mono ?_;rintro e W' ⟨rfl,m,d,z,s,l,i,k,g,f⟩;refine⟨rfl,_,d,m,?_,s,l,fun j hj=>i j (by omega) (by omega),g,f,fun y c=>?_⟩
  ·simp[eR]
  ·rcases List.mem_append.1 c with c|c
   ·exact ad ⟨y,c,rfl⟩
   ·rw[List.mem_singleton.1 c];exact a6 k
 ·have e:xZ S ⟨ns,[],last⟩ q budget=(0,jz S q budget ns.length,⟨ns,[],last⟩):=by
   unfold xZ;simp only;rw[bk hm]
  rw[e];refine(RM h r hp (by omega) o (fun p hp=>(hk p hp).1) (by omega) (by simpa using hm)).mono ?_;rintro e W' ⟨rfl,t⟩;exact⟨rfl,sY.same h t⟩
theorem SQ{S:bF->Bool}{q:aI}(h:kN gb go T cs vn ve ns [] last 6 W)(w:go+2<cs.size)(u:Rc ⟨ns,[],last⟩)(v:dl W rb rn S)(r:kG q)(m:dj W 2 (.slice pa q.aj.length pc) q.aj.length (q.aj.flatMap dG)):
  Calls prog 92 #[.pointer (some ⟨gb,go,none⟩),.agg #[.string nm,.map (some rb)],.agg (qC q (.slice sa q.ah.length sc) (.slice ca q.aq.length cc) (.slice ia q.af.length ic) (.slice pa q.aj.length pc)),.int .i64 budget] W fun e W'=>e=.returned (.tuple #[.int .i64 (xZ S ⟨ns,[],last⟩ q budget).1,.int .i64 (xZ S ⟨ns,[],last⟩ q budget).2.1])/\sY gb go T cs vn ve ns W (xZ S ⟨ns,[],last⟩ q budget).2.2 W':=by
 obtain⟨g,f⟩:∃g,qC q (.slice sa q.ah.length sc) (.slice ca q.aq.length cc) (.slice ia q.af.length ic) (.slice pa q.aj.length pc)=g:=⟨_,rfl⟩;have l:g.size=17:=by rw[<-f];rfl
 have j:=(r5 W.heap.size W).alloc (rm _) (.cells #[.string nm,.map (some rb)] 104);have c:=j.alloc j.size (.cells g 49);have i:=p9 ((Loc.new W #[.string nm,.map (some rb)] 104).alloc (.cells g 49));have b:=p9 (Loc.new (W.alloc (.cells #[.string nm,.map (some rb)] 104)) g 49);have p:qv ((prog.info? 49).map (·.size)=some g.toList.length):=p9 (by rw[Tryz.bp,A4,l]);have d:g[0]?=some (.int .i64 5):=by rw[<-f,<-(pL r).1];rfl
 have a:=SU (nm:=nm) (budget:=budget) (vs:=.slice sa q.ah.length sc) (vc:=.slice ca q.aq.length cc) (vi:=.slice ia q.af.length ic) (h.later c) w u (v.kept (ag c none) (by simp)) r (m.below c);rw[f] at a;have a:=p9 a;have k:=p9 c;have n:=p9 d;clear h w u v r m j c l d;rw[f];clear f;generalize xZ S ⟨ns,[],last⟩ q budget=R at a⊢;go_enter func92,ntmps92
 go_upto_region 1 with fail;obtain⟨Y,s⟩:∃Y,Y=W.heap.size:=⟨_,rfl⟩;rw[z6] at b;rw[<-s] at i b⊢;clear s;generalize (W.alloc (.cells #[.string nm,.map (some rb)] 104)).alloc (.cells g 49)=y at a k i b⊢;have B:=i.o.at_ 0 (.string nm) rfl;have C:=i.o.at_ 1 (.map (some rb)) rfl;have A:y.cell? ⟨Y+1,0,none⟩=some (.int .i64 5):=(b.o.cell 0).trans n.o;go_wp2_with (refine wpList_load_mid rfl 49 _ rfl (Y+1) 0 rfl g.toList _ b.o.range underlying49 rfl p.o ?_;simp only[DI])
 refine a.o.mono ?_;rintro e z ⟨rfl,t⟩;have x:=p9 (t.from k.o);clear t a;go_wp2_with fail;go_ret2;exact⟨rfl,x.o⟩
theorem TV{S:bF->Bool}{q:aI}(h:kN gb go T cs vn ve ns [] last 6 W)(L:go+2<cs.size)(F:Rc ⟨ns,[],last⟩)(J:dl W rb rn S)(V:kG q)(t:∀b,(b=gb\/vn.ownBlock=some b)->Z<=b)(H:Z<=W.heap.size)(K:∀w,Below Z W w->Fa w)(x:dj W 2 (.slice pa q.aj.length pc) q.aj.length (q.aj.flatMap dG)):
  Calls prog 39 #[.pointer (some ⟨gb,go,none⟩),.agg #[.string nm,.map (some rb)],.agg (qC q (.slice sa q.ah.length sc) (.slice ca q.aq.length cc) (.slice ia q.af.length ic) (.slice pa q.aj.length pc)),.int .i64 budget] W fun e W'=>(∃v,e=.returned (.tuple #[v,.int .i64 (Li S ⟨ns,[],last⟩ q budget).2])/\W'.ownsRow W.heap.size 9 1 v (Li S ⟨ns,[],last⟩ q budget).1.length (strs (Li S ⟨ns,[],last⟩ q budget).1))/\sY gb go T cs vn ve ns W (Oa S ⟨ns,[],last⟩ q budget).2.2 W':=by
 obtain⟨g,f⟩:∃g,qC q (.slice sa q.ah.length sc) (.slice ca q.aq.length cc) (.slice ia q.af.length ic) (.slice pa q.aj.length pc)=g:=⟨_,rfl⟩;have u:g.size=17:=by rw[<-f];rfl
 have j:=(r5 W.heap.size W).alloc (rm _) (.cells #[.string nm,.map (some rb)] 104);have d:=j.alloc j.size (.cells g 49);have c:=p9 ((Loc.new W #[.string nm,.map (some rb)] 104).alloc (.cells g 49));have a:=p9 (Loc.new (W.alloc (.cells #[.string nm,.map (some rb)] 104)) g 49);have n:=p9 d;have B:qv ((prog.info? 49).map (·.size)=some g.toList.length):=p9 (by rw[Tryz.bp,A4,u]);have m:=p9 (SQ (nm:=nm) (sa:=sa) (sc:=sc) (ca:=ca) (cc:=cc) (ia:=ia) (ic:=ic) (budget:=budget) (h.later d) L F (J.kept (ag d none) (by simp)) V (x.below d));rw[f] at m;have l:0<=(xZ S ⟨ns,[],last⟩ q budget).1/\(xZ S ⟨ns,[],last⟩ q budget).1<=1000001:=by
  have U:=F.last;simp only at U;unfold xZ;split
  ·simp only;omega
  ·simp
 have A:=p9 t;have z:=p9 H;have M:=p9 K;clear h L F J t H K x j d u;rw[f];clear f;have s:Oa S ⟨ns,[],last⟩ q budget=xZ S ⟨ns,[],last⟩ q budget:=rfl;unfold Li;rw[s];clear s;generalize xZ S ⟨ns,[],last⟩ q budget=R at m l⊢;obtain⟨O,p,g2⟩:=R;simp only at m l⊢;go_enter func39,ntmps39
 go_upto_region 1 with fail;obtain⟨Y,E⟩:∃Y,Y=W.heap.size:=⟨_,rfl⟩;rw[z6] at a;rw[<-E] at c a⊢;have C:=p9 E;clear E;generalize (W.alloc (.cells #[.string nm,.map (some rb)] 104)).alloc (.cells g 49)=W2 at m n c a⊢;have X:=c.o.at_ 0 (.string nm) rfl;have r1:=c.o.at_ 1 (.map (some rb)) rfl;go_wp2_with (refine wpList_load_mid rfl 49 _ rfl (Y+1) 0 rfl g.toList _ a.o.range underlying49 rfl B.o ?_;simp only[DI])
 refine m.o.mono ?_;rintro e P ⟨rfl,I⟩;have y:=p9 (I.from n.o);clear I m X r1 c a;by_cases he:p=0
 ·subst he;have N:=p9 (y.o.under A.o z.o);obtain⟨h1,h2⟩:=l;rw[C.o];go_wp2_with fail;refine(Ig ⟨by omega,by omega⟩ (M.o P N.o)).mono ?_;rintro e D ⟨rfl,r⟩;have i:=p9 r;clear r;go_wp2_with fail;go_ret2;have G:W.heap.size<=D.heap.size:=by
   obtain⟨_,_,_,_,_,_,_,k,_⟩:=y.o;exact r8 k.size i.o.size
  refine⟨⟨_,rfl,⟨rfl,a6 ⟨D.heap.size,1,#[.string (bP O)],rfl,G,heap_alloc_new D _,rm _,by unfold maxLen;omega,rfl,rfl⟩⟩⟩,y.o.below (i.o.alloc i.o.size _)⟩
 ·have Q:(p==0)=false:=by simpa using he
  go_wp2_with fail
  all_goals
   go_ret2;simp only;exact⟨⟨_,rfl,tj _ _ _ _⟩,y.o⟩
theorem VG.MX{pol:List db}{g:wO}(h:VG Z G pol cs vn ve ns [] last 6 W)(p:sY G 1 67 cs vn ve ns W g w)(r:Z<=W.heap.size):∃ns' cs' vn',ns'.map eR=g.ns.map eR/\VG Z G pol cs' vn' ve ns' g.es g.last 6 w/\Kept (fun b=>b=G\/vn.ownBlock=some b) W w/\wI W vn vn':=by
 obtain⟨ns',cs',vn',e,i,j,c,hk,m,d⟩:=p;obtain⟨vp,mp,n,hp⟩:=h.Te;refine⟨ns',cs',vn',e,⟨i,j.trans h.size,⟨vp,mp,(c 0 (by omega)).trans n,h.S5 hp (hk.pT fun b a=>a.elim ad (fun a=>a6 (ad a)))⟩,(c 4 (by omega)).trans h.Nj,(c 5 (by omega)).trans h.NW,fun x hx y k=>?_,fun b a=>?_⟩,hk,m⟩
 ·rcases d y k with ⟨z,l,f⟩|q
  ·rw[<-f];exact h.apart x hx z l
  ·have:=(hp.right x hx).lt;omega
 ·rcases a with a|a|a|⟨y,k,o⟩
  ·exact h.base b (ad a)
  ·rcases m b a with h1|h1
   ·exact h.base b (a6 (ad h1))
   ·omega
  ·exact h.base b (a6 (a6 (ad a)))
  ·rcases d y k with ⟨z,l,f⟩|q
   ·exact h.base b (a6 (a6 (a6 ⟨z,l,by rw[f,o]⟩)))
   ·omega
def KQ(Z G:Nat)(pol:List db)(vn ve:Value)(W:World)(R:(List ByteArray × Int) × wO)(e:Ending)(W':World):Prop:=
 (∃v,e=.returned (.tuple #[v,.int .i64 R.1.2])/\W'.ownsRow W.heap.size 9 1 v R.1.1.length (strs R.1.1))/\∃ns' cs' vn',ns'.map eR=R.2.ns.map eR/\VG Z G pol cs' vn' ve ns' R.2.es R.2.last 6 W'/\Kept (fun b=>b=G\/vn.ownBlock=some b) W W'/\wI W vn vn'
theorem KQ.same{pol:List db}{v:Value}{er:Int}{l:List ByteArray}(h:VG Z G pol cs vn ve ns [] last 6 W)(a:Below W.heap.size W w)(b:w.ownsRow W.heap.size 9 1 v l.length (strs l)):KQ Z G pol vn ve W ((l,er),⟨ns,[],last⟩) (.returned (.tuple #[v,.int .i64 er])) w:=
 ⟨⟨v,rfl,b⟩,ns,cs,vn,rfl,h.later a,(Kept.refl _ W).below a,fun _ a=>ad a⟩
theorem Qn{pol:List db}{role text:ByteArray}{ev:Value}(h:VG Z G pol cs vn ve ns [] last 6 W)(hg:Rc ⟨ns,[],last⟩)(hB:Z<=W.heap.size)(hs:text.size<=maxLen)(B7:nY budget)(ht:∀w,Below Z W w->Fa w)(Ap:∀w,Below Z W w->w.cell? ⟨7,0,none⟩=some ev)(Ao:ev=.nilIface\/∃te pe,ev=.iface te pe)(hk:(parseText (dN text)).2=0->(parseText (dN text)).1.kind=1\/(parseText (dN text)).1.kind=5):
  Calls prog 11 #[.pointer (some ⟨G,0,none⟩),.string role,.string text,.int .i64 budget] W (KQ Z G pol vn ve W (mQ pol ⟨ns,[],last⟩ role text budget)):=by
 obtain⟨vp,mp,c0,hp⟩:=h.Te;obtain⟨ap,cp,rfl⟩:=aV hp.own;have p0:W.cell? ⟨G,0,none⟩=some (.slice ap pol.length cp):=(h.own.bJ.cell 0).trans c0;have Ae:=p9 (N0 (nm:=role) hp.rY (aJ hp.own hp.own.1));have H:=p9 h;have HP:=p9 hp;have HG:=p9 hg;have z:=p9 hB;have HS:=p9 hs;have HT:=p9 ht;have Ax:=p9 Ap;have Aw:=p9 Ao;obtain⟨Ba,Bb⟩:=B7;have Az:=p9 hk;clear h hg hB hs ht Ap Ao c0 hp hk;go_enter func11,ntmps11
 go_wp2_with fail;refine Ae.o.mono ?_;rintro e W1 ⟨rfl,Ai⟩;have x:=p9 Ai;clear Ai Ae p0;cases V:kW pol role with
 | none=>
  have R:qv (mQ pol ⟨ns,[],last⟩ role text budget=(([],2),⟨ns,[],last⟩)):=p9 (by unfold mQ;rw[V]);clear V;unfold EF;go_wp2_with fail;go_ret2;rw[R.o];exact KQ.same H.o (x.o.alloc x.o.size _) (tj _ _ _ _)
 | some r=>
  have R:qv (mQ pol ⟨ns,[],last⟩ role text budget=if (parseText (dN text)).2=0 then yk r.2.2 ⟨ns,[],last⟩ (parseText (dN text)).1 (vE budget) else (([],(parseText (dN text)).2),⟨ns,[],last⟩)):=p9 (by unfold mQ;rw[V]);have D:=p9 (HP.o.right r (Ms V));obtain⟨u,J,S⟩:=r;simp only at R D;clear V;unfold EF;have y:=p9 (x.o.alloc x.o.size (.cells #[.string u,.map (some J)] 104));have L:=p9 (Loc.new W1 #[.string u,.map (some J)] 104);go_upto_region 4 with fail;obtain⟨Y,hY⟩:∃Y,Y=W1.heap.size:=⟨_,rfl⟩;have B3:qv (W.heap.size<=Y):=p9 (by rw[hY];exact x.o.size);rw[<-hY] at L⊢;clear hY;generalize W1.alloc (.cells #[.string u,.map (some J)] 104)=W2 at y L⊢;have Al:Below Z W W2:=y.o.mono z.o;go_wp2_with fail;refine(Jw text W2 (Ax.o W2 Al) Aw.o HS.o).mono ?_;have O:=qO text;have m:=Az.o;generalize B5:parseText (dN text)=PQ at R O m⊢;obtain⟨q,er⟩:=PQ;rintro e N ⟨p,vs,vc,vi,vp,rfl,a⟩;simp only at a R O m⊢;obtain⟨sa,sc,rfl,m1⟩:=aQ (l:=q.ah) a.rs;obtain⟨ca,cc,rfl,m2⟩:=aQ (l:=q.aq) a.rc;obtain⟨ia,ic,rfl,m3⟩:=aQ (l:=q.af) a.rt;obtain⟨pa,pc,rfl,m4⟩:=aQ (l:=q.aj) a.rp;clear m1 m2 m3 m4 B5 Al;obtain⟨f,n⟩:∃f,qC q (.slice sa q.ah.length sc) (.slice ca q.aq.length cc) (.slice ia q.af.length ic) (.slice pa q.aj.length pc)=f:=⟨_,rfl⟩;have P:f.size=17:=by rw[<-n];rfl
  have Ar:f.all (·.oneCell')=true:=by rw[<-n];exact mW q
  have q0:f[0]?=some (.int .i64 q.kind):=by rw[<-n];rfl
  have q8:f[8]?=some (.string q.name):=by rw[<-n];rfl
  have Ac:=p9 n;rw[n];have Ad:qv ((prog.info? 49).map (·.size)=some f.toList.length):=p9 (by rw[Tryz.bp,A4,P]);have kb:=tu (w:=N) (cs:=f) (T:=49) zq;have t:=p9 ((RH a).later kb);have s:qv (Loc ((N.alloc (.cells zq 49)).setCells N.heap.size 0 f.toList) N.heap.size f 49):=p9 ((Loc.new N zq 49).fC (new:=f) (by rw[P];rfl));have A1:=p9 (y.o.trans (p.mono y.o.size));have g:=p9 (A1.o.trans (kb.mono A1.o.size));have B:=p9 ((L.o.grown (ag p none) (by simp)).grown (ag kb none) (by simp));clear p a kb L y n;rename_i KK Af;refine Af _ _ ?_;clear Af KK;refine ej rfl rfl ?_;refine iu rfl rfl rfl rfl ?_;refine iu rfl rfl rfl rfl ?_;refine jl rfl rfl ?_;refine wpList_store_mid rfl 49 _ _ rfl N.heap.size 0 f rfl rfl (by rw[P];exact(Loc.new N zq 49).there) (by rw[P];exact Tryz.bp) Ar ?_;obtain⟨X,hX⟩:∃X,X=N.heap.size:=⟨_,rfl⟩;have B2:qv (W.heap.size<=X):=p9 (by rw[hX];exact A1.o.size);rw[<-hX] at s t g B⊢;clear hX Ar;generalize (N.alloc (.cells zq 49)).setCells X 0 f.toList=U at s t g B⊢;by_cases he:er=0
  ·subst he;have j:qv (mQ pol ⟨ns,[],last⟩ role text budget=yk S ⟨ns,[],last⟩ q (vE budget)):=p9 (by rw[R.o,a8 rfl]);have E:pW q:=by
    rcases O with h1|h1|h1
    ·exact h1.2.1
    ·cases h1
    ·cases h1
   have Ay:=p9 E;have Aa:=p9 (rq budget);have k0:U.cell? ⟨X,0,none⟩=some (.int .i64 q.kind):=(s.o.cell 0).trans q0;clear E O R;go_upto_region 8 with fail;have Am:min (max budget 0) 5000=vE budget:=rfl;rw[Am];generalize vE budget=bd at Aa j⊢;clear Am;have M:qv (∀w,Below U.heap.size U w->w.cell? ⟨Y,0,none⟩=some (.string u)/\w.cell? ⟨Y,1,none⟩=some (.map (some J))/\w.rangeAt X 0 f.toList):=p9 (fun w p=>by
    have h1:=B.o.grown (ag p none) (by simp);exact⟨(h1.cell 0).trans rfl,(h1.cell 1).trans rfl,(s.o.grown (ag p none) (by simp)).range⟩)
   have A:qv (Below U.heap.size U U.drew):=p9 ⟨rfl,rfl,rfl,rm _,fun _ _=>rfl⟩;have c:=p9 (g.o.trans (A.o.mono g.o.size));have A5:qN q\/kG q:=by
    rcases Ay.o with hk|hk|hk|hk|hk|hk
    ·exact ad hk
    ·exact absurd (m rfl) (by rw[(xM hk).2.1];decide)
    ·exact absurd (m rfl) (by rw[(uh hk).2.1];decide)
    ·exact absurd (m rfl) (by rw[(tP hk).2.1];decide)
    ·exact a6 hk
    ·exact absurd (m rfl) (by rw[(BW hk).1];decide)
   clear m;rcases A5 with hk|hk
   ·obtain⟨As,Aq,A8⟩:=Cc hk;have A3:qv (mQ pol ⟨ns,[],last⟩ role text budget=(ew (oO S ns) (Ds S ns []) q bd,⟨ns,[],last⟩)):=p9 (by rw[j.o];unfold yk;rw[a8 A8]);have B1:=p9 As;have B0:=p9 Aq;rw[A8] at k0;have V:ns.length<=1000000/\([]:List bK).length<=1000000:=by have h1:=HG.o.n40;simp only at h1;simp;omega
    have Ab:=p9 (TY (nm:=u) ((H.o.own.Jm V).below c.o) (D.o.kept (ag c.o none) (by simp)) (by unfold maxLen;omega) HG.o.Si HG.o.ty rfl);clear As Aq A8 hk V q0 q8 j D;go_upto_region 10 with fail;clear k0;refine wp_region_noPanic ?_;refine wp_region_held_drew (S:=fun w=>w.cell? ⟨Y,0,none⟩=some (.string u)/\w.cell? ⟨Y,1,none⟩=some (.map (some J))/\w.rangeAt X 0 f.toList) (by kernel_rfl) (M.o _ A.o) (fun hHeld0=>?_);refine mB [0,1,2,3,5,6] (by kernel_rfl) hHeld0 ?_
    iterate 4
     apply eH.one rfl (by rfl)
     ·intro w k;obtain⟨B8,B9,_⟩:=k;go_simp;(try with_reducible rfl)
     simp only[Act.put,tp,r9,tk,vm,vk,ud]
    refine eH.by rfl (yieldsIf_load_mid (by rfl) 49 _ rfl X 0 rfl f.toList _ (fun w hw=>hw.2.2) underlying49 rfl Ad.o) ?_
    simp only[Act.put,tp,r9,tk,DI]
    iterate 1
     apply eH.one rfl (by rfl)
     ·intro w k;go_simp;(try with_reducible rfl)
     simp only[Act.put,tp,r9,tk,vm,vk,ud]
    refine wpAnyH_ready (rs:=[4]) (by kernel_rfl) (by simp) ?_;refine AllReadyH.cons rfl (fun K hK=>?_) AllReadyH.nil;refine fb rfl 37 _ _ Tryz.QH rfl #[.pointer (some ⟨G,1,none⟩),.agg #[.string u,.map (some J)]] (by simp[Act.eval]) Ab.o (fun e W5 hp=>?_);obtain⟨Sb,sn,rfl,B6,A6,I,Aj,_⟩:=hp;refine⟨_,rfl,?_⟩;have d:qv (Below U.heap.size U W5):=p9 (A.o.trans Aj);have A9:=p9 (g.o.trans (d.o.mono g.o.size));have Av:=p9 A6;have A0:=p9 (OB (pa:=pa) (pc:=pc) (budget:=bd) I (B0.o.Qr HG.o A6 rfl) Aa.o B1.o (t.o.later d.o).ss (t.o.later d.o).sc (t.o.later d.o).si (HT.o _ (A9.o.mono z.o)));rw[Ac.o] at A0;refine hK.out _ _ (M.o W5 d.o) (fun hHeld1=>?_);clear hK K hHeld0 Aj I A6 B6 Ab;simp only[Act.put,tp,r9,tk];refine wpAnyH_ready (rs:=[7]) (by kernel_rfl) (by simp) ?_;refine AllReadyH.cons rfl (fun K hK=>?_) AllReadyH.nil;refine fb rfl 36 _ _ Tryz.PC rfl #[.pointer (some ⟨Sb,0,none⟩),.agg f,.int .i64 bd] (by simp[Act.eval]) A0.o (fun e W6 hp=>?_);obtain⟨⟨v,rfl,i⟩,Ak⟩:=hp;refine⟨_,rfl,?_⟩;have Q:=p9 (d.o.trans (Ak.mono d.o.size));have At:=p9 (g.o.trans (Q.o.mono g.o.size));have C:=p9 (cP i A9.o.size);refine hK.out _ _ (M.o W6 Q.o) (fun hHeld2=>?_);clear hK K hHeld1 Ak i A0;simp only[Act.put,tp,r9,tk];refine mB [8,9,10,11] (by kernel_rfl) hHeld2 ?_
    iterate 4
     apply eH.one rfl (by rfl)
     ·intro w k;go_simp;(try with_reducible rfl)
     simp only[Act.put,tp,r9,tk,vm,vk,ud]
    refine wpAnyH_done (by kernel_rfl) ?_ _;refine NoPanic.normal ?_;clear hHeld2;go_simp;go_wp2_with fail;go_ret2;rw[A3.o,<-C2 Av.o];exact KQ.same H.o At.o C.o
   ·have A3:qv (mQ pol ⟨ns,[],last⟩ role text budget=(Li S ⟨ns,[],last⟩ q bd,(Oa S ⟨ns,[],last⟩ q bd).2.2)):=p9 (by rw[j.o];unfold yk;rw[bk (by rw[(pL hk).1];decide),bk (by rw[(pL hk).1];decide)]);rw[(pL hk).1] at k0;have A2:=p9 (TV (nm:=u) (sa:=sa) (sc:=sc) (ca:=ca) (cc:=cc) (ia:=ia) (ic:=ic) (Z:=Z) (budget:=bd) (H.o.own.later c.o) (by rw[H.o.size];omega) HG.o (D.o.kept (ag c.o none) (by simp)) hk (fun b p=>H.o.base b (p.elim ad fun p=>a6 (ad p))) (r8 z.o c.o.size) (fun w hw=>HT.o w ((c.o.mono z.o).trans hw)) (t.o.later A.o).sp);rw[Ac.o] at A2;clear hk q0 q8 j D;go_upto_region 13 with fail;clear k0;refine wp_region_noPanic ?_;refine wp_region_held_drew (S:=fun w=>(w.cell? ⟨Y,0,none⟩=some (.string u)/\w.cell? ⟨Y,1,none⟩=some (.map (some J))/\w.rangeAt X 0 f.toList)) (by kernel_rfl) (M.o _ A.o) (fun hHeld0=>?_);refine mB [0,1,2,3,4,5] (by kernel_rfl) hHeld0 ?_
    iterate 4
     apply eH.one rfl (by rfl)
     ·intro w k;obtain⟨B8,B9,_⟩:=k;go_simp;(try with_reducible rfl)
     simp only[Act.put,tp,r9,tk,vm,vk,ud]
    refine eH.by rfl (yieldsIf_load_mid (by rfl) 49 _ rfl X 0 rfl f.toList _ (fun w hw=>hw.2.2) underlying49 rfl Ad.o) ?_
    simp only[Act.put,tp,r9,tk,DI]
    iterate 1
     apply eH.one rfl (by rfl)
     ·intro w k;go_simp;(try with_reducible rfl)
     simp only[Act.put,tp,r9,tk,vm,vk,ud]
    refine wpAnyH_ready (rs:=[6]) (by kernel_rfl) (by simp) ?_;refine AllReadyH.cons rfl (fun K hK=>?_) AllReadyH.nil;refine fb rfl 39 _ _ Tryz.QJ rfl #[.pointer (some ⟨G,1,none⟩),.agg #[.string u,.map (some J)],.agg f,.int .i64 bd] (by simp[Act.eval]) A2.o (fun e W5 hp=>?_);obtain⟨⟨v,rfl,i⟩,An⟩:=hp;refine⟨_,rfl,?_⟩;have Au:=p9 (An.from c.o);have C:=p9 (cP i c.o.size);have F:=fun (b:Nat) (p:b=G\/vn.ownBlock=some b)=>H.o.own.low b (p.elim ad fun p=>a6 (ad p));obtain⟨_,_,_,_,_,_,_,A7,_⟩:=An;have Ah:W5.cell? ⟨Y,0,none⟩=some (.string u)/\W5.cell? ⟨Y,1,none⟩=some (.map (some J))/\W5.rangeAt X 0 f.toList:=by
     have Ag:Loc W5 Y #[.string u,.map (some J)] 104:=(A7.block Y B.o.lt (fun e=>by have h1:=F Y e;have h2:=B3.o;omega)).trans B.o;have B4:Loc W5 X f 49:=(A7.block X s.o.lt (fun e=>by have h1:=F X e;have h2:=B2.o;omega)).trans s.o;exact⟨(Ag.cell 0).trans rfl,(Ag.cell 1).trans rfl,B4.range⟩
    refine hK.out _ _ Ah (fun hHeld2=>?_);clear hK K hHeld0 i A7 F Ah A2;simp only[Act.put,tp,r9,tk];refine mB [7,8,9,10] (by kernel_rfl) hHeld2 ?_
    iterate 4
     apply eH.one rfl (by rfl)
     ·intro w k;go_simp;(try with_reducible rfl)
     simp only[Act.put,tp,r9,tk,vm,vk,ud]
    refine wpAnyH_done (by kernel_rfl) ?_ _;refine NoPanic.normal ?_;clear hHeld2;go_simp;go_wp2_with fail;go_ret2;rw[A3.o];exact⟨⟨v,rfl,C.o⟩,H.o.MX Au.o z.o⟩
  ·have Bc:(er==0)=false:=by simpa using he
   have j:qv (mQ pol ⟨ns,[],last⟩ role text budget=(([],er),⟨ns,[],last⟩)):=p9 (by rw[R.o,bk he]);go_wp2_with fail
   all_goals
    go_ret2;rw[j.o];exact KQ.same H.o g.o (tj _ _ _ _)
end
end Go.Proofs.YtbfmmmjkjhjleaaGreatDoor
