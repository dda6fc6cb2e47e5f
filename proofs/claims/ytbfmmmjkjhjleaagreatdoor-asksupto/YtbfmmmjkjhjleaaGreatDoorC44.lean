/- Mine. -/
import Derived.Test.YtbfmmmjkjhjleaaGreatDoorC43
import Derived.Test.YtbfmmmjkjhjleaaGreatDoorC42
import Derived.Test.YtbfmmmjkjhjleaaGreatDoorC23
set_option maxRecDepth 100000
set_option maxHeartbeats 0
namespace Go.Proofs.YtbfmmmjkjhjleaaGreatDoor
open Go.Proofs.Tryz
section
open Go.RowKit Go.Maps
theorem Tryz.LP(args:Array Value)(w:World):(callFunc 11 args).run prog w=.ok (.enter 11 args) w:=by go_simp
theorem Tryz.NJ(args:Array Value)(w:World):(callFunc 25 args).run prog w=.ok (.enter 25 args) w:=by go_simp
def Es(Z B:Nat)(vals:List Value)(W:World)(e:Ending)(W':World):Prop:=e=.returned (.bool true)/\∃o' lv' vals',LI Z B o' lv' vals' W'/\vals'.length<=vals.length+4/\Below Z W W'
theorem Pb{pol:List db}{g:wO}{role text:ByteArray}{budget:Int}(hk:(parseText (dN text)).2=0->(parseText (dN text)).1.kind=1\/(parseText (dN text)).1.kind=5):(mQ pol g role text budget).1.1.length<=10000:=by
 unfold mQ;split
 ·simp
 ·split
  ·rename_i r a he;unfold yk;rcases hk he with h1|h1
   ·rw[a8 h1];exact GF (rq budget)
   ·rw[bk (by rw[h1];decide),bk (by rw[h1];decide)];unfold Li;split<;>simp
  ·simp
theorem step_end{Z B:Nat}{o:Bool->Option Sd}{m v:Value}{a:List Value}{l:List ByteArray}{W0 W w:World}{n:Nat}(h:LI Z B o m a W)(i:W.ownsRow n 9 1 v l.length (strs l))(r:l.length<=900000)(s:∀(j:Nat) (q:j<a.length) b,a[j].ownBlock=some b->b<n)(t:Z<=n)(c:Below Z W0 W)(hk:Ew B #[uF (o false),uF (o true),ul (o false),ul (o true),m] a l.length (uA a.length) m v W w):Es Z B a W0 (.returned (.bool true)) w:=by
 obtain⟨p,u,x,hu,f,d,g⟩:=hk;have k:=fo i (tJ _);refine⟨rfl,o,p,a++u,h.kept rfl k r (fun j q b h1 h2=>?_) hu f d g,by simp[hu],c.trans (d.under (fun b c=>?_) h.I5)⟩
 ·have y:=s j q b h1;have z:=(i.lt b h2).1;omega
 ·rcases c with rfl|c|c
  ·exact h.low
  ·exact h.Tb b c
  ·exact r8 t (i.lt b c).1
theorem Re{Z B:Nat}{o:Bool->Option Sd}{lv:Value}{a:List Value}{W:World}{kind budget:Int}{other:Bool}{name role text:ByteArray}{ev:Value}(h:LI Z B o lv a W)(Bb:a.length<=7999990)(hs:text.size<=maxLen)(C0:kind<=2)(C1:-9223372036854775808<=kind)(B0:nY budget)(ht:∀w,Below Z W w->Fa w)(B3:∀w,Below Z W w->w.cell? ⟨7,0,none⟩=some ev)(B1:ev=.nilIface\/∃te pe,ev=.iface te pe)(hk:(parseText (dN text)).2=0->(parseText (dN text)).1.kind=1\/(parseText (dN text)).1.kind=5):
  Calls prog 9 #[.pointer (some ⟨B,0,none⟩),.agg #[.int .i64 kind,.bool other,.string name,.string role,.string text,.int .i64 budget]] W (Es Z B a W):=by
 have Aa:=p9 ((r5 W.heap.size W).alloc (rm _) (.cells #[.int .i64 kind,.bool other,.string name,.string role,.string text,.int .i64 budget] 41));have E:=p9 (Loc.new W #[.int .i64 kind,.bool other,.string name,.string role,.string text,.int .i64 budget] 41);have u:=p9 (h.later Aa.o);have HZ:=p9 h.I5;have A:qv (Below Z W (W.alloc (.cells #[.int .i64 kind,.bool other,.string name,.string role,.string text,.int .i64 budget] 41))):=p9 (Aa.o.mono h.I5);have HT:=p9 ht;have Bd:=p9 B3;have Bc:=p9 B1;have HS:=p9 hs;have HK:=p9 hk;have An:=p9 B0;have Ay:=p9 Bb;have Bx:kind<=9223372036854775807:=by omega
 clear h ht B3 B1 hs hk B0 Bb;go_enter func9,ntmps9
 go_upto_region 1 with fail;obtain⟨Y,hY⟩:∃Y,Y=W.heap.size:=⟨_,rfl⟩;rw[<-hY] at E⊢;clear hY;generalize W.alloc (.cells #[.int .i64 kind,.bool other,.string name,.string role,.string text,.int .i64 budget] 41)=M at Aa E u A⊢;have y0:=E.o.at_ 0 (.int .i64 kind) rfl;have y1:=E.o.at_ 1 (.bool other) rfl;have hc:=u.o.TN other;cases P:o other with
 | none=>
  rw[P] at hc;obtain⟨T,_⟩:=hc;simp only[uF] at T;cases other
  all_goals
   simp only[sx] at T;go_wp2_with fail;go_ret;exact⟨rfl,o,lv,a,u.o,by omega,A.o⟩
 | some d=>
  rw[P] at hc;obtain⟨T,hg⟩:=hc;simp only[uF,ul] at T hg;have Bg:=p9 P;have i:=p9 (u.o.ok other d P);have At:qv (∀(j:Nat) (hj:j<a.length) b,a[j].ownBlock=some b->b<M.heap.size):=p9 (fun j hj b hb=>by
   obtain⟨n,_,h2⟩:=u.o.Sc j hj;exact(h2.lt b hb).2)
  clear P;by_cases B5:kind=1
  ·subst B5;obtain⟨SX,Ah⟩:∃SX:World->Prop,SX=fun w=>w.cell? ⟨B,sx other,none⟩=some (.pointer (some ⟨d.G,0,none⟩))/\w.cell? ⟨B,2+sx other,none⟩=some (.pointer (some ⟨d.gb,0,none⟩))/\w.cell? ⟨Y,3,none⟩=some (.string role)/\w.cell? ⟨Y,4,none⟩=some (.string text)/\w.cell? ⟨Y,5,none⟩=some (.int .i64 budget):=⟨_,rfl⟩;have V:qv (∀w,Loc w B #[uF (o false),uF (o true),ul (o false),ul (o true),lv] 33->Loc w Y #[.int .i64 1,.bool other,.string name,.string role,.string text,.int .i64 budget] 41->SX w):=p9 (fun w h1 h2=>by
    rw[Ah];have e1:=h1.cell (sx other);have e2:=h1.cell (2+sx other);rw[<-u.o.bJ.cell,T] at e1;rw[<-u.o.bJ.cell,hg] at e2;exact⟨e1,e2,(h2.cell 3).trans rfl,(h2.cell 4).trans rfl,(h2.cell 5).trans rfl⟩)
   have F:qv (∀w,SX w->w.cell? ⟨B,sx other,none⟩=some (.pointer (some ⟨d.G,0,none⟩))/\w.cell? ⟨B,2+sx other,none⟩=some (.pointer (some ⟨d.gb,0,none⟩))/\w.cell? ⟨Y,3,none⟩=some (.string role)/\w.cell? ⟨Y,4,none⟩=some (.string text)/\w.cell? ⟨Y,5,none⟩=some (.int .i64 budget)):=p9 (fun w h=>by rw[Ah] at h;exact h);clear Ah hg;have Ac:qv (Below M.heap.size M M.drew):=p9 ⟨rfl,rfl,rfl,rm _,fun _ _=>rfl⟩;have m:=p9 (u.o.later Ac.o);have Ag:qv (Loc M.drew Y #[.int .i64 1,.bool other,.string name,.string role,.string text,.int .i64 budget] 41):=p9 E.o;have f:=p9 (i.o.later Ac.o);have A4:qv (Below Z W M.drew):=p9 (A.o.trans (Ac.o.mono u.o.I5));have A7:qv (∀(j:Nat) (hj:j<a.length) b,a[j].ownBlock=some b->b<M.drew.heap.size):=At;have t:=p9 (Qn (role:=role) (text:=text) (budget:=budget) f.o.vg f.o.rel.TW m.o.I5 HS.o An.o (fun w hw=>HT.o w (A4.o.trans hw)) (fun w hw=>Bd.o w (A4.o.trans hw)) Bc.o HK.o);have H:qv (∀w,RG d.gb d.rv d.rl d.nv d.zf d.last w->Calls prog 25 #[.pointer (some ⟨d.gb,0,none⟩),.string role,.string text,.int .i64 budget] w (pF d.gb d.rv d.nv d.rl d.pol w (mQ d.pol ⟨d.ns,[],d.last⟩ role text budget))):=p9 (fun w hw=>Ss hw f.o.rel HS.o An.o HK.o);have s:=p9 (Pb (pol:=d.pol) (g:=⟨d.ns,[],d.last⟩) (role:=role) (budget:=budget) HK.o);generalize mQ d.pol ⟨d.ns,[],d.last⟩ role text budget=R at t H s;obtain⟨⟨L,er⟩,g2⟩:=R;cases other
   all_goals
    simp only[sx,Nat.reduceAdd,Bs] at T F;go_upto_region 8 with fail;clear T y0 y1;refine wp_region_noPanic ?_;refine wp_region_held_drew (S:=SX) (by kernel_rfl) (V.o _ m.o.bJ Ag.o) (fun hH=>?_);generalize M.drew=W2 at m Ag f A4 A7 t hH⊢;refine mB [0,1,2,3,4,5,6,7,8,9,10,11] (by kernel_rfl) hH ?_
    iterate 12
     apply eH.one rfl (by rfl)
     ·intro w N;obtain⟨c1,c2,c3,c4,c5⟩:=F.o w N;go_simp;(try with_reducible rfl)
     simp only[Act.put,tp,r9,tk,vm,vk,ud]
    refine wpAnyH_ready (rs:=[12]) (by kernel_rfl) (by simp) ?_;refine AllReadyH.cons rfl (fun K hK=>?_) AllReadyH.nil;refine fb rfl 11 _ _ Tryz.LP rfl #[.pointer (some ⟨d.G,0,none⟩),.string role,.string text,.int .i64 budget] (by simp[Act.eval]) t.o (fun e U hp=>?_);obtain⟨⟨v,rfl,A9⟩,C2,Bz,C4,B9,Ba,p,B4⟩:=hp;refine⟨_,rfl,?_⟩;have p:Kept (IH d) W2 U:=p;have hw:=NB f.o;have X:=p9 (hw.loc p m.o.bJ (by decide));have A3:=p9 (hw.loc p Ag.o (by decide));have Au:=p9 (f.o.rg.stay hw p (hw.no (gB f.o.rg.bJ) (by decide)) (fun b hb=>hw.no (il f.o.rg.nodes.row hb) (by decide)) (by decide) (by decide) (by decide));have y:=p9 Ba;have Aq:=p9 p;have Bj:=p9 B9;have Be:=p9 B4;have Av:=p9 A9;refine hK.out _ _ (V.o U X.o A3.o) (fun hH2=>?_);clear hK K hH hw Ba p B9 B4 A9 t;simp only[Act.put,tp,r9,tk,vm,vk,ud];refine mB [13,14,15,16,17] (by kernel_rfl) hH2 ?_
    iterate 5
     apply eH.one rfl (by rfl)
     ·intro w N;go_simp;(try with_reducible rfl)
     simp only[Act.put,tp,r9,tk,vm,vk,ud]
    refine wpAnyH_done (by kernel_rfl) ?_ _;refine NoPanic.normal ?_;clear hH2;have k:qv (Below U.heap.size U U.drew):=p9 ⟨rfl,rfl,rfl,rm _,fun _ _=>rfl⟩;have z:=p9 (y.o.later k.o);have D:=p9 (Aq.o.below k.o);have A1:=p9 (Au.o.below k.o);have Aw:=p9 (V.o U.drew X.o A3.o);have r:qv (Loc U.drew B #[uF (o false),uF (o true),ul (o false),ul (o true),lv] 33/\Loc U.drew Y #[.int .i64 1,_,.string name,.string role,.string text,.int .i64 budget] 41):=p9 ⟨X.o,A3.o⟩;have I:=p9 (Av.o.kept (ag k.o none) (by cases (Value.ownBlock _)<;>simp));go_simp;go_upto_region 9 with fail;refine wp_region_noPanic ?_;refine wp_region_held_drew (S:=SX) (by kernel_rfl) Aw.o (fun hH=>?_);clear X A3 Au y Aq Av Aw k;generalize U.drew=W4 at z D A1 r I hH⊢;refine mB [0,1,2,3,4,5,6,7,8,9,10,11] (by kernel_rfl) hH ?_
    iterate 12
     apply eH.one rfl (by rfl)
     ·intro w N;obtain⟨c1,c2,c3,c4,c5⟩:=F.o w N;go_simp;(try with_reducible rfl)
     simp only[Act.put,tp,r9,tk,vm,vk,ud]
    refine wpAnyH_ready (rs:=[12]) (by kernel_rfl) (by simp) ?_;refine AllReadyH.cons rfl (fun K hK=>?_) AllReadyH.nil;refine fb rfl 25 _ _ Tryz.NJ rfl #[.pointer (some ⟨d.gb,0,none⟩),.string role,.string text,.int .i64 budget] (by simp[Act.eval]) (H.o W4 A1.o) (fun e W5 hp=>?_);obtain⟨⟨v2,rfl,Q⟩,C3,By,Bu,B2,B8,C,B7⟩:=hp;refine⟨_,rfl,?_⟩;have hw:=Ly A1.o;have Bi:=p9 (V.o W5 (hw.loc C r.o.1 (by decide)) (hw.loc C r.o.2 (by decide)));have A2:=p9 (hw.row C I.o (by decide));have Bn:qv (Below Z W W5):=p9 ((A4.o.trans (D.o.under (fun b hb=>f.o.vg.base b (hb.elim ad fun hb=>a6 (ad hb))) m.o.I5)).trans (C.under f.o.low (r8 m.o.I5 D.o.size)));obtain⟨o2,Az,Bp,Bq,Br,Bt⟩:=m.o.TS (R:=((L,er),g2)) Bg.o Bj.o z.o D.o Be.o B2 B8 C B7;have Ar:=p9 Az;have J:=p9 Q;refine hK.out _ _ Bi.o (fun hH2=>?_);clear hK K hH hw B2 B8 C B7 Az Bp Bq Br Bt Q H z D A1 r I;simp only[Act.put,tp,r9,tk,vm,vk,ud];refine mB [13,14,15,16,17] (by kernel_rfl) hH2 ?_
    iterate 5
     apply eH.one rfl (by rfl)
     ·intro w N;go_simp;(try with_reducible rfl)
     simp only[Act.put,tp,r9,tk,vm,vk,ud]
    refine wpAnyH_done (by kernel_rfl) ?_ _;refine NoPanic.normal ?_;clear hH2;go_simp;obtain⟨va,vc,q⟩:=aV A2.o;subst q;obtain⟨Bv,Bw,q⟩:=aV J.o;subst q;go_wp2_with fail;refine(Bf (xs:=L) (ys:=L) (aJ A2.o A2.o.1) (aJ J.o J.o.1) (by have:L.length<=10000:=s.o;omega)).mono ?_;rintro e W6 ⟨rfl,A5⟩;have c:uj L L=true:=by simp[uj]
    rw[c];have Af:=p9 (Ar.o.later A5);have Ax:=p9 (A2.o.kept (ag A5 none) (by cases (Value.ownBlock _)<;>simp));have Bo:=p9 (Bn.o.trans (A5.mono Ar.o.I5));clear A5 c;go_wp2_with fail;refine(Qm (l:=L) Af.o.bJ rfl rfl Af.o.row (by have:=Ay.o;omega) (fo Ax.o (tJ _)) (by have:L.length<=10000:=s.o;omega)).mono ?_;rintro e W7 ⟨rfl,O⟩;have Ad:=p9 O;clear O;go_wp2_with fail;go_ret;exact step_end Af.o Ax.o (by have:L.length<=10000:=s.o;omega) A7.o m.o.I5 Bo.o Ad.o
  ·by_cases B6:kind=2
   ·subst B6;have Bk:=p9 (HT.o M A.o);have Ao:=p9 (Td i.o.vg.own i.o.rel.T0 (by omega) Bk.o rfl);have Bh:qv (∀w,RG d.gb d.rv d.rl d.nv d.zf d.last w->Calls prog 29 #[.pointer (some ⟨d.gb,0,none⟩)] w fun e W'=>EN w d.zf e W'):=p9 (fun w hw=>Rt hw i.o.rel.n40 (fun x T=>(i.o.rel.ok x T).1));have Ap:qv (∀w,Below M.heap.size M w->w.cell? ⟨B,2+sx other,none⟩=some (.pointer (some ⟨d.gb,0,none⟩))):=p9 (fun w hb=>(hb.cell (block_lt_of_cell hg)).trans hg);clear hg;cases other
    all_goals
     simp only[sx,Nat.reduceAdd,Bs] at T Ap;go_wp2_with fail;refine Ao.o.mono ?_;rintro e W2 ⟨v,L,rfl,hv,hD,Ai⟩;have As:qv (L=(d.zf.map NM.er).map kU):=p9 (i.o.rel.TH hD);have A0:qv (L.length=d.zf.length/\d.zf.length<=40):=p9 ⟨by rw[As.o];simp,i.o.rel.n40⟩;have Ab:=p9 Ai;have Bl:=p9 hv;have gc:=Ap.o W2 Ai;obtain⟨va,vc,q⟩:=aV hv;subst q;clear hv hD Ai Ao;go_wp2_with fail;refine(Bh.o W2 (i.o.rg.below Ab.o)).mono ?_;rintro e U ⟨⟨v2,rfl,A6⟩,Aj⟩;rw[<-As.o,<-A0.o.1] at A6;obtain⟨Bv,Bw,q⟩:=aV A6;subst q;have y:=p9 (Bl.o.kept (ag Aj none) (by cases (Value.ownBlock _)<;>simp));have A8:=p9 A6;have Al:=p9 (Ab.o.trans (Aj.mono Ab.o.size));clear A6 Aj gc;go_wp2_with fail;refine(Bf (xs:=L) (ys:=L) (aJ y.o y.o.1) (aJ A8.o A8.o.1) (by have:=A0.o;omega)).mono ?_;rintro e W4 ⟨rfl,Ak⟩;have c:uj L L=true:=by simp[uj]
     rw[c];have Am:=p9 (Al.o.trans (Ak.mono Al.o.size));have Ae:=p9 (u.o.later Am.o);have z:=p9 (y.o.kept (ag Ak none) (by cases (Value.ownBlock _)<;>simp));have Bm:=p9 (A.o.trans (Am.o.mono u.o.I5));clear Ak c;go_wp2_with fail;refine(Qm (l:=L) Ae.o.bJ rfl rfl Ae.o.row (by have:=Ay.o;omega) (fo z.o (tJ _)) (by have:=A0.o;omega)).mono ?_;rintro e W5 ⟨rfl,O⟩;have Ad:=p9 O;clear O;go_wp2_with fail;go_ret;exact step_end Ae.o z.o (by have:=A0.o;omega) At.o u.o.I5 Bm.o Ad.o
   ·have b1:(kind==1)=false:=by simpa using B5
    have b2:(kind==2)=false:=by simpa using B6
    have b3:(kind==3)=false:=by simp;omega
    have b4:(kind==4)=false:=by simp;omega
    clear hg;cases other
    all_goals
     simp only[sx] at T;go_wp2_with fail;go_ret;exact⟨rfl,o,lv,a,u.o,by omega,A.o⟩
structure TK where
 kind:Int
 other:Bool
 name:ByteArray
 role:ByteArray
 text:ByteArray
 budget:Int
def TM(x:TK):List Value:=[.int .i64 x.kind,.bool x.other,.string x.name,.string x.role,.string x.text,.int .i64 x.budget]
def Jo:Bool->Int
 | false=>0
 | true=>1
def OW(one two:ByteArray):Bool->ByteArray
 | false=>one
 | true=>two
theorem Dk{text:ByteArray}(h:¬(1<(parseText (dN text)).1.kind/\(parseText (dN text)).1.kind≠5)):(parseText (dN text)).2=0->(parseText (dN text)).1.kind=1\/(parseText (dN text)).1.kind=5:=fun he=>by
 rcases qO text with ⟨_,hk,_⟩|h1|h1
 ·generalize (parseText (dN text)).1=q at h hk⊢;rcases hk with hk|hk|hk|hk|hk|hk
  ·exact ad (Cc hk).2.2
  ·exact absurd ⟨by rw[(xM hk).2.1];decide,by rw[(xM hk).2.1];decide⟩ h
  ·exact absurd ⟨by rw[(uh hk).2.1];decide,by rw[(uh hk).2.1];decide⟩ h
  ·exact absurd ⟨by rw[(tP hk).2.1];decide,by rw[(tP hk).2.1];decide⟩ h
  ·exact a6 (pL hk).1
  ·exact absurd ⟨by rw[(BW hk).1];decide,by rw[(BW hk).1];decide⟩ h
 ·rw[h1] at he;cases he
 ·rw[h1] at he;cases he
theorem Tq{W0:World}{one two:ByteArray}{l:List TK}{ao:Option Addr}{cp:Nat}{mx:Int}{ev:Value}(hs:dj W0 6 (.slice ao l.length cp) l.length (l.flatMap TM))(hl:l.length<=1999990)(ho:∀x∈l,nY x.kind/\nY x.budget/\x.text.size<=maxLen)(h1:one.size<=maxLen)(D:two.size<=maxLen)(hm:W0.cell? ⟨1,0,none⟩=some (.int .i64 mx))(ht:Fa W0)(A5:W0.cell? ⟨7,0,none⟩=some ev)(Aq:ev=.nilIface\/∃te pe,ev=.iface te pe):
  Calls prog 4 #[.string one,.string two,.slice ao l.length cp,.int .i64 2,.bool false] W0 fun e W'=>e=.returned (.bool true)/\Below W0.heap.size W0 W':=by
 have HT:qv (∀w,Below W0.heap.size W0 w->Fa w):=p9 (fun w y=>ht.below y);have Bu:qv (∀w,Below W0.heap.size W0 w->w.cell? ⟨7,0,none⟩=some ev):=p9 (fun w y=>(y.cell (block_lt_of_cell A5)).trans A5);have Bx:qv (∀w,Below W0.heap.size W0 w->w.cell? ⟨1,0,none⟩=some (.int .i64 mx)):=p9 (fun w y=>(y.cell (block_lt_of_cell hm)).trans hm);have Bt:=p9 Aq;have C3:=p9 hs;have HO:=p9 ho;have B2:=p9 (Rz hm ht A5 Aq);have Bp:qv (∀i,(OW one two i).size<=maxLen):=p9 (fun i=>by cases i<;>assumption);clear hs ho h1 D hm ht A5 Aq;go_enter func4,ntmps4
 go_wp2_with fail;refine B2.o.mono ?_;rintro e W1 ⟨rfl,Bb⟩;have A0:=p9 Bb;clear Bb B2;go_upto_region 5 with fail;have A2:=p9 (Loc.new W1 #[.pointer none,.pointer none,.pointer none,.pointer none,.slice none 0 0] 33);have L:=p9 (A0.o.alloc A0.o.size (.cells #[.pointer none,.pointer none,.pointer none,.pointer none,.slice none 0 0] 33));obtain⟨B,hB⟩:∃B,B=W1.heap.size:=⟨_,rfl⟩;have Ak:qv (W0.heap.size<=B):=p9 (by rw[hB];exact A0.o.size);rw[<-hB] at A2⊢;clear hB;generalize W1.alloc (.cells #[.pointer none,.pointer none,.pointer none,.pointer none,.slice none 0 0] 33)=W2 at A2 L⊢;go_upto_region 6 with fail;have M:=p9 (Loc.new W2 #[.string one,.string two] 9);have Ab:=p9 (L.o.alloc L.o.size (.cells #[.string one,.string two] 9));have A3:=p9 (A2.o.alloc (.cells #[.string one,.string two] 9));obtain⟨X,hX⟩:∃X,X=W2.heap.size:=⟨_,rfl⟩;have Cc:qv (W0.heap.size<=X):=p9 (by rw[hX];exact L.o.size);rw[<-hX] at M⊢;clear hX A2;generalize W2.alloc (.cells #[.string one,.string two] 9)=Q at M Ab A3⊢;have B0:qv (LI W0.heap.size B (fun _=>none) (.slice none 0 0) [] Q):=p9 ⟨A3.o,tj _ _ _ _,rfl,fun i h=>absurd h (by simp),fun i d h=>(by cases h),fun i d e h=>(by cases h),Ak.o,fun b h=>(by cases h)⟩;have A4:qv (X≠B):=p9 (fun e=>by
  subst e;exact absurd ((gB M.o).one (gB A3.o)) (by decide))
 have B5:qv (∀(w:World) (j k:Nat) (u v:Value),Below W0.heap.size W0 w->Below W0.heap.size W0 ((w.setCell ⟨B,j,none⟩ u).setCell ⟨B,k,none⟩ v)):=p9 (fun w j k u v y=>(y.grown (aE w B j u) y.size (fun i hi=>by injection hi with hi;rw[<-hi];exact Ak.o)).grown (aE _ B k v) (by simpa [World.setCell] using y.size) (fun i hi=>by injection hi with hi;rw[<-hi];exact Ak.o));clear A3;go_wp2_with fail;go_loopg [14] 2 (fun c iv w=>((∃i o,iv=.int .i64 (Jo i)/\(c:Int)=2 - Jo i/\LI W0.heap.size B o (.slice none 0 0) [] w/\o i=none/\(i=false->o true=none))\/(iv=.int .i64 2/\∃o,LI W0.heap.size B o (.slice none 0 0) [] w))/\Loc w X #[.string one,.string two] 9/\Below W0.heap.size W0 w)
 case atStart=>exact⟨ad ⟨false,fun _=>none,rfl,rfl,B0.o,rfl,fun _=>rfl⟩,M.o,Ab.o⟩
 case round=>
  clear B0 M Ab L A0;obtain⟨hr,Bm,S⟩:=hrel;have r:=p9 S;have Aj:=p9 Bm;clear S Bm;rcases hr with ⟨i,o,rfl,Ao,hL,Bj,Bk⟩|⟨rfl,o,hL⟩
  ·have HL:=p9 hL;have Bz:=p9 Bj;have C0:=p9 Bk;have Af:=p9 (SK (s:=OW one two i) (Bx.o wr r.o));have Ai:qv (∀w,Calls prog 7 #[.string (OW one two i)] w fun e W'=>((e=.returned (.tuple #[.pointer none,.int .i64 1])/\oD (OW one two i)=none)\/∃gb v l,e=.returned (.tuple #[.pointer (some ⟨gb,0,none⟩),.int .i64 0])/\oD (OW one two i)=some (l.map zE)/\kH w.heap.size gb v l W')/\Below w.heap.size w W'):=p9 (fun w=>Sw (OW one two i) w (Bp.o i));have Ae:=p9 (Ij (OW one two i));have A1:qv (∀w,Loc w X #[.string one,.string two] 9->w.cell? ⟨X,sx i,none⟩=some (.string (OW one two i))):=p9 (fun w hw=>by cases i<;>exact(hw.cell _).trans rfl);have Ah:qv (∀(w:World) (od:Option Sd),LI W0.heap.size B o (.slice none 0 0) [] w->(∀d,od=some d->mP W0.heap.size d w/\∀e,o (!i)=some e->AP d e)->∃o',LI W0.heap.size B o' (.slice none 0 0) [] ((w.setCell ⟨B,sx i,none⟩ (uF od)).setCell ⟨B,2+sx i,none⟩ (ul od))/\(i=false->o' true=none)):=p9 (fun w od h1 D=>by
    obtain⟨o',h3,h4⟩:=h1.put Bz.o D;exact⟨o',h3,fun hi=>by subst hi;rw[show true=!false by rfl,h4];exact C0.o rfl⟩)
   have Ad:qv (∀(w:World) (u:Value),LI W0.heap.size B o (.slice none 0 0) [] w->(∃a,w.cell? ⟨B,sx i,none⟩=some a)/\w.frozen? ⟨B,sx i,none⟩=false/\(∃a,(w.setCell ⟨B,sx i,none⟩ u).cell? ⟨B,2+sx i,none⟩=some a)/\(w.setCell ⟨B,sx i,none⟩ u).frozen? ⟨B,2+sx i,none⟩=false):=p9 (fun w u h=>by
    have h1:=h.bJ.set (sx i) u;refine⟨⟨_,(h.TN i).1⟩,h.bJ.free _,⟨ul (o i),(h1.cell _).trans ?_⟩,h1.free _⟩;cases i<;>rfl)
   have Ao:(gk:Int)=2 - Jo i:=Ao;clear hL Bj Bk;generalize OW one two i=tx at Af Ai Ae A1;have Ca:i=false\/i=true:=by cases i<;>simp
   cases i
   all_goals
    simp only[sx,Jo,Nat.reduceAdd,Bs] at A1 Ah Ad Ao⊢;have xc:=A1.o wr Aj.o;go_wp2_with fail;refine Af.o.mono ?_;rintro e W4 ⟨R,C8⟩;have H:=p9 R;have f:=p9 (r.o.trans (R.mono r.o.size));have N:=p9 (Aj.o.grown (ag R none) (by simp));have A:=p9 (HL.o.later R);have xc:=A1.o W4 N.o;clear R Af;rcases C8 with ⟨Bi,rfl⟩|⟨ls,pl,G,vp,m,Bg,Bd,C6,hG,rfl,A9,Aa⟩
    ·have By:=p9 Bi;clear Bi;go_wp2_with fail;refine(Ai.o W4).mono ?_;rintro e W5 ⟨At,g⟩;have Ac:=p9 g;have z:=p9 (f.o.trans (g.mono f.o.size));have O:=p9 (N.o.grown (ag g none) (by simp));have t:=p9 (A.o.later g);clear g xc;rcases At with ⟨rfl,_⟩|⟨gb,v,rl,rfl,F,_⟩
     ·obtain⟨⟨a1,c1⟩,f1,⟨a2,c2⟩,f2⟩:=Ad.o W5 (.pointer none) t.o;obtain⟨o',I,V⟩:=Ah.o W5 none t.o (fun d hd=>by cases hd);have E:=p9 I;have Ag:=p9 V;clear I V;go_wp2_with fail;go_roundg (gk - 1)
      case measure=>omega
      case rel=>
       refine⟨?_,((O.o.aY A4.o _ _).aY A4.o _ _),B5.o _ _ _ _ _ z.o⟩
       first
        | exact ad ⟨true,o',rfl,by simp only[Jo];omega,E.o,Ag.o trivial,fun h=>by cases h⟩
        | exact a6 ⟨rfl,o',E.o⟩
     ·exfalso;rcases Ae.o with ⟨h1,_⟩|⟨a,b,_,D,_⟩
      ·rw[F] at h1;cases h1
      ·rw[By.o] at D;cases D
    ·have B1:=p9 Bg;have Br:=p9 Bd;have Ay:qv (wr.heap.size<=G):=p9 hG;have Bw:=p9 A9;have C1:=p9 Aa;clear Bg Bd C6 hG A9 Aa;go_wp2_with fail;refine(Ai.o W4).mono ?_;rintro e W5 ⟨At,g⟩;have Ac:=p9 g;have z:=p9 (f.o.trans (g.mono f.o.size));have O:=p9 (N.o.grown (ag g none) (by simp));have t:=p9 (A.o.later g);clear g xc;rcases At with ⟨rfl,C7⟩|⟨gb,v,rl,rfl,F,U⟩
     ·exfalso;rcases Ae.o with ⟨_,h1⟩|⟨a,b,D,_,_⟩
      ·rw[B1.o] at h1;cases h1
      ·rw[C7] at D;cases D
     ·obtain⟨d,hd⟩:∃d:Sd,d=⟨G,gb,pl,#[vp,.slice none 0 0,.slice none 0 0,.int .i64 0,.slice none 0 0,.slice none 0 0],.slice none 0 0,.slice none 0 0,[],0,v,.slice none 0 0,rl,[]⟩:=⟨_,rfl⟩;have Bc:mP W0.heap.size d W5:=by
       rw[hd];exact NZ (r8 r.o.size Ay.o) B1.o Br.o (Bw.o.grown (ag Ac.o none) (by simp)) (C1.o.later Ac.o) F U f.o.size
      have Ba:∀(j:Bool) (e:Sd),o j=some e->AP d e:=fun j e he=>by
       have h0:=HL.o.ok j e he;have h4:=A.o.ok j e he;rw[hd];refine⟨?_,?_,fun b y=>(by cases y),fun b y=>(by cases y)⟩
       ·have h1:=h0.vg.own.bJ.lt;have D:=Ay.o;show G≠e.G;omega
       ·have h1:=h4.rg.bJ.lt;have D:=U.low;show gb≠e.gb;omega
      have Av:uF (some d)=.pointer (some ⟨G,0,none⟩)/\ul (some d)=.pointer (some ⟨gb,0,none⟩):=by rw[hd];exact⟨rfl,rfl⟩
      obtain⟨⟨a1,c1⟩,f1,⟨a2,c2⟩,f2⟩:=Ad.o W5 (.pointer (some ⟨G,0,none⟩)) t.o;obtain⟨o',I,V⟩:=Ah.o W5 (some d) t.o (fun d' Ap=>by
       injection Ap with Ap
       subst Ap;exact⟨Bc,fun e he=>Ba _ e he⟩)
      rw[Av.1,Av.2] at I;have E:=p9 I;have Ag:=p9 V;clear I V Bc Ba Av hd F U;go_wp2_with fail;go_roundg (gk - 1)
      case measure=>omega
      case rel=>
       refine⟨?_,((O.o.aY A4.o _ _).aY A4.o _ _),B5.o _ _ _ _ _ z.o⟩
       first
        | exact ad ⟨true,o',rfl,by simp only[Jo];omega,E.o,Ag.o trivial,fun h=>by cases h⟩
        | exact a6 ⟨rfl,o',E.o⟩
  ·have HL:=p9 hL;clear hL;go_wp2_with fail;go_loopg [19] l.length (fun c iv w=>∃(k:Nat) (o:Bool->Option Sd) (lv:Value) (C:List Value),iv=.int .i64 (k:Int)/\k+c=l.length/\LI W0.heap.size B o lv C w/\C.length<=4*k/\Below W0.heap.size W0 w)
   case atStart=>exact⟨0,o,.slice none 0 0,[],rfl,by omega,HL.o,by simp,r.o⟩
   case round=>
    clear HL r Aj;obtain⟨k,o,lv,C,rfl,Ce,hL,Bo,S⟩:=hrel;have HL:=p9 hL;have P:=p9 Bo;have r:=p9 S;clear hL Bo S;by_cases Bh:k<l.length
    ·have C4:(k:Int)<(l.length:Int):=by omega
     obtain⟨sg,so,rfl,hc⟩:=bC (l:=l) TM (fun _=>rfl) (C3.o.below r.o) Bh;obtain⟨Be,Ar,As⟩:=HO.o l[k] (sT Bh);obtain⟨x,hx⟩:∃x,l[k]=x:=⟨_,rfl⟩;rw[hx] at hc Be Ar As;obtain⟨kd,ot,nm,rn,tx,bu⟩:=x;have c0:wr.cell? ⟨sg,so+k*6,none⟩=some (.int .i64 kd):=hc 0 (by omega);have Bq:qv (∀w,Below wr.heap.size wr w->w.cell? ⟨sg,so+k*6,none⟩=some (.int .i64 kd)/\w.cell? ⟨sg,so+k*6+1,none⟩=some (.bool ot)/\w.cell? ⟨sg,so+k*6+2,none⟩=some (.string nm)/\w.cell? ⟨sg,so+k*6+3,none⟩=some (.string rn)/\w.cell? ⟨sg,so+k*6+4,none⟩=some (.string tx)/\w.cell? ⟨sg,so+k*6+5,none⟩=some (.int .i64 bu)):=p9 (fun w y=>by
      have J:∀{a:Addr} {u:Value},wr.cell? a=some u->w.cell? a=some u:=fun h=>(y.cell (block_lt_of_cell h)).trans h;exact⟨J (hc 0 (by omega)),J (hc 1 (by omega)),J (hc 2 (by omega)),J (hc 3 (by omega)),J (hc 4 (by omega)),J (hc 5 (by omega))⟩)
     have c4:wr.cell? ⟨sg,so+k*6+4,none⟩=some (.string tx):=hc 4 (by omega);have Bv:qv (nY bu):=p9 Ar;have Az:qv (tx.size<=maxLen):=p9 As;obtain⟨Bf,Cb⟩:-9223372036854775808<=kd/\kd<=9223372036854775807:=Be;clear hc Ar As hx;by_cases Cd:2<kd
     ·go_wp2_with fail;go_roundg (gk - 1)
      case measure=>omega
      case rel=>exact⟨k+1,o,lv,C,by simp,by omega,HL.o,by have:=P.o;omega,r.o⟩
     ·go_wp2_with fail;refine(DY tx wr Az.o).mono ?_;have K:=@Dk tx;generalize B9:parseText (dN tx)=PQ at K⊢;have B4:=p9 B9;obtain⟨q,er⟩:=PQ;rintro e Q ⟨y,vs,vc,vi,vp,rfl,p⟩;simp only at p K⊢;obtain⟨Z,W⟩:∃Z,qC q vs vc vi vp=Z:=⟨_,rfl⟩;obtain⟨sa,sc,rfl,m1⟩:=aQ (l:=q.ah) p.rs;obtain⟨ca,cc,rfl,m2⟩:=aQ (l:=q.aq) p.rc;obtain⟨ia,ic,rfl,m3⟩:=aQ (l:=q.af) p.rt;obtain⟨pa,pc,rfl,m4⟩:=aQ (l:=q.aj) p.rp;clear m1 m2 m3 m4 B9 p;have A6:Z.size=17:=by rw[<-W];rfl
      have Bl:Z.all (·.oneCell')=true:=by rw[<-W];exact mW q
      have q0:Z[0]?=some (.int .i64 q.kind):=by rw[<-W];rfl
      rw[W];have kb:=tu (w:=Q) (cs:=Z) (T:=49) zq;have A:qv (Loc ((Q.alloc (.cells zq 49)).setCells Q.heap.size 0 Z.toList) Q.heap.size Z 49):=p9 ((Loc.new Q zq 49).fC (new:=Z) (by rw[A6];rfl));have H:=p9 (y.trans (kb.mono y.size));clear y kb W;rename_i KK B8;refine B8 _ _ ?_;clear B8 KK;refine ej rfl rfl ?_;refine iu rfl rfl rfl rfl ?_;refine iu rfl rfl rfl rfl ?_;refine jl rfl rfl ?_;refine wpList_store_mid rfl 49 _ _ rfl Q.heap.size 0 Z rfl rfl (by rw[A6];exact(Loc.new Q zq 49).there) (by rw[A6];exact Tryz.bp) Bl ?_;obtain⟨Y,hY⟩:∃Y,Y=Q.heap.size:=⟨_,rfl⟩;rw[<-hY] at A H⊢;clear hY Bl A6;generalize (Q.alloc (.cells zq 49)).setCells Y 0 Z.toList=W4 at A H⊢;have k0:W4.cell? ⟨Y,0,none⟩=some (.int .i64 q.kind):=(A.o.cell 0).trans q0;have f:=p9 (r.o.trans (H.o.mono r.o.size));have A8:=p9 (HL.o.later H.o);obtain⟨d0,d1,d2,d3,d4,d5⟩:=Bq.o W4 H.o;obtain⟨qk,Au⟩:∃qk,q.kind=qk:=⟨_,rfl⟩;rw[Au] at k0 K;have C2:=p9 Au;clear Au;clear c0 c4 q0 A;by_cases A7:1<qk/\qk≠5
      ·obtain⟨Cf,F⟩:=A7;have F:(qk != 5)=true:=by simpa using F
       clear K;go_wp2_with fail;go_roundg (gk - 1)
       case measure=>omega
       case rel=>exact⟨k+1,o,lv,C,by simp,by omega,A8.o,by have:=P.o;omega,f.o⟩
      ·have B3:=K A7;clear K;have B6:=p9 (Re (kind:=kd) (other:=ot) (name:=nm) (role:=rn) (text:=tx) (budget:=bu) (ev:=ev) A8.o (by have:=P.o;omega) Az.o (by omega) Bf Bv.o (fun w hw=>HT.o w (f.o.trans hw)) (fun w hw=>Bu.o w (f.o.trans hw)) Bt.o (by rw[B4.o];show er=0->q.kind=1\/q.kind=5;rw[C2.o];exact B3));clear B3 B4;have An:(¬1<qk)\/(1<qk/\qk=5):=by
        rcases Classical.em (1<qk) with h1|h1
        ·exact a6 ⟨h1,Classical.byContradiction fun h5=>A7 ⟨h1,h5⟩⟩
        ·exact ad h1
       clear A7;rcases An with C9|⟨C9,rfl⟩
       all_goals
        go_wp2_with fail;refine B6.o.mono ?_;rintro e W5 ⟨rfl,o5,Cg,Aw,Al,Bn,g⟩;have t:=p9 Al;have B7:=p9 Bn;have z:=p9 (f.o.trans g);obtain⟨la,lc,C5⟩:=aV Al.row;subst C5;clear Al Bn g B6 d0 d1 d2 d3 d4 d5 k0;go_wp2_with fail;refine(RU t.o.bJ rfl (aJ t.o.row t.o.row.1) (by have h1:=B7.o;have D:=P.o;omega) (fun i hi=>by
         obtain⟨n,h1,D⟩:=t.o.Sc i hi;exact⟨n,h1,aJ D D.1⟩)).mono ?_
        rintro e W6 ⟨rfl,Am⟩;have E:=p9 (t.o.later Am);have Ax:=p9 (z.o.trans (Am.mono t.o.I5));clear Am;go_wp2_with fail;go_roundg (gk - 1)
        case measure=>omega
        case rel=>exact⟨k+1,o5,_,Aw,by simp,by omega,E.o,by have h1:=B7.o;have D:=P.o;omega,Ax.o⟩
    ·have C4:¬(k:Int)<(l.length:Int):=by omega
     go_wp2_with fail;go_ret;exact⟨rfl,r.o⟩
end
end Go.Proofs.YtbfmmmjkjhjleaaGreatDoor
