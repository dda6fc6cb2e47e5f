/- Mine. -/
import Derived.Test.YtbfmmmjkjhjleaaGreatDoorC29
import Derived.Test.YtbfmmmjkjhjleaaGreatDoorC34
set_option maxRecDepth 100000
set_option maxHeartbeats 0
namespace Go.Proofs.YtbfmmmjkjhjleaaGreatDoor
open Go.Proofs.Tryz
variable {k n:Nat}
section
open Go.RowKit
theorem pI{w:World}{B:Nat}{T:TypeId}{v:Value}{xs:List Value}(h:w.ownsRow B T k v n xs)(c:0<n):∃g cap,v=.slice (some ⟨g,0,none⟩) n cap:=by
 rcases h.2 with ⟨_,b⟩|⟨g,cap,a,rfl,_⟩
 ·omega
 ·exact⟨g,cap,rfl⟩
def Sz(B:Nat)(outs:List VL)(e:Ending)(w:World):Prop:=∃ov ovs,e=.returned ov/\wG B ov ovs outs w
theorem Pl(h:k<n):(List.replicate k (some (0:Int))++List.replicate (n - k) none)[k]?=some none:=by
 rw[F7 (by simp),List.length_replicate,F3,List.getElem?_replicate,a8 (by omega)]
theorem LN(h:k<n):(List.replicate k (some (0:Int))++List.replicate (n - k) none).set k (some 0)=List.replicate (k+1) (some 0)++List.replicate (n - (k+1)) none:=by
 obtain⟨m,hm⟩:∃m,n - k=m+1:=⟨n - k - 1,by omega⟩;have a:n - (k+1)=m:=by omega
 rw[hm,a,List.set_append_right _ _ (by simp),List.length_replicate,F3,List.replicate_succ,vk,List.replicate_succ',wh]
 rfl
theorem KO(n:Nat):(madeCells #[.int .i64 0,.bool false] (n*2)).toList=(List.replicate n (none:Option Int)).flatMap vC:=by
 refine List.ext_getElem? fun j=>?_;by_cases b:j<n*2
 ·have h1:=lF (k:=2) vC (fun _=>rfl) (List.replicate n (none:Option Int)) (j / 2) (by simp;omega) (j % 2) (by omega);rw[show j / 2*2+j % 2=j by omega] at h1;rw[h1,List.getElem_replicate];rcases (by omega:j % 2=0\/j % 2=1) with a|a
  ·simp[madeCells,vC,a,b]
  ·simp[madeCells,vC,a,b]
 ·rw[x7 (by simp[madeCells];omega),x7 (by rw[B5];simp;omega)]
theorem Kl{F:SF}{r:List Nat}(hk:k<F.q.af.length):((F.q.af.take (k+1)).map (kF F r)).flatMap vC=((F.q.af.take k).map (kF F r)).flatMap vC++vC (kF F r F.q.af[k]):=by
 rw[tt,r6 hk,F2,vb,As];simp
theorem JP{S:Nat}{F:SF}{W0:World}{cost:Int}{rv:Value}{An:List Value}{rows:List (List Nat)}{W:World}(h:kM S F W0 cost rv An rows W)(B7:∀r∈rows,r.length=F.q.ah.length/\∀i∈r,i<F.sm.length)(En:0<F.q.ah.length)(hit:0<F.q.af.length)(By:qp F)(Em:rows.length<=5001):
  Calls prog 105 #[.pointer (some ⟨S,0,none⟩)] W fun e W'=>Sz W.heap.size (iI F rows) e W'/\Below W.heap.size W W':=by
 obtain⟨i1,hj,De,Df,Dg⟩:=info_parts Tryz.OV;obtain⟨i2,hk,Db,Dc,Dd⟩:=info_parts Tryz.Lp;have G:=p9 (And.intro hj (And.intro De (And.intro Df Dg)));have A8:=p9 (And.intro hk (And.intro Db (And.intro Dc Dd)));clear hj De Df Dg hk Db Dc Dd;obtain⟨ia,ic,Ck,-⟩:=bi h.fx.rt;obtain⟨na,nc,B8,-⟩:=bi h.fx.nr;obtain⟨ra,rc,Cl⟩:=aV h.row;have Ej:=h.fx.small.2.2.1;have Ed:=h.fx.small.2.2.2.1;have Y:qv (∀z,Below W.heap.size W z->z.cell? ⟨S,3,none⟩=some (.slice ia F.q.af.length ic)/\z.cell? ⟨S,17,none⟩=some (.slice na F.sm.length nc)/\z.cell? ⟨S,21,none⟩=some (.slice ra rows.length rc)):=p9 (fun z hz=>by
  have hl:=(h.below hz).bJ;exact⟨(hl.cell 3).trans (by rw[<-Ck];rfl),(hl.cell 17).trans (by rw[<-B8];rfl),(hl.cell 21).trans (by rw[<-Cl];rfl)⟩)
 have Be:qv (∀z,Below W.heap.size W z->dj z 2 (.slice ia F.q.af.length ic) F.q.af.length (F.q.af.flatMap kk)):=p9 (fun z hz=>by rw[<-Ck];exact(h.below hz).fx.rt);have Dx:qv (∀(i:Nat) (hi:i<rows.length),∃rg yv,ra=some ⟨rg,0,none⟩/\∀z,Below W.heap.size W z->z.cell? ⟨rg,i,none⟩=some yv/\dj z 1 yv rows[i].length (kE rows[i])):=p9 (fun i hi=>by
  obtain⟨yv,Eb,Ea⟩:=h.each i hi;have Ci:=h.row;rw[Cl] at Ci;rcases Ci.2 with ⟨_,h0⟩|⟨rg,cap,fL,hv,_⟩
  ·omega
  ·injection hv with E9 Eo Ep
   subst E9;refine⟨rg,yv,rfl,fun z hz=>⟨?_,(aJ Ea (by simp[kE])).below hz⟩⟩;have U:=Ci.cellAt i (by omega);rw[Eb] at U;exact(hz.cell (block_lt_of_cell U)).trans U)
 have Dv:qv (∀z,Below W.heap.size W z->dj z 3 (.slice na F.sm.length nc) F.sm.length (F.sm.flatMap Fi)):=p9 (fun z hz=>by rw[<-B8];exact(h.below hz).fx.nr);have E0:qv (∀z,Below W.heap.size W z->kM S F W0 cost rv An rows z):=p9 (fun z hz=>h.below hz);have H:=p9 h;have Dy:=p9 B7;have Ct:=p9 By;have Dw:qv (rows≠[]->0<F.sm.length):=p9 (fun D7=>by
  obtain⟨r,t,rfl⟩:=List.exists_cons_of_ne_nil D7;have h1:=B7 r (by simp);exact Nat.lt_of_le_of_lt (tJ _) (h1.2 (r[0]'(by omega)) (sT _)))
 clear h Ck B8 Cl B7 By;go_enter func105,ntmps105
 obtain⟨s3,Es,Et⟩:=Y.o W (r5 _ _);go_wp2_with fail;go_loopg [3,4] F.q.af.length (fun c cv iv z=>∃k:Nat,cv=.int .i64 (kY F.q.af k:Int)/\iv=.int .i64 (k:Int)/\k+c=F.q.af.length/\z=W)
 case atStart=>exact⟨0,rfl,rfl,by omega,rfl⟩
 case round=>
  obtain⟨k,rfl,rfl,B4,hz⟩:=hrel;obtain rfl:=hz.symm;have E3:=BD F.q.af k;by_cases A5:k<F.q.af.length
  ·have A4:(k:Int)<(F.q.af.length:Int):=by omega
   have Ei:(kY F.q.af k:Int)<=6:=by omega
   have A2:qv (kY F.q.af (k+1)=kY F.q.af k+if fi F.q.af[k] then 1 else 0):=p9 (by
    conv=>lhs;unfold kY
    unfold ik;rw[r6 A5]
    rfl)
   obtain⟨g,o,rfl,U⟩:=bC (l:=F.q.af) kk (fun _=>rfl) (Be.o W (r5 _ _)) A5;obtain⟨x,hx⟩:∃x,F.q.af[k]=x:=⟨_,rfl⟩;rw[hx] at U A2;have p0:W.cell? ⟨g,o+k*2,none⟩=some (.string x.name):=U 0 (by omega);clear U hx;cases he:x.name.toList.isEmpty with
   | true=>
    have B2:fi x=true:=he;rw[B2] at A2;have A2:qv (kY F.q.af (k+1)=kY F.q.af k+1):=A2;clear B2;go_wp2_with fail;go_roundg (gk - 1)
    case measure=>omega
    case rel=>exact⟨k+1,by rw[A2.o];simp,by simp,by omega,rfl⟩
   | false=>
    have B2:fi x=false:=he;rw[B2] at A2;have A2:qv (kY F.q.af (k+1)=kY F.q.af k):=A2;clear B2;go_wp2_with fail;go_roundg (gk - 1)
    case measure=>omega
    case rel=>exact⟨k+1,by rw[A2.o],by simp,by omega,rfl⟩
  ·have A4:¬(k:Int)<(F.q.af.length:Int):=by omega
   obtain rfl:k=F.q.af.length:=by omega
   clear A5 B4;obtain⟨N,hN⟩:∃N,kY F.q.af F.q.af.length=N:=⟨_,rfl⟩;have HN:=p9 hN;rw[hN] at E3⊢;clear hN;have Ef:(N:Int)<=6:=by omega
   go_wp2_with fail;go_loopg [5,6] rows.length (fun c ov iv z=>∃(i:Nat) (O:List Value),iv=.int .i64 (i:Int)/\i+c=rows.length/\wG W.heap.size ov O (iP F (rows.take i)) z/\Below W.heap.size W z)
   case atStart=>exact⟨0,[],rfl,by omega,wG.nil _ _,r5 _ _⟩
   case round=>
    obtain⟨i,O,rfl,D3,ho,D⟩:=hrel;obtain⟨m,rfl⟩:∃m,m=wr:=⟨_,rfl⟩;have HO:=p9 ho;have Q:=p9 D;clear ho D;obtain⟨t3,t17,t21⟩:=Y.o m Q.o;by_cases A5:i<rows.length
    ·have E7:(i:Int)<(rows.length:Int):=by omega
     have Aj:qv (iP F (rows.take (i+1))=o9 F.q.af (iP F (rows.take i)) (ir F rows[i])):=p9 (by rw[tt,r6 A5,F2,pO]);have C8:=p9 (xm Ct.o rows i (by omega) (by omega));have Cu:=p9 (rQ F rows i (by omega));have C3:=p9 (C9 Ct.o rows[i]);have Dz:=p9 (Dw.o (fun e=>by rw[e] at A5;simp at A5));have Cb:=p9 (Dy.o rows[i] (sT A5));obtain⟨rg,yv,rfl,Dk⟩:=Dx.o i A5;have Bk:=p9 Dk;clear Dk;obtain⟨r,hr⟩:∃r,rows[i]=r:=⟨_,rfl⟩;rw[hr] at Aj C3 Cb Bk;clear hr;obtain⟨outs,B6⟩:∃outs,iP F (rows.take i)=outs:=⟨_,rfl⟩;rw[B6] at HO Aj C8 Cu;clear B6;obtain⟨gO,E6⟩:∃gO,gO=gk:=⟨_,rfl⟩;subst E6;have Bd:=p9 D3;clear D3;go_upto_block 4 with fail;go_cut [7] (fun lv z=>z.ownsRow m.heap.size 209 2 lv F.q.af.length ((ir F r).flatMap vC)/\Below m.heap.size m z)
     case first=>as_aux_lemma=>
      go_wp2_with fail;go_loopg [7,8] F.q.af.length (fun c lv kv z=>∃k:Nat,kv=.int .i64 (k:Int)/\k+c=F.q.af.length/\z.ownsRow m.heap.size 209 2 lv k (((F.q.af.take k).map (kF F r)).flatMap vC)/\Below m.heap.size m z)
      case atStart=>exact⟨0,rfl,by omega,tj _ _ _ _,r5 _ _⟩
      case round=>
       obtain⟨k,rfl,B4,hl,D⟩:=hrel;have HL:=p9 hl;have Ao:=p9 D;have T:=p9 (Q.o.trans (D.mono Q.o.size));clear hl D t3 t17 t21;obtain⟨t3,t17,t21⟩:=Y.o wr T.o;by_cases s:k<F.q.af.length
       ·have A4:(k:Int)<(F.q.af.length:Int):=by omega
        have Bg:=p9 (Kl (r:=r) s);obtain⟨g,o,rfl,U⟩:=bC (l:=F.q.af) kk (fun _=>rfl) (Be.o wr T.o) s;obtain⟨x,hx⟩:∃x,F.q.af[k]=x:=⟨_,rfl⟩;rw[hx] at U Bg;have p0:wr.cell? ⟨g,o+k*2,none⟩=some (.string x.name):=U 0 (by omega);have p1:wr.cell? ⟨g,o+k*2+1,none⟩=some (.string x.key):=U 1 (by omega);clear U hx;obtain⟨nm,key⟩:=x
        dsimp only at p0 p1
        have B:qv (kF F r ⟨nm,key⟩=if nm.toList.isEmpty then some 1 else if key.toList.isEmpty then some ((F.sm[tm F.q.ah r nm]?).elim 0 fun n=>n.num) else (F.sm[tm F.q.ah r nm]?).elim none fun n=>fs n.aj key):=p9 rfl;go_upto_region 17 with fail;have ha:=(r5 wr.heap.size wr).alloc (rm _) (.cells #[.string nm,.string key] 129);have HX:=p9 (Loc.new wr #[.string nm,.string key] 129);have Ah:=p9 (HL.o.kept (ag ha none) (by cases (Value.ownBlock _)<;>simp));have L:=p9 (Ao.o.trans (ha.mono Ao.o.size));have Ax:=p9 (T.o.trans (ha.mono T.o.size));obtain⟨X,hX⟩:∃X,X=wr.heap.size:=⟨_,rfl⟩;rw[<-hX] at HX⊢;clear hX ha p0 p1 t3 t17 t21 HL Ao T;generalize wr.alloc (.cells #[.string nm,.string key] 129)=R at HX Ah L Ax⊢;have x0:=HX.o.at_ 0 (.string nm) rfl;have x1:=HX.o.at_ 1 (.string key) rfl;cases he:nm.toList.isEmpty with
        | true=>
         rw[he] at B;have B:qv (kF F r ⟨nm,key⟩=some 1):=B;have Aq:=p9 (Ah.o.alloc (.cells #[.int .i64 1,.bool true] 209));have A:=p9 (L.o.alloc L.o.size (.cells #[.int .i64 1,.bool true] 209));go_wp2_with (at_builtin;go_must (refine wpList_append_own _ rfl _ _ 204 rfl m.heap.size 209 i1 (.agg #[.int .i64 0,.bool false]) 2 16 underlying204 G.o.1 G.o.2.1 G.o.2.2.1 G.o.2.2.2 rfl (by decide) _ _ _ rfl Aq.o ⟨R.heap.size,0,none⟩ 1 1 [.int .i64 1,.bool true] rfl rfl (World.news_of_block (heap_alloc_new R _)) (by simp[Value.oneCell']) (by unfold maxLen;omega) (by omega) A.o.size ?_);intro v' w6 E d Ab;have C:=p9 E;have A7:=p9 d;clear E d Ab)
         go_roundg (gk - 1)
         case measure=>omega
         case rel=>exact⟨k+1,by simp,by omega,by rw[Bg.o,B.o];exact C.o,A.o.grown A7.o A.o.size fun b D=>(Aq.o.lt b D).1⟩
        | false=>
         rw[he] at B;have B:qv (kF F r ⟨nm,key⟩=if key.toList.isEmpty then some ((F.sm[tm F.q.ah r nm]?).elim 0 fun n=>n.num) else (F.sm[tm F.q.ah r nm]?).elim none fun n=>fs n.aj key):=B;have Cr:=p9 (yS Dz.o (ss:=F.q.ah) (nm:=nm) Cb.o.2);have hd:=below_drewN (r5 R.heap.size R) 1;have Aw:qv (Below W.heap.size W R.drew):=p9 (Ax.o.trans (hd.mono Ax.o.size));have A0:qv (Below m.heap.size m R.drew):=p9 (L.o.trans (hd.mono L.o.size));have At:qv (kM S F W0 cost rv An rows R.drew):=p9 (E0.o R.drew Aw.o);obtain⟨d3,d17,d21⟩:=Y.o R.drew Aw.o;obtain⟨dr,Dh⟩:=Bk.o R.drew Aw.o;have C7:qv (Calls prog 111 #[.pointer (some ⟨S,0,none⟩),yv,.string nm] R.drew fun e w'=>e=.returned (.int .i64 (tm F.q.ah r nm:Int))/\w'=R.drew):=p9 (Sn At.o.bJ At.o.fx Dh Cb.o.1);have Dl:R.drew.cell? ⟨X,0,none⟩=some (.string nm):=x0;have Dm:R.drew.cell? ⟨X,1,none⟩=some (.string key):=x1;obtain⟨la,lc,Ch⟩:=aV Ah.o;subst Ch;have Aa:tm F.q.ah r nm<F.sm.length:=Cr.o;clear Dh hd Cr;generalize tm F.q.ah r nm=a at C7 B Aa;rw[r6 Aa] at B;have D2:(a:Int)<(F.sm.length:Int):=by omega
         cases D5:key.toList.isEmpty with
         | true=>as_aux_lemma=>
          rw[D5] at B;have Cp:qv (kF F r ⟨nm,key⟩=some F.sm[a].num):=B;clear B;obtain⟨ng,no,rfl,U⟩:=bC (l:=F.sm) Fi (fun _=>rfl) (Dv.o m Q.o) Aa;have Bu:m.cell? ⟨ng,no+a*3,none⟩=some (.int .i64 F.sm[a].num):=U 0 (by omega);clear U;generalize F.sm[a].num=num at Cp Bu;have Dt:qv (m.cell? ⟨ng,no+a*3,none⟩=some (.int .i64 num)):=p9 Bu;have Du:qv (ng<m.heap.size):=p9 (block_lt_of_cell Bu);have Aq:qv ((R.alloc (.cells #[.int .i64 num,.bool true] 209)).drew.ownsRow m.heap.size 209 2 (.slice la k lc) k (((F.q.af.take k).map (kF F r)).flatMap vC)):=p9 (Ah.o.alloc _).drew;have A:qv (Below m.heap.size m (R.alloc (.cells #[.int .i64 num,.bool true] 209)).drew):=p9 (below_drewN (L.o.alloc L.o.size _) 1);have Cx:qv (Loc (R.alloc (.cells #[.int .i64 num,.bool true] 209)).drew X #[.string nm,.string key] 129):=p9 (HX.o.alloc _);go_upto_region 20 with fail;clear Bu d3 d17 d21 dr Dl Dm x0 x1 At Aw Ah L
          -- BEGIN R20
          have HS:qv (∀z,Below m.heap.size m z->Loc z X #[.string nm,.string key] 129->(fun w=>w.cell? ⟨S,17,none⟩=some (.slice (some ⟨ng,no,none⟩) F.sm.length nc)/\w.cell? ⟨S,21,none⟩=some (.slice (some ⟨rg,0,none⟩) rows.length rc)/\w.cell? ⟨rg,i,none⟩=some yv/\w.cell? ⟨X,0,none⟩=some (.string nm)/\w.cell? ⟨X,1,none⟩=some (.string key)/\w.cell? ⟨ng,no+a*3,none⟩=some (.int .i64 num)) z):=p9 (fun z hz hx=>⟨(Y.o z (Q.o.trans (hz.mono Q.o.size))).2.1,(Y.o z (Q.o.trans (hz.mono Q.o.size))).2.2,(Bk.o z (Q.o.trans (hz.mono Q.o.size))).1,(hx.cell 0).trans rfl,(hx.cell 1).trans rfl,(hz.cell (vH Du.o (Nat.le_of_eq rfl))).trans Dt.o⟩);refine wp_region_noPanic ?_;refine wp_region_held_drew (S:=fun w=>w.cell? ⟨S,17,none⟩=some (.slice (some ⟨ng,no,none⟩) F.sm.length nc)/\w.cell? ⟨S,21,none⟩=some (.slice (some ⟨rg,0,none⟩) rows.length rc)/\w.cell? ⟨rg,i,none⟩=some yv/\w.cell? ⟨X,0,none⟩=some (.string nm)/\w.cell? ⟨X,1,none⟩=some (.string key)/\w.cell? ⟨ng,no+a*3,none⟩=some (.int .i64 num)) (by kernel_rfl) (HS.o _ A0.o HX.o) (fun hHeld0=>?_);refine mB [0,1,2,3,4,5,6,7,8,9,10,11,12,13,14] (by kernel_rfl) hHeld0 ?_
          iterate 15
           apply eH.one rfl (by rfl)
           ·intro w A3;obtain⟨Bn,Bo,Bp,Bq,Br,Bs⟩:=A3;go_simp;(try with_reducible rfl)
           simp only[Act.put,tp,r9,tk,vm,vk,ud]
          refine wpAnyH_ready (rs:=[15]) (by kernel_rfl) (by simp) ?_;refine AllReadyH.cons rfl (fun K hK=>?_) AllReadyH.nil;refine fb rfl 111 _ _ Tryz.IX rfl #[.pointer (some ⟨S,0,none⟩),yv,.string nm] (by simp[Act.eval]) C7.o (fun e W3 hp=>?_);obtain⟨rfl,Cm⟩:=hp;obtain rfl:=Cm.symm;refine⟨_,rfl,?_⟩;refine hK.out _ _ (HS.o _ A0.o HX.o) (fun hHeld1=>?_);clear hK K hHeld0
          (try simp only[Act.put,tp,r9,tk])
          refine mB [16,17,18,19] (by kernel_rfl) hHeld1 ?_
          iterate 4
           apply eH.one rfl (by rfl)
           ·intro w A3;obtain⟨Bn,Bo,Bp,Bq,Br,Bs⟩:=A3;go_simp;(try with_reducible rfl)
           simp only[Act.put,tp,r9,tk,vm,vk,ud]
          refine wpAnyH_ready (rs:=[20]) (by kernel_rfl) (by simp) ?_;refine AllReadyH.cons rfl (fun K hK=>?_) AllReadyH.nil;rw[a8 (by simp[Region.wanted])];unfold Oper.wp execOp;go_simp;refine hK.out _ _ (HS.o _ A.o Cx.o) (fun hHeldB=>?_);clear hK K
          (try simp only[Act.put,tp,r9,tk])
          refine wpAnyH_ready (rs:=[21]) (by kernel_rfl) (by simp) ?_;refine AllReadyH.cons rfl (fun K hK=>?_) AllReadyH.nil;refine step_append_lies _ rfl _ _ 204 rfl m.heap.size 209 i1 (.agg #[.int .i64 0,.bool false]) 2 16 underlying204 G.o.1 G.o.2.1 G.o.2.2.1 G.o.2.2.2 rfl (by decide) (.slice la k lc) _ _ (by simp[Act.eval]) Aq.o ⟨R.heap.size,0,none⟩ 1 1 [.int .i64 num,.bool true] (by simp[Act.eval]) rfl (World.news_of_block (heap_alloc_new R _)) (by simp[Value.oneCell']) (by omega) (by unfold maxLen;omega) (by omega) A.o.size _ rfl ?_;intro g2 D0 w8 Ae d _ _;have Dq:=p9 d;have C6:=p9 Ae;have Av:qv (Below m.heap.size m w8):=p9 (A.o.grown d A.o.size fun b D=>((Aq.o).lt b D).1);have Cc:qv (Loc w8 X #[.string nm,.string key] 129):=p9 ((Cx.o).dY (Aq.o) d (by decide));clear Ae d;refine hK.out _ _ (HS.o _ Av.o Cc.o) (fun hHeldC=>?_);clear hK K
          (try simp only[Act.put,tp,r9,tk])
          refine wpAnyH_take (i:=22) (v:=?v20) rfl (by kernel_rfl) (by kernel_rfl) (by kernel_rfl) (fun _ _ _ h=>h) (ad ⟨by rfl,?y20⟩) hHeldC ?r20
          case y20=>(intro w A3;obtain⟨Bn,Bo,Bp,Bq,Br,Bs⟩:=A3;go_simp;(try with_reducible rfl))
          (try simp only[Act.put,tp,r9,tk])
          refine wpAnyH_done (by kernel_rfl) ?_ _;refine NoPanic.normal ?_;clear hHeldC;go_simp;go_wp2_with fail;go_roundg (gk - 1)
          case measure=>omega
          case rel=>exact⟨k+1,by simp,by omega,by rw[Bg.o,Cp.o];exact C6.o,Av.o⟩
          -- END R20
         | false=>as_aux_lemma=>
          rw[D5] at B;have B:qv (kF F r ⟨nm,key⟩=fs F.sm[a].aj key):=B;have Bi:=Mu (key:=key) At.o.bJ At.o.fx Aa;obtain⟨po,D9⟩:∃po,fs F.sm[a].aj key=po:=⟨_,rfl⟩;rw[D9] at B Bi;have Bi:qv (Calls prog 109 #[.pointer (some ⟨S,0,none⟩),.int .i64 (a:Int),.string key] R.drew fun e W'=>e=.returned (.agg #[.int .i64 (po.getD 0),.bool po.isSome])/\Below R.drew.heap.size R.drew W'):=p9 Bi;clear D9;have Ds:qv (R.drew.ownsRow m.heap.size 209 2 (.slice la k lc) k (((F.q.af.take k).map (kF F r)).flatMap vC)):=p9 Ah.o.drew;go_upto_region 16 with fail;clear d3 d17 d21 dr Dl Dm x0 x1 At Aw Ah L
          -- BEGIN R16
          have HS:qv (∀z,Below m.heap.size m z->Loc z X #[.string nm,.string key] 129->(fun w=>w.cell? ⟨S,17,none⟩=some (.slice na F.sm.length nc)/\w.cell? ⟨S,21,none⟩=some (.slice (some ⟨rg,0,none⟩) rows.length rc)/\w.cell? ⟨rg,i,none⟩=some yv/\w.cell? ⟨X,0,none⟩=some (.string nm)/\w.cell? ⟨X,1,none⟩=some (.string key)/\True) z):=p9 (fun z hz hx=>⟨(Y.o z (Q.o.trans (hz.mono Q.o.size))).2.1,(Y.o z (Q.o.trans (hz.mono Q.o.size))).2.2,(Bk.o z (Q.o.trans (hz.mono Q.o.size))).1,(hx.cell 0).trans rfl,(hx.cell 1).trans rfl,trivial⟩);refine wp_region_noPanic ?_;refine wp_region_held_drew (S:=fun w=>w.cell? ⟨S,17,none⟩=some (.slice na F.sm.length nc)/\w.cell? ⟨S,21,none⟩=some (.slice (some ⟨rg,0,none⟩) rows.length rc)/\w.cell? ⟨rg,i,none⟩=some yv/\w.cell? ⟨X,0,none⟩=some (.string nm)/\w.cell? ⟨X,1,none⟩=some (.string key)/\True) (by kernel_rfl) (HS.o _ A0.o HX.o) (fun hHeld0=>?_);refine mB [0,1,2,3,4,5,6,7,8,9,10,11,13,14] (by kernel_rfl) hHeld0 ?_
          iterate 14
           apply eH.one rfl (by rfl)
           ·intro w A3;obtain⟨Bn,Bo,Bp,Bq,Br,Bs⟩:=A3;go_simp;(try with_reducible rfl)
           simp only[Act.put,tp,r9,tk,vm,vk,ud]
          refine wpAnyH_ready (rs:=[12]) (by kernel_rfl) (by simp) ?_;refine AllReadyH.cons rfl (fun K hK=>?_) AllReadyH.nil;refine fb rfl 111 _ _ Tryz.IX rfl #[.pointer (some ⟨S,0,none⟩),yv,.string nm] (by simp[Act.eval]) C7.o (fun e W3 hp=>?_);obtain⟨rfl,Cm⟩:=hp;obtain rfl:=Cm.symm;refine⟨_,rfl,?_⟩;refine hK.out _ _ (HS.o _ A0.o HX.o) (fun hHeld1=>?_);clear hK K hHeld0
          (try simp only[Act.put,tp,r9,tk])
          refine wpAnyH_ready (rs:=[15]) (by kernel_rfl) (by simp) ?_;refine AllReadyH.cons rfl (fun K hK=>?_) AllReadyH.nil;refine fb rfl 109 _ _ Tryz.Ra rfl #[.pointer (some ⟨S,0,none⟩),.int .i64 (a:Int),.string key] (by simp[Act.eval]) Bi.o (fun e w5 hp=>?_);obtain⟨rfl,Bl⟩:=hp;refine⟨_,rfl,?_⟩;have Cw:=p9 ((show Loc R.drew X #[.string nm,.string key] 129 from HX.o).grown (ag Bl none) (by simp));have I:=p9 (A0.o.trans (Bl.mono A0.o.size));have C2:=p9 ((Ds.o.kept (ag Bl none) (by cases (Value.ownBlock _)<;>simp)).alloc (.cells #[.int .i64 (po.getD 0),.bool po.isSome] 209));have Cy:=p9 (Cw.o.alloc (.cells #[.int .i64 (po.getD 0),.bool po.isSome] 209));have Ba:=p9 (I.o.alloc I.o.size (.cells #[.int .i64 (po.getD 0),.bool po.isSome] 209));clear Bl;refine hK.out _ _ (HS.o _ I.o Cw.o) (fun hHeld2=>?_);clear hK K hHeld1
          (try simp only[Act.put,tp,r9,tk])
          refine wpAnyH_ready (rs:=[16]) (by kernel_rfl) (by simp) ?_;refine AllReadyH.cons rfl (fun K hK=>?_) AllReadyH.nil;rw[a8 (by simp[Region.wanted])];unfold Oper.wp execOp;go_simp;refine hK.out _ _ (HS.o _ Ba.o Cy.o) (fun hHeldB=>?_);clear hK K
          (try simp only[Act.put,tp,r9,tk])
          refine wpAnyH_ready (rs:=[17]) (by kernel_rfl) (by simp) ?_;refine AllReadyH.cons rfl (fun K hK=>?_) AllReadyH.nil;refine step_append_lies _ rfl _ _ 204 rfl m.heap.size 209 i1 (.agg #[.int .i64 0,.bool false]) 2 16 underlying204 G.o.1 G.o.2.1 G.o.2.2.1 G.o.2.2.2 rfl (by decide) (.slice la k lc) _ _ (by simp[Act.eval]) C2.o ⟨w5.heap.size,0,none⟩ 1 1 [.int .i64 (po.getD 0),.bool po.isSome] (by simp[Act.eval]) rfl (World.news_of_block (heap_alloc_new w5 _)) (by simp[Value.oneCell']) (by omega) (by unfold maxLen;omega) (by omega) Ba.o.size _ rfl ?_;intro g2 D0 w8 Ae d _ _;have Dq:=p9 d;have C6:=p9 Ae;have Av:qv (Below m.heap.size m w8):=p9 (Ba.o.grown d Ba.o.size fun b D=>((C2.o).lt b D).1);have Cc:qv (Loc w8 X #[.string nm,.string key] 129):=p9 ((Cy.o).dY (C2.o) d (by decide));clear Ae d;refine hK.out _ _ (HS.o _ Av.o Cc.o) (fun hHeldC=>?_);clear hK K
          (try simp only[Act.put,tp,r9,tk])
          refine wpAnyH_take (i:=18) (v:=?v65) rfl (by kernel_rfl) (by kernel_rfl) (by kernel_rfl) (fun _ _ _ h=>h) (ad ⟨by rfl,?y65⟩) hHeldC ?r65
          case y65=>(intro w A3;obtain⟨Bn,Bo,Bp,Bq,Br,Bs⟩:=A3;go_simp;(try with_reducible rfl))
          (try simp only[Act.put,tp,r9,tk])
          refine wpAnyH_done (by kernel_rfl) ?_ _;refine NoPanic.normal ?_;clear hHeldC;go_simp;go_wp2_with fail;go_roundg (gk - 1)
          case measure=>omega
          case rel=>exact⟨k+1,by simp,by omega,by rw[Bg.o,B.o];exact C6.o,Av.o⟩
          -- END R16
       ·have A4:¬(k:Int)<(F.q.af.length:Int):=by omega
        have HE:qv (((F.q.af.take k).map (kF F r))=ir F r):=p9 (by rw[uB (by omega)];rfl);obtain rfl:k=F.q.af.length:=by omega
        rw[HE.o] at HL;go_wp2_with fail;go_meet
        case rel=>exact⟨HL.o,Ao.o⟩
     case rest=>
      obtain⟨hl,D⟩:=hcut;obtain⟨W3,rfl⟩:∃W3,W3=wc:=⟨_,rfl⟩;have Ai:qv ((ir F r).length=F.q.af.length):=p9 C3.o.1;have HL:=p9 hl;have Ao:=p9 D;have T:=p9 (Q.o.trans (D.mono Q.o.size));have Bh:=p9 (HO.o.below D);have Dp:=p9 HO.o.fresh;clear hl D t3 t17 t21;obtain⟨l,hl⟩:∃l,ir F r=l:=⟨_,rfl⟩;rw[hl] at HL Aj C3 Ai;clear hl;obtain⟨lg,lc,Ch⟩:=pI HL.o hit;subst Ch;obtain⟨oa,oc,Z⟩:=aV Bh.o.row;subst Z;have D8:(outs.length:Int)<=5001:=by have:=Cu.o;omega
      have El:outs.length<=5001:=by omega
      go_upto_block 7 with fail;go_cut [10] (fun av z=>((av=.int .i64 (-1)/\(0<N->∀(i:Nat) (h:i<outs.length),nD F.q.af l outs[i]=false))\/∃(a:Nat) (h:a<outs.length),av=.int .i64 (a:Int)/\0<N/\nD F.q.af l outs[a]=true/\∀(i:Nat) (h:i<outs.length),i<a->nD F.q.af l outs[i]=false)/\Below W3.heap.size W3 z)
      case first=>as_aux_lemma=>
       go_wp2_with fail;go_loopg [10,11] outs.length (fun c av jv z=>∃j:Nat,jv=.int .i64 (j:Int)/\j+c=outs.length/\((av=.int .i64 (-1)/\∀(i:Nat) (h:i<outs.length),i<j->nD F.q.af l outs[i]=false)\/∃(a:Nat) (h:a<outs.length),av=.int .i64 (a:Int)/\0<N/\nD F.q.af l outs[a]=true/\∀(i:Nat) (h:i<outs.length),i<a->nD F.q.af l outs[i]=false)/\Below W3.heap.size W3 z)
       case atStart=>exact⟨0,rfl,by omega,ad ⟨rfl,fun _ _ h=>absurd h (by omega)⟩,r5 _ _⟩
       case round=>
        obtain⟨j,rfl,D4,Cj,D⟩:=hrel;obtain⟨W4,rfl⟩:∃W4,W4=wr:=⟨_,rfl⟩;have A1:=p9 D;clear D;rcases Cj with ⟨rfl,V⟩|⟨a,ha,rfl,Ak,Af,V⟩
        ·have Ar:=p9 V;clear V;by_cases Bt:j<outs.length
         ·have Cg:(j:Int)<(outs.length:Int):=by omega
          by_cases Ak:0<N
          ·have D1:(0:Int)<(N:Int):=by omega
           have A9:qv (outs[j].length=F.q.af.length):=p9 (C8.o outs[j] (sT Bt)).1;obtain⟨og,Ec,g,cap,Z,cO,-,M,-⟩:=(Bh.o.below A1.o).at_ Bt (by rw[A9.o];exact hit);injection Z with J Ac Ad
           subst J Ad;have Bj:=p9 M;clear M Ac;have Dn:qv (∀b:Bool,nD F.q.af l outs[j]=b->nD F.q.af l outs[j]=b):=p9 (fun _ h=>h);obtain⟨y,hy⟩:∃y,outs[j]=y:=⟨_,rfl⟩;have HY:=p9 hy;rw[hy] at A9 cO Bj;rw[A9.o] at cO Bj;clear hy Dn;obtain⟨gJ,E5⟩:∃gJ,gJ=gk:=⟨_,rfl⟩;subst E5;have Bf:=p9 D4;clear D4;have Bw:=p9 (T.o.trans (A1.o.mono T.o.size));have Cq:=p9 (HL.o.kept (ag A1.o none) (by cases (Value.ownBlock _)<;>simp));go_upto_block 9 with fail;go_cut [12] (fun sv z=>sv=.bool (nD F.q.af l y)/\Below W4.heap.size W4 z)
           case first=>
            go_wp2_with fail;go_loopg [12,13] F.q.af.length (fun c sv kv z=>∃k:Nat,sv=.bool (oH F.q.af l y k)/\kv=.int .i64 (k:Int)/\k+c=F.q.af.length/\Below W4.heap.size W4 z)
            case atStart=>exact⟨0,rfl,rfl,by omega,r5 _ _⟩
            case round=>
             obtain⟨k,rfl,rfl,B4,D⟩:=hrel;have I:=p9 D;clear D;by_cases s:k<F.q.af.length
             ·have A4:(k:Int)<(F.q.af.length:Int):=by omega
              have Bx:=p9 (Bw.o.trans (I.o.mono Bw.o.size));obtain⟨t3,-,-⟩:=Y.o wr Bx.o;obtain⟨ig,io,rfl,U⟩:=bC (l:=F.q.af) kk (fun _=>rfl) (Be.o wr Bx.o) s;have f:qv (oH F.q.af l y (k+1)=(oH F.q.af l y k&&(fi F.q.af[k] || decide (l[k]'(by rw[Ai.o];exact s)=y[k]'(by rw[A9.o];exact s))))):=p9 (by
               conv=>lhs;unfold oH
               unfold ik;rw[r6 s,r6 (by rw[Ai.o];exact s),r6 (by rw[A9.o];exact s)]
               rfl)
              obtain⟨l0,l1,-,-⟩:=tZ (Cq.o.kept (ag I.o none) (by cases (Value.ownBlock _)<;>simp)) Ai.o (by rw[Ai.o];exact s);obtain⟨y0,y1,-,-⟩:=tZ (Bj.o.kept (ag I.o none) (by cases (Value.ownBlock _)<;>simp)) A9.o (by rw[A9.o];exact s);have cO:wr.cell? ⟨og,j,none⟩=some (.slice (some ⟨g,0,none⟩) F.q.af.length cap):=(I.o.cell (block_lt_of_cell cO)).trans cO;obtain⟨x,hx⟩:∃x,F.q.af[k]=x:=⟨_,rfl⟩;rw[hx] at U f;have p0:wr.cell? ⟨ig,io+k*2,none⟩=some (.string x.name):=U 0 (by omega);clear U hx;generalize l[k]'(by rw[Ai.o];exact s)=u at f l0 l1;generalize y[k]'(by rw[A9.o];exact s)=v at f y0 y1;go_upto_region 29 with fail;have Ag:qv (∀(b:Bool) (nq:Nat),oH F.q.af l y (k+1)=b->∃k':Nat,(Value.bool b)=.bool (oH F.q.af l y k')/\Value.int .i64 ((k:Int)+1)=.int .i64 (k':Int)/\k'+(gk - 1)=F.q.af.length/\Below W4.heap.size W4 (wr.drewN nq)):=p9 (fun b nq D=>⟨k+1,by rw[D],by simp,by omega,I.o.trans (Joins.below_draws _ wr nq)⟩);clear Cq Bj;cases Da:oH F.q.af l y k with
              | false=>
               rw[Da] at f;have f:qv (oH F.q.af l y (k+1)=false):=f;go_quiet (fail)
               go_wp2_with fail;go_roundg (gk - 1)
               case measure=>omega
               case rel=>exact Ag.o _ nq f.o
              | true=>
               rw[Da] at f;cases B5:x.name.toList.isEmpty with
               | true=>
                have f:qv (oH F.q.af l y (k+1)=true):=p9 (by rw[f.o,show fi x=true from B5];rfl);go_quiet (fail)
                go_wp2_with fail;go_roundg (gk - 1)
                case measure=>omega
                case rel=>exact Ag.o _ nq f.o
               | false=>
                have f:qv (oH F.q.af l y (k+1)=decide (u=v)):=p9 (by rw[f.o,show fi x=false from B5];simp);cases u with
                | none=>
                 simp only[F8,F1] at l0 l1;cases v with
                 | none=>
                  simp only[F8,F1] at y0 y1;have f:qv (oH F.q.af l y (k+1)=true):=f;go_quiet (fail)
                  go_wp2_with fail;go_roundg (gk - 1)
                  case measure=>omega
                  case rel=>exact Ag.o _ nq f.o
                 | some b=>
                  simp only[xp,B1] at y0 y1;have f:qv (oH F.q.af l y (k+1)=false):=f;go_quiet (fail)
                  go_wp2_with fail;go_roundg (gk - 1)
                  case measure=>omega
                  case rel=>exact Ag.o _ nq f.o
                | some a=>
                 simp only[xp,B1] at l0 l1;cases v with
                 | none=>
                  simp only[F8,F1] at y0 y1;have f:qv (oH F.q.af l y (k+1)=false):=f;go_quiet (fail)
                  go_wp2_with fail;go_roundg (gk - 1)
                  case measure=>omega
                  case rel=>exact Ag.o _ nq f.o
                 | some b=>
                  simp only[xp,B1] at y0 y1;by_cases Ay:a=b
                  ·subst Ay;have f:qv (oH F.q.af l y (k+1)=true):=p9 (by rw[f.o];simp);go_quiet (fail)
                   go_wp2_with fail;go_roundg (gk - 1)
                   case measure=>omega
                   case rel=>exact Ag.o _ nq f.o
                  ·have D7:(a==b)=false:=by simpa using Ay
                   have f:qv (oH F.q.af l y (k+1)=false):=p9 (by rw[f.o];simpa using Ay);clear Ay;go_quiet (fail)
                   go_wp2_with fail;go_roundg (gk - 1)
                   case measure=>omega
                   case rel=>exact Ag.o _ nq f.o
             ·have A4:¬(k:Int)<(F.q.af.length:Int):=by omega
              obtain rfl:k=F.q.af.length:=by omega
              have HE:qv (oH F.q.af l y F.q.af.length=nD F.q.af l y):=p9 rfl;rw[HE.o];go_wp2_with fail;go_meet
              case rel=>exact⟨rfl,I.o⟩
           case rest=>
            obtain⟨rfl,Al⟩:=hcut;have Cn:=p9 (A1.o.trans (Al.mono A1.o.size));clear Al cO;cases Aa:nD F.q.af l y with
            | true=>
             go_wp2_with fail;go_roundg (gJ - 1)
             case measure=>have:=Bf.o;omega
             case rel=>exact⟨j+1,by simp,by have:=Bf.o;omega,a6 ⟨j,Bt,rfl,Ak,by rw[HY.o];exact Aa,Ar.o⟩,Cn.o⟩
            | false=>
             go_wp2_with fail;go_roundg (gJ - 1)
             case measure=>have:=Bf.o;omega
             case rel=>
              refine⟨j+1,by simp,by have:=Bf.o;omega,ad ⟨rfl,fun i h hi=>?_⟩,Cn.o⟩;rcases ua i j with h1|h1
              ·exact Ar.o i h h1
              ·obtain rfl:i=j:=by omega
               rw[HY.o];exact Aa
          ·have D1:¬(0:Int)<(N:Int):=by omega
           go_wp2_with fail;go_meet
           case rel=>exact⟨ad ⟨rfl,fun h=>absurd h Ak⟩,A1.o⟩
         ·have Cg:¬(j:Int)<(outs.length:Int):=by omega
          go_wp2_with fail;go_meet
          case rel=>exact⟨ad ⟨rfl,fun _ i h=>Ar.o i h (by omega)⟩,A1.o⟩
        ·have Ar:=p9 V;have Cz:=p9 Af;clear V Af;have D2:¬(a:Int)<0:=by omega
         have D1:(0:Int)<(N:Int):=by omega
         have Ay:(a:Int)<=5001:=by omega
         by_cases Bt:j<outs.length
         ·have Cg:(j:Int)<(outs.length:Int):=by omega
          go_wp2_with fail;go_meet
          case rel=>exact⟨a6 ⟨a,ha,rfl,Ak,Cz.o,Ar.o⟩,A1.o⟩
         ·have Cg:¬(j:Int)<(outs.length:Int):=by omega
          go_wp2_with fail;go_meet
          case rel=>exact⟨a6 ⟨a,ha,rfl,Ak,Cz.o,Ar.o⟩,A1.o⟩
      case rest=>as_aux_lemma=>
       obtain⟨Cj,Al⟩:=hcut;obtain⟨W5,rfl⟩:∃W5,W5=wc:=⟨_,rfl⟩;have I:=p9 (T.o.trans (Al.mono T.o.size));have C5:=p9 (Bh.o.below Al);have Dr:=p9 (HL.o.kept (ag Al none) (by cases (Value.ownBlock _)<;>simp));clear Al HL Bh T Ao;rcases Cj with ⟨rfl,V⟩|⟨a,ha,rfl,Ak,Af,V⟩
       ·have Bz:qv (o9 F.q.af outs l=outs++[l]):=p9 (Dj (by rw[HN.o];exact V));rw[Bz.o] at Aj;have As:=p9 (C5.o.row.alloc (.cells #[.slice (some ⟨lg,0,none⟩) F.q.af.length lc] 204));have A:=p9 (I.o.alloc I.o.size (.cells #[.slice (some ⟨lg,0,none⟩) F.q.af.length lc] 204));clear V;go_wp2_with (at_builtin;go_must (refine wpList_append_own _ rfl _ _ 201 rfl W.heap.size 204 i2 (.slice none 0 0) 1 24 underlying201 A8.o.1 A8.o.2.1 A8.o.2.2.1 A8.o.2.2.2 rfl (by decide) _ _ _ rfl As.o ⟨W5.heap.size,0,none⟩ 1 1 [.slice (some ⟨lg,0,none⟩) F.q.af.length lc] rfl rfl (World.news_of_block (heap_alloc_new W5 _)) (by simp[Value.oneCell']) (by unfold maxLen;omega) (by omega) A.o.size ?_);intro v' w6 E d Ab;have C:=p9 E;have A7:=p9 d;clear E d Ab)
        go_roundg (gO - 1)
        case measure=>have:=Bd.o;omega
        case rel=>
         refine⟨i+1,O++[.slice (some ⟨lg,0,none⟩) F.q.af.length lc],by simp,by have:=Bd.o;omega,?_,A.o.grown A7.o A.o.size fun b D=>(As.o.lt b D).1⟩;rw[Aj.o];exact(C5.o.below ((r5 _ _).alloc (rm _) _)).add Q.o.size Dp.o (by rw[Ai.o];exact Dr.o.alloc _) A7.o C.o
       ·have Bz:qv (o9 F.q.af outs l=outs.set a (zZ F.q.af outs[a])):=p9 (Hv (by rw[HN.o];exact Ak) ha Af V);rw[Bz.o] at Aj;have E2:qv (∀k,pD F.q.af (i+1) (oT F.q.af outs[a] k)):=p9 (fun k=>IZ (C8.o outs[a] (sT ha)) (by omega) k);have E1:qv (∀k,k<F.q.af.length->oT F.q.af outs[a] (k+1)=if ik F.q.af k then (oT F.q.af outs[a] k).set k (some ((((oT F.q.af outs[a] k)[k]?).getD none).getD 0+1)) else oT F.q.af outs[a] k):=p9 (fun k _=>by conv=>lhs;unfold oT);have D2:¬(a:Int)<0:=by omega
        have Aa:(a:Int)<(outs.length:Int):=by omega
        clear V Af;go_wp2_with fail;go_loopg [14] F.q.af.length (fun c kv z=>∃k:Nat,kv=.int .i64 (k:Int)/\k+c=F.q.af.length/\wG W.heap.size (.slice oa outs.length oc) O (outs.set a (oT F.q.af outs[a] k)) z/\Below W.heap.size W z)
        case atStart=>
         refine⟨0,rfl,by omega,?_,I.o⟩;have e:outs.set a (oT F.q.af outs[a] 0)=outs:=List.set_getElem_self ha;rw[e];exact C5.o
        case round=>
         obtain⟨k,rfl,B4,ho,D⟩:=hrel;have C:=p9 ho;have A6:=p9 D;clear ho D;by_cases s:k<F.q.af.length
         ·have A4:(k:Int)<(F.q.af.length:Int):=by omega
          obtain⟨t3,-,-⟩:=Y.o wr A6.o;obtain⟨ig,io,rfl,U⟩:=bC (l:=F.q.af) kk (fun _=>rfl) (Be.o wr A6.o) s;have P:=E1.o k s;have C0:qv (ik F.q.af k=fi F.q.af[k]):=p9 (by unfold ik;rw[r6 s];rfl);have Cd:=p9 (E2.o k);obtain⟨x,hx⟩:∃x,F.q.af[k]=x:=⟨_,rfl⟩;rw[hx] at U C0;have p0:wr.cell? ⟨ig,io+k*2,none⟩=some (.string x.name):=U 0 (by omega);clear U hx;have P:=p9 P;obtain⟨y,hy⟩:∃y,oT F.q.af outs[a] k=y:=⟨_,rfl⟩;rw[hy] at P C Cd;clear hy;cases B5:x.name.toList.isEmpty with
          | false=>
           have Bb:qv (ik F.q.af k=false):=p9 (C0.o.trans B5);rw[Bb.o] at P;have P:qv (oT F.q.af outs[a] (k+1)=y):=P;go_wp2_with fail;go_roundg (gk - 1)
           case measure=>omega
           case rel=>exact⟨k+1,by simp,by omega,by rw[P.o];exact C.o,A6.o⟩
          | true=>
           have Bb:qv (ik F.q.af k=true):=p9 (C0.o.trans B5);rw[Bb.o] at P;obtain⟨cc,B0,E4⟩:=Cd.o.2.2 k Bb.o;rw[B0] at P;have P:qv (oT F.q.af outs[a] (k+1)=y.set k (some ((cc:Int)+1))):=P;have B9:y.length=F.q.af.length:=Cd.o.1;have Az:a<(outs.set a y).length:=by rw[zp];exact ha
           have B3:(outs.set a y)[a]=y:=List.getElem_set_self Az;obtain⟨og,Ec,g,cap,Z,cO,Am,M,-⟩:=C.o.at_ Az (by rw[B3,B9];exact hit);rw[zp] at Z;injection Z with J Ac Ad
           subst J Ad;rw[B3,B9] at cO Am M;have D6:k<y.length:=by omega
           obtain⟨y0,-,f0,-⟩:=tZ M B9 D6;have Di:y[k]=some (cc:Int):=by
            rw[r6 D6] at B0;exact Bm B0
           rw[Di] at y0;have y0:wr.cell? ⟨g,k*2,none⟩=some (.int .i64 (cc:Int)):=y0;have Eh:(cc:Int)<=6000:=by omega
           have C1:=p9 (M.lt g rfl).1;have Ca:qv (wG W.heap.size (.slice (some ⟨og,0,none⟩) outs.length oc) O ((outs.set a y).set a (y.set k (some ((cc:Int)+1)))) (wr.setCell ⟨g,k*2,none⟩ (.int .i64 ((cc:Int)+1)))):=p9 (C.o.putAt Az (by rw[Am]) (by rw[B3,B9]) (by rw[B3];exact Ih y k _ cc B0) (by rw[zp,B9]));clear B0 Am M B3 Di Ac E4;go_wp2_with fail;go_roundg (gk - 1)
           case measure=>omega
           case rel=>
            refine⟨k+1,by simp,by omega,?_,A6.o.setCell (p:=⟨g,k*2,none⟩) C1.o _⟩;have:=Ca.o;rw[List.set_set] at this;rw[P.o];exact this
         ·have A4:¬(k:Int)<(F.q.af.length:Int):=by omega
          obtain rfl:k=F.q.af.length:=by omega
          go_wp2_with fail;go_roundg (gO - 1)
          case measure=>have:=Bd.o;omega
          case rel=>exact⟨i+1,O,by simp,by have:=Bd.o;omega,by rw[Aj.o];exact C.o,A6.o⟩
    ·have E7:¬(i:Int)<(rows.length:Int):=by omega
     have HE:qv (iP F (rows.take i)=iP F rows):=p9 (by rw[uB (by omega)]);rw[HE.o] at HO;have D8:(iP F rows).length<=5001:=by have:=rQ F rows rows.length (rm _);rw[yt] at this;omega
     have Bc:qv (iI F rows=vP F.q.af (iP F rows)):=p9 rfl;obtain⟨outs,B6⟩:∃outs,iP F rows=outs:=⟨_,rfl⟩;rw[B6] at HO Bc D8;clear B6 HE;have Ap:qv (vP F.q.af outs=if outs=[]/\N=F.q.af.length then [List.replicate F.q.af.length (some 0)] else outs):=p9 (by unfold vP;rw[HN.o]);obtain⟨oa,oc,Z⟩:=aV HO.o.row;subst Z;cases outs with
     | cons o0 os=>
      rw[bk (fun h=>by cases h.1)] at Ap;have Ek:(((o0::os).length:Int)==0)=false:=by simp;omega
      go_wp2_with fail;go_ret;exact⟨⟨_,O,rfl,by rw[Bc.o,Ap.o];exact HO.o⟩,Q.o⟩
     | nil=>
      have B8:O=[]:=RA HO.o.RP;subst B8;by_cases Ce:N=F.q.af.length
      ·rw[a8 ⟨rfl,Ce⟩] at Ap;subst Ce;obtain⟨n,hn⟩:∃n,F.q.af.length=n:=⟨_,rfl⟩;have Ee:=p9 hn;have Do:qv (i1.bytes*F.q.af.length<=281474976710656):=p9 (by rw[G.o.2.2.2];omega);have Cs:qv ((m.alloc (.cells (madeCells #[.int .i64 0,.bool false] (F.q.af.length*2)) 209)).ownsRow m.heap.size 209 2 (.slice (some ⟨m.heap.size,0,none⟩) F.q.af.length F.q.af.length) F.q.af.length ((List.replicate F.q.af.length (none:Option Int)).flatMap vC)):=p9 (by
        have h1:=World.ownsRow_lit (base:=m.heap.size) (e:=209) (size:=2) m (madeCells #[.int .i64 0,.bool false] (F.q.af.length*2)) F.q.af.length (rm _) (by unfold maxLen;omega) (by simp[madeCells])
        rwa [KO] at h1)
       have Cf:Below m.heap.size m (m.alloc (.cells (madeCells #[.int .i64 0,.bool false] (F.q.af.length*2)) 209)):=(r5 _ _).alloc (rm _) _;have C4:=p9 (HO.o.below Cf);have L:=p9 (Q.o.trans (Cf.mono Q.o.size));have HZ:qv ((m.alloc (.cells (madeCells #[.int .i64 0,.bool false] (F.q.af.length*2)) 209)).heap.size=m.heap.size+1):=p9 (z6 _ _);have As:qv (((m.alloc (.cells (madeCells #[.int .i64 0,.bool false] (F.q.af.length*2)) 209)).alloc (.cells #[.slice (some ⟨m.heap.size,0,none⟩) F.q.af.length F.q.af.length] 204)).ownsRow W.heap.size 204 1 (.slice oa 0 oc) 0 []):=p9 (C4.o.row.alloc _);have A:qv (Below W.heap.size W ((m.alloc (.cells (madeCells #[.int .i64 0,.bool false] (F.q.af.length*2)) 209)).alloc (.cells #[.slice (some ⟨m.heap.size,0,none⟩) F.q.af.length F.q.af.length] 204))):=p9 (L.o.alloc L.o.size _);clear Cf hn;go_wp2_with (first|(refine uQ _ rfl _ _ 204 rfl 209 i1 (.agg #[.int .i64 0,.bool false]) 2 underlying204 G.o.1 G.o.2.1 G.o.2.2.1 .i64 .i64 _ _ F.q.af.length rfl rfl (by simp) (by simp) Do.o (by omega) ?_)|(at_builtin;go_must (refine wpList_append_own _ rfl _ _ 201 rfl W.heap.size 204 i2 (.slice none 0 0) 1 24 underlying201 A8.o.1 A8.o.2.1 A8.o.2.2.1 A8.o.2.2.2 rfl (by decide) _ _ _ rfl As.o ⟨(m.alloc (.cells (madeCells #[.int .i64 0,.bool false] (F.q.af.length*2)) 209)).heap.size,0,none⟩ 1 1 [.slice (some ⟨m.heap.size,0,none⟩) F.q.af.length F.q.af.length] (by first|rfl|(rw[HZ.o];rfl)) rfl (World.news_of_block (heap_alloc_new (m.alloc (.cells (madeCells #[.int .i64 0,.bool false] (F.q.af.length*2)) 209)) _)) (by simp[Value.oneCell']) (by unfold maxLen;omega) (by omega) A.o.size ?_);intro v' w6 E d Ab;have C:=p9 E;have A7:=p9 d;clear E d Ab;obtain⟨og,Bv,E8⟩:=pI C.o (by omega);subst E8))
       have Cv:qv (wG W.heap.size (.slice (some ⟨og,0,none⟩) 1 Bv) [.slice (some ⟨m.heap.size,0,none⟩) F.q.af.length F.q.af.length] [List.replicate F.q.af.length none] w6):=p9 ((C4.o.below ((r5 _ _).alloc (rm _) _)).add Q.o.size (fun u hu=>by cases hu) (by rw[List.length_replicate];exact Cs.o.alloc _) A7.o C.o);have Co:qv (Below W.heap.size W w6):=p9 (A.o.grown A7.o A.o.size fun b D=>(As.o.lt b D).1);clear C4 C A7 As A Cs L HO;go_loopg [15] F.q.af.length (fun c kv z=>∃k:Nat,kv=.int .i64 (k:Int)/\k+c=F.q.af.length/\wG W.heap.size (.slice (some ⟨og,0,none⟩) 1 Bv) [.slice (some ⟨m.heap.size,0,none⟩) F.q.af.length F.q.af.length] [List.replicate k (some 0)++List.replicate (F.q.af.length - k) none] z/\Below W.heap.size W z)
       case atStart=>exact⟨0,rfl,by omega,Cv.o,Co.o⟩
       case round=>
        obtain⟨k,rfl,B4,ho,D⟩:=hrel;have C:=p9 ho;have A6:=p9 D;clear ho D Cv Co;by_cases s:k<F.q.af.length
        ·have A4:(k:Int)<(F.q.af.length:Int):=by omega
         have Au:(List.replicate k (some (0:Int))++List.replicate (F.q.af.length - k) none).length=F.q.af.length:=by simp;omega
         obtain⟨Er,Eq,g,cap,Z,cO,Am,M,-⟩:=C.o.at_ (j:=0) (by simp) (by rw[r9,Au];exact hit);injection Z with J Ac Ad
         injection J with J
         injection J with J
         subst J Ad;rw[r9,Au] at cO Am M;obtain⟨yb,y1⟩:∃yb,wr.cell? ⟨g,k*2+1,none⟩=some (.bool yb):=⟨_,(tZ (k:=k) M Au (by omega)).2.1⟩;have f1:=(tZ (k:=k) M Au (by omega)).2.2.2;have C1:=p9 (M.lt g rfl).1;have Ca:qv (wG W.heap.size (.slice (some ⟨og,0,none⟩) 1 Bv) [.slice (some ⟨m.heap.size,0,none⟩) F.q.af.length F.q.af.length] [List.replicate (k+1) (some 0)++List.replicate (F.q.af.length - (k+1)) none] (wr.setCell ⟨g,k*2+1,none⟩ (.bool true))):=p9 (by
          have h1:=C.o.putAt (j:=0) (g:=g) (cap:=cap) (n:=F.q.af.length) (c:=k*2+1) (u:=.bool true) (y:=List.replicate (k+1) (some 0)++List.replicate (F.q.af.length - (k+1)) none) (by simp) Am (by rw[r9,Au]) (by rw[r9,<-LN s];exact IU _ k (Pl s)) (by simp;omega);exact h1)
         clear Am M Au Ac;go_wp2_with fail;go_roundg (gk - 1)
         case measure=>omega
         case rel=>exact⟨k+1,by simp,by omega,Ca.o,A6.o.setCell (p:=⟨g,k*2+1,none⟩) C1.o _⟩
        ·have A4:¬(k:Int)<(F.q.af.length:Int):=by omega
         obtain rfl:k=F.q.af.length:=by omega
         go_wp2_with fail;go_ret;refine⟨⟨.slice (some ⟨og,0,none⟩) 1 Bv,[.slice (some ⟨m.heap.size,0,none⟩) F.q.af.length F.q.af.length],rfl,?_⟩,A6.o⟩;rw[Bc.o,Ap.o];have:=C.o;rw[F3,List.replicate_zero,x8] at this;exact this
      ·rw[bk (fun h=>Ce h.2)] at Ap;have Eg:((N:Int)==(F.q.af.length:Int))=false:=by simp;omega
       go_wp2_with fail;go_ret;exact⟨⟨_,[],rfl,by rw[Bc.o,Ap.o];exact HO.o⟩,Q.o⟩
end
end Go.Proofs.YtbfmmmjkjhjleaaGreatDoor
