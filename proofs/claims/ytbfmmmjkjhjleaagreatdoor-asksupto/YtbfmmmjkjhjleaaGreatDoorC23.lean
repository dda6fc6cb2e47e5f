/- Mine. -/
import Derived.Test.YtbfmmmjkjhjleaaGreatDoorC18
set_option maxRecDepth 100000
set_option maxHeartbeats 0
namespace Go.Proofs.YtbfmmmjkjhjleaaGreatDoor
open Go.Proofs.Tryz
section
open Go.RowKit
theorem Sw(s:ByteArray)(W:World)(hm:s.size<=maxLen):
  Calls prog 7 #[.string s] W fun e W'=>((e=.returned (.tuple #[.pointer none,.int .i64 1])/\oD s=none)\/∃gb v l,e=.returned (.tuple #[.pointer (some ⟨gb,0,none⟩),.int .i64 0])/\oD s=some (l.map zE)/\kH W.heap.size gb v l W')/\Below W.heap.size W W':=by
 unfold maxLen at hm;by_cases hs:2000<s.size
 ·have B7:(2000:Int)<(s.size:Int):=by omega
  have U:qv (oD s=none):=p9 (by unfold oD;rw[bk (by omega)]);go_enter func7,ntmps7
  go_wp2_with fail;go_ret2;exact⟨ad ⟨rfl,U.o⟩,r5 _ _⟩
 ·have B7:¬(2000:Int)<(s.size:Int):=by omega
  have U:qv (oD s=(ee s s.size 0 0).foldlM lT []):=p9 (by unfold oD;rw[a8 (by omega)]);obtain⟨i1,hj,Bc,Bd,Be⟩:=info_parts Tryz.K8;obtain⟨i2,hk,B9,Ba,Bb⟩:=info_parts Tryz.Fc;have I:=p9 ((r5 W.heap.size W).alloc (rm _) (.cells #[.slice none 0 0,.slice none 0 0,.slice none 0 0,.int .i64 0,.int .i64 0,.slice none 0 0,.slice none 0 0] 73));have H0:qv (kH W.heap.size W.heap.size (.slice none 0 0) [] (W.alloc (.cells #[.slice none 0 0,.slice none 0 0,.slice none 0 0,.int .i64 0,.int .i64 0,.slice none 0 0,.slice none 0 0] 73))):=p9 ⟨Loc.new W _ _,tj _ _ _ _,fun x hx=>(by cases hx),List.Pairwise.nil,rm _⟩;go_enter func7,ntmps7
  go_upto_region 4 with fail;obtain⟨G,hG⟩:∃G,G=W.heap.size:=⟨_,rfl⟩;have HG:=p9 hG;have H0:qv (kH W.heap.size G (.slice none 0 0) [] (W.alloc (.cells #[.slice none 0 0,.slice none 0 0,.slice none 0 0,.int .i64 0,.int .i64 0,.slice none 0 0,.slice none 0 0] 73))):=p9 (by rw[hG];exact H0.o);rw[show (Value.pointer (some ⟨W.heap.size,0,none⟩))=.pointer (some ⟨G,0,none⟩) by rw[hG]];clear hG;generalize W.alloc (.cells #[.slice none 0 0,.slice none 0 0,.slice none 0 0,.int .i64 0,.int .i64 0,.slice none 0 0,.slice none 0 0] 73)=W1 at H0 I⊢;go_wp2_with fail;refine(Oe s W1 (by omega)).mono ?_;rintro e W2 ⟨⟨lv,rfl,h⟩,A9⟩;have HL:=p9 (fo h I.o.size);have H2:=p9 (H0.o.below A9);have Ae:=p9 (I.o.trans (A9.mono I.o.size));have Ai:qv (∀x∈ee s s.size 0 0,x.size<=2000):=p9 (fun x hx=>r8 (qG s _ _ _ x hx) (by omega));have hlen:(ee s s.size 0 0).length<=2001:=r8 (o7 s s.size 0 0) (by omega);clear h A9 H0 I;generalize ee s s.size 0 0=P at HL U Ai hlen⊢;obtain⟨la,lc,B6⟩:=aV HL.o;subst B6;go_wp2_with fail;go_loopg [6] P.length (fun c iv w=>∃(k:Nat) (v:Value) (l:List eT),iv=.int .i64 (k:Int)/\k+c=P.length/\(P.take k).foldlM lT []=some (l.map zE)/\l.length<=6/\(∀x∈l,x.2.2.length<=k)/\kH W.heap.size G v l w/\w.ownsRow W.heap.size 9 1 (.slice la P.length lc) P.length (strs P)/\Below W.heap.size W w)
  case atStart=>exact⟨0,_,[],rfl,by omega,rfl,by simp,fun x hx=>(by cases hx),H2.o,HL.o,Ae.o⟩
  case round=>
   obtain⟨k,v,l,rfl,Bi,hf,Aq,At,hn,hr,hb⟩:=hrel;clear H2 HL Ae;have HF:=p9 hf;have H:=p9 hn;have HL:=p9 hr;have HB:=p9 hb;have A7:=p9 At;clear hf hn hr hb At;by_cases Ab:k<P.length
   ·have B4:(k:Int)<(P.length:Int):=by omega
    obtain⟨K,n⟩:=PM Ab HF.o;have K:=p9 K;have n:=p9 n;have Au:=aJ HL.o (by simp[strs]);obtain⟨lg,lo,B5,cx⟩:=yj Au Ab;subst B5;have A8:=p9 (Ai.o P[k] (sT Ab));clear Au;generalize P[k]=x at K n A8 cx⊢;go_wp2_with fail;refine(MF x 32 wr (by have:=A8.o;unfold maxLen;omega)).mono ?_;rintro e W3 ⟨rfl,N⟩;have H3:=p9 (H.o.below N);have A5:=p9 (HL.o.kept (ag N none) (by cases (Value.ownBlock _)<;>simp));have j:=p9 (HB.o.trans (N.mono HB.o.size));have cx:W3.cell? ⟨lg,lo+k,none⟩=some (.string x):=(N.cell (block_lt_of_cell cx)).trans cx;clear N H HL HB;obtain⟨va,vc,hv⟩:=aV H3.o.row;subst hv;have c0:=H3.o.bJ.at_ 0 (.slice va l.length vc) rfl;have Aw:qv ((l.flatMap Eb).length=l.length*2):=p9 H3.o.row.1;cases A0:(cA x 32).toList==[114,111,108,101] with
    | true=>
     have d:qv (lT (l.map zE) x=if bB (cZ x 32)=true/\(∀y∈l,¬y.1=cZ x 32)/\¬l.length=6 then some (l.map zE++[(cZ x 32,[])]) else none):=p9 (by
      unfold lT;rw[a8 A0,tB];have e:(∀y∈l.map zE,¬y.1=cZ x 32)↔(∀y∈l,¬y.1=cZ x 32):=List.forall_mem_map;simp only[e])
     generalize cZ x 32=z at d⊢;generalize cB x 32=cb;generalize cA x 32=a at A0⊢;go_wp2_with fail;refine(wM z W3).mono ?_;rintro e W4 ⟨rfl,hw⟩;obtain rfl:=hw.symm;clear hw;go_wp2_with fail;refine(Lo (l:=l) (nm:=z) H3.o.bJ rfl (aJ H3.o.row Aw.o) (by omega)).mono ?_;rintro e W4 ⟨⟨r,rfl,Aa⟩,hw⟩;obtain rfl:=hw.symm;clear hw;have Ak:qv (nY r):=p9 (by
      unfold nY;rcases Aa with ⟨rfl,_⟩|⟨k,hk,rfl,_⟩<;>omega)
     have Bj:=Ak.o.1;have Bk:=Ak.o.2;have Ag:=p9 Aa.neg;clear Aa;generalize bB z=b at d⊢;cases b with
     | false=>
      rw[bk (by simp)] at d;have T:qv (oD s=none):=p9 (by rw[U.o];exact n.o d.o);go_wp2_with fail;go_ret2;exact⟨ad ⟨rfl,T.o⟩,j.o⟩
     | true=>
      by_cases h0:0<=r
      ·rw[bk (by rintro ⟨_,h2,_⟩;obtain⟨y,Q,he⟩:=Ag.o.1 h0;exact h2 y Q he)] at d;have T:qv (oD s=none):=p9 (by rw[U.o];exact n.o d.o);go_wp2_with fail;go_ret2;exact⟨ad ⟨rfl,T.o⟩,j.o⟩
      ·by_cases h6:l.length=6
       ·rw[bk (by rintro ⟨_,_,h2⟩;exact h2 h6)] at d;have T:qv (oD s=none):=p9 (by rw[U.o];exact n.o d.o);have B3:((l.length:Int)==6)=true:=by rw[h6];rfl
        clear h6 Aq;go_wp2_with fail;go_ret2;exact⟨ad ⟨rfl,T.o⟩,j.o⟩
       ·rw[a8 ⟨rfl,fun y Q he=>h0 (Ag.o.2 ⟨y,Q,he⟩),h6⟩] at d;have B3:((l.length:Int)==6)=false:=by simp;omega
        have F:=p9 (H3.o.below ((r5 _ _).alloc (rm _) (.cells #[.string z,.slice none 0 0] 81)));have L:=p9 (A5.o.alloc (.cells #[.string z,.slice none 0 0] 81));have J:=p9 (j.o.alloc j.o.size (.cells #[.string z,.slice none 0 0] 81));go_wp2_with (at_builtin;go_must (refine wpList_append_lies _ rfl _ _ 68 rfl W.heap.size 81 i1 (.agg #[.string ⟨#[]⟩,.slice none 0 0]) 2 40 underlying68 hj Bc Bd Be rfl (by decide) (.slice va l.length vc) _ _ (by simp[Act.eval]) F.o.row ⟨W3.heap.size,0,none⟩ 1 1 [.string z,.slice none 0 0] (by simp[Act.eval]) rfl (World.news_of_block (heap_alloc_new W3 _)) (by simp[Value.oneCell']) (by omega) (by unfold maxLen;omega) (by omega) (by have:=j.o.size;simp;omega) _ rfl ?_);intro g2 Am w5 h f m _;clear m;have A6:=F.o.bJ.dY F.o.row f (by decide);have c5:w5.cell? ⟨G,0,none⟩=some (.slice va l.length vc):=(A6.cell 0).trans rfl;have f5:w5.frozen? ⟨G,0,none⟩=false:=A6.free 0;have R:=p9 f;have Az:=p9 h;clear A6 h f)
        go_roundg (gk - 1)
        case measure=>omega
        case rel=>
         have Ax:=(F.o.bJ.dY F.o.row R.o (by decide));have Ap:=L.o.kept R.o (bT L.o F.o.row (by decide));refine⟨k+1,_,l++[(z,.slice none 0 0,[])],by simp,by omega,by rw[K.o,d.o];simp[zE],by simp;omega,fun y Q=>?_,F.o.role R.o Az.o,Ap.kept (aE w5 G 0 _) (a6 fun e=>aR Ap Ax (by decide) e),?_⟩
         ·rcases List.mem_append.1 Q with Q|Q
          ·have:=A7.o y Q;omega
          ·simp only[vA] at Q;subst Q;simp
         ·exact(J.o.grown R.o (by have:=j.o.size;simp;omega) (fun b hb=>(F.o.row.lt b hb).1)).setCell (p:=⟨G,0,none⟩) F.o.low _
    | false=>
     have d:qv (lT (l.map zE) x=if (fg x).2=true/\l.map zE≠[] then some (Ke (l.map zE) (fg x).1) else none):=p9 (by
      unfold lT;rw[bk (by rw[A0];simp)])
     generalize cZ x 32=z at d⊢;generalize cB x 32=cb;generalize cA x 32=a at A0⊢;go_wp2_with fail;refine(Hs x W3 A8.o).mono ?_;rintro e W4 ⟨rfl,X⟩;have F:=p9 (H3.o.below X);have L:=p9 (A5.o.kept (ag X none) (by cases (Value.ownBlock _)<;>simp));have J:=p9 (j.o.trans (X.mono j.o.size));clear X c0 cx H3 A5 j;generalize (fg x).2=ok at d⊢;generalize (fg x).1=rr at d⊢;obtain⟨q,t,A⟩:=rr;unfold IC;simp only;have H5:=p9 (F.o.below ((r5 _ _).alloc (rm _) (.cells #[.string q,.string t,.string A] 83)));have Ah:=p9 (L.o.alloc (.cells #[.string q,.string t,.string A] 83));have D:=p9 (J.o.alloc J.o.size (.cells #[.string q,.string t,.string A] 83));have M:=p9 (Loc.new W4 #[.string q,.string t,.string A] 83);go_upto_region 16 with fail;obtain⟨Y,hY⟩:∃Y,Y=W4.heap.size:=⟨_,rfl⟩;rw[<-hY] at M⊢;clear hY F L J;generalize W4.alloc (.cells #[.string q,.string t,.string A] 83)=B at H5 Ah D M⊢;have c0:=H5.o.bJ.at_ 0 (.slice va l.length vc) rfl;cases ok with
     | false=>
      rw[bk (by simp)] at d;have T:qv (oD s=none):=p9 (by rw[U.o];exact n.o d.o);go_wp2_with fail;go_ret2;exact⟨ad ⟨rfl,T.o⟩,D.o⟩
     | true=>
      rcases List.eq_nil_or_concat l with As|⟨i,y,A2⟩
      ·subst As;rw[bk (by simp)] at d;have T:qv (oD s=none):=p9 (by rw[U.o];exact n.o d.o);go_wp2_with fail;go_ret2;exact⟨ad ⟨rfl,T.o⟩,D.o⟩
      ·rw[List.concat_eq_append] at A2;subst A2;rw[a8 ⟨rfl,by simp⟩] at d;have Av:qv (lT ((i++[y]).map zE) x=some (i.map zE++[(y.1,y.2.2++[(q,t,A)])])):=p9 (by rw[d.o];simp[Ke,zE]);have Al:=p9 (A7.o y (by simp));have Z:(i++[y]).length=i.length+1:=by simp
       rw[Z] at c0 Aq;have A1:=H5.o.row;rw[Z] at A1;obtain⟨C,B8⟩:∃C,va=some ⟨C,0,none⟩:=by
        rcases A1.2 with ⟨_,h0⟩|⟨g,cap,fL,hv,_⟩
        ·omega
        ·injection hv with hv;exact⟨g,hv⟩
       subst B8;have Aj:qv (kH W.heap.size G (.slice (some ⟨C,0,none⟩) (i.length+1) vc) (i++[y]) B):=p9 (by have:=H5.o;rwa [Z] at this);have Af:=p9 (IT A1);clear A1 H5 Z;obtain⟨ya,yc,Ad⟩:=aV (Aj.o.AQ y (by simp));have V:=p9 Ad;have c1:B.cell? ⟨C,i.length*2+1,none⟩=some (.slice ya y.2.2.length yc):=by rw[Af.o,Ad]
       clear Ad Af;have y0:=M.o.at_ 0 (.string q) rfl;have y1:=M.o.at_ 1 (.string t) rfl;have y2:=M.o.at_ 2 (.string A) rfl;have Bl:(y.2.2.length:Int)<=2001:=by have:=Al.o;omega
       have Bm:(((i.length:Nat):Int)+1==0)=false:=by simp;omega
       go_upto_region 19 with fail;have A4:=Aj.o.below ((r5 _ _).alloc (rm _) (.cells #[.string q,.string t,.string A] 83));have HD:qv (kH W.heap.size G (.slice (some ⟨C,0,none⟩) (i.length+1) vc) (i++[y]) (B.alloc (.cells #[.string q,.string t,.string A] 83)).drew):=p9 (A4.below (below_drewN (r5 _ _) 1));have E:qv ((B.alloc (.cells #[.string q,.string t,.string A] 83)).drew.ownsRow W.heap.size 83 3 (.slice ya y.2.2.length yc) y.2.2.length (y.2.2.flatMap DU)):=p9 (by have:=HD.o.AQ y (by simp);rwa [V.o] at this);have d0:(B.alloc (.cells #[.string q,.string t,.string A] 83)).cell? ⟨G,0,none⟩=some (.slice (some ⟨C,0,none⟩) (i.length+1) vc):=(A4.bJ.cell 0).trans rfl;have An:Below B.heap.size B (B.alloc (.cells #[.string q,.string t,.string A] 83)):=(r5 _ _).alloc (rm _) _;have d1:(B.alloc (.cells #[.string q,.string t,.string A] 83)).cell? ⟨C,i.length*2+1,none⟩=some (.slice ya y.2.2.length yc):=(An.cell (block_lt_of_cell c1)).trans c1;clear A4 An;have Bf:((i.length:Nat):Int)<(i.length:Int)+1:=by omega
       have Bg:((i.length:Nat):Int)<((i.length+1:Nat):Int):=by omega
       have Bh:i.length<i.length+1:=by omega
       go_region_law (go_must (refine step_append_lies _ rfl _ _ 79 rfl W.heap.size 83 i2 (.agg #[.string ⟨#[]⟩,.string ⟨#[]⟩,.string ⟨#[]⟩]) 3 48 underlying79 hk B9 Ba Bb rfl (by decide) (.slice ya y.2.2.length yc) _ _ (by simp[Act.eval]) E.o ⟨B.heap.size,0,none⟩ 1 1 [.string q,.string t,.string A] (by simp[Act.eval]) rfl (World.news_of_block (heap_alloc_new B _)) (by simp[Value.oneCell']) (by omega) (by unfold maxLen;omega) (by omega) (by have:=D.o.size;simp;omega) _ rfl ?_);intro g2 Am w6 h f m _;have Ay:=p9 m;have B0:=p9 h;have S:=p9 f;have O:=HD.o.row.kept f (bT HD.o.row E.o (by decide));have Ac:w6.ownsRow W.heap.size 81 2 (.slice (some ⟨C,0,none⟩) (i.length+1) vc) (i.length+1) ((i++[y]).flatMap Eb):=(by simpa using O);have f6:w6.frozen? ⟨C,i.length*2+1,none⟩=false:=Ac.frozenAt _;have c6:w6.cell? ⟨C,i.length*2+1,none⟩=some (.slice ya y.2.2.length yc):=(by rw[<-V.o];exact IT Ac);have c7:w6.cell? ⟨G,0,none⟩=some (.slice (some ⟨C,0,none⟩) (i.length+1) vc):=((HD.o.bJ.dY E.o f (by decide)).cell 0).trans rfl;clear m h f O Ac)
       all_goals
        go_wp2_with fail;have B2:=p9 (HD.o.right (x:=y) (r:=(q,t,A)) (by rw[V.o];exact S.o) B0.o (by rw[V.o];exact Ay.o));go_roundg (gk - 1)
        case measure=>omega
        case rel=>
         have A3:=Ah.o.kept (Ee B (.cells #[.string q,.string t,.string A] 83)) (by cases (Value.ownBlock _)<;>simp);have Ar:=A3.kept S.o (bT A3 E.o (by decide));have O:=HD.o.row.kept S.o (bT HD.o.row E.o (by decide));refine⟨k+1,_,_,by simp,by omega,by rw[K.o,Av.o];simp[zE],by simp;omega,fun u hu=>?_,B2.o,Ar.kept (aE w6 C _ _) (bT Ar O (by decide)),?_⟩
         ·rcases List.mem_append.1 hu with hu|hu
          ·have:=A7.o u (by simp[hu]);omega
          ·simp only[vA] at hu;subst hu;have:=Al.o;simp;omega
         ·have Ao:Below W.heap.size W (B.alloc (.cells #[.string q,.string t,.string A] 83)).drew:=D.o.trans ((below_drewN ((r5 _ _).alloc (rm _) _) 1:Below B.heap.size B _).mono D.o.size);exact(Ao.grown S.o Ao.size (fun b hb=>(E.o.lt b hb).1)).setCell (p:=⟨C,_,none⟩) (O.lt C rfl).1 _
   ·have B4:¬(k:Int)<(P.length:Int):=by omega
    have B1:qv (oD s=some (l.map zE)):=p9 (by rw[U.o,<-HF.o,uB (by omega)]);go_wp2_with fail;go_ret2;exact⟨a6 ⟨G,rfl,v,l,B1.o,H.o⟩,HB.o⟩
end
end Go.Proofs.YtbfmmmjkjhjleaaGreatDoor
