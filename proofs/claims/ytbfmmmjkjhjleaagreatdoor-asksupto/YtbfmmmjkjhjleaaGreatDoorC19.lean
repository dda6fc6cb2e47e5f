/- Mine. -/
import Derived.Test.YtbfmmmjkjhjleaaGreatDoorC12
set_option maxRecDepth 100000
set_option maxHeartbeats 0
namespace Go.Proofs.YtbfmmmjkjhjleaaGreatDoor
open Go.Proofs.Tryz
section
open Go.RowKit Go.Sort
theorem I8{a:ByteArray}:∀u∈[Value.string a],u.oneCell'=true:=by
 intro u hu;simp at hu;subst hu;rfl
theorem J4{a b c:ByteArray}:∀u∈[Value.string a,.string b,.string c],u.oneCell'=true:=by
 intro u hu;simp at hu;rcases hu with rfl|rfl|rfl<;>rfl
theorem Mt{B:Nat}{q:aI}{vs vc vi vp:Value}{W:World}(A1:W.ownsRow B 191 5 vs q.ah.length (bL q.ah))(A0:W.ownsRow B 125 7 vc q.aq.length (eK q.aq))(A2:W.ownsRow B 129 2 vi q.af.length (eJ q.af))(Ar:q.ah.length<=3000)(As:q.aq.length<=3000)(At:q.af.length<=3000):
  Calls prog 24 #[.agg (qC q vs vc vi vp)] W fun e W'=>e=.returned (.bool (kK q))/\Below W.heap.size W W':=by
 obtain⟨i1,hj,A3,A4,A5⟩:=info_parts Tryz.gV;obtain⟨h,i,rfl,Am⟩:=aQ (l:=q.ah) A1;obtain⟨j,c,rfl,Ak⟩:=aQ (l:=q.aq) A0;obtain⟨r,f,rfl,Al⟩:=aQ (l:=q.af) A2;have g0:=aD W (.cells (qC q (.slice h q.ah.length i) (.slice j q.aq.length c) (.slice r q.af.length f) vp) 49) none;have H0:qv (qz W B W.heap.size (qC q (.slice h q.ah.length i) (.slice j q.aq.length c) (.slice r q.af.length f) vp) q (.slice h q.ah.length i) (.slice j q.aq.length c) (.slice r q.af.length f) (.slice none 0 0) [] (W.alloc (.cells (qC q (.slice h q.ah.length i) (.slice j q.aq.length c) (.slice r q.af.length f) vp) 49))):=
  ⟨FD (r5 _ _) (rm _) _,Loc.new W _ _,rm _,bD A1 g0,bD A0 g0,bD A2 g0,tj _ _ _ _⟩
 clear A1 A0 A2 g0;go_enter func24,ntmps24
 go_upto_block 0 with fail;obtain⟨X,hX⟩:∃X,X=W.heap.size:=⟨_,rfl⟩;rw[<-hX] at H0⊢;generalize W.alloc (.cells (qC q (.slice h q.ah.length i) (.slice j q.aq.length c) (.slice r q.af.length f) vp) 49)=W1 at H0⊢;have Ap:W.heap.size<=X:=by omega
 clear hX;go_cut [3,4] (fun v _ w=>qz W B X (qC q (.slice h q.ah.length i) (.slice j q.aq.length c) (.slice r q.af.length f) vp) q (.slice h q.ah.length i) (.slice j q.aq.length c) (.slice r q.af.length f) v (dV q.aq) w)
 case first=>
  go_wp2_with fail;go_loopg [3,4] q.aq.length (fun m v iv w=>∃k:Nat,iv=.int .i64 (k:Int)/\k+m=q.aq.length/\qz W B X (qC q (.slice h q.ah.length i) (.slice j q.aq.length c) (.slice r q.af.length f) vp) q (.slice h q.ah.length i) (.slice j q.aq.length c) (.slice r q.af.length f) v (dV (q.aq.take k)) w)
  case atStart=>exact⟨0,rfl,by omega,H0.o⟩
  case round=>
   obtain⟨k,rfl,hk,E⟩:=hrel;have u:=p9 E;have c2:=E.lq.at_ 2 (.slice j q.aq.length c) rfl;by_cases z:k<q.aq.length
   ·obtain⟨g,rfl,t⟩:=nC (l:=q.aq) pX (fun _=>rfl) E.rc z;have p1:wr.cell? ⟨g,k*7+1,none⟩=some (.string q.aq[k].a.name):=t 1 (by decide);have p4:wr.cell? ⟨g,k*7+4,none⟩=some (.string q.aq[k].b.name):=t 4 (by decide);have K:(k:Int)<(q.aq.length:Int):=by omega
    obtain⟨I,F⟩:∃I,q.aq[k].a.name=I:=⟨_,rfl⟩;obtain⟨nb,G⟩:∃nb,q.aq[k].b.name=nb:=⟨_,rfl⟩;have D:qv (dV (q.aq.take (k+1))=dV (q.aq.take k)++[I,nb]):=by show _=_;rw[qt z,F,G]
    rw[F] at p1;rw[G] at p4;have H:=lE (q.aq.take k);rw[List.length_take_of_le (by omega)] at H;clear t F G E;obtain⟨ns,L⟩:∃ns,dV (q.aq.take k)=ns:=⟨_,rfl⟩;rw[L] at u D H;have G:ns.length<=6000:=by omega
    clear L z H;go_upto_region 5 with fail;have C:qv (qz W B X (qC q (.slice h q.ah.length i) (.slice (some ⟨g,0,none⟩) q.aq.length c) (.slice r q.af.length f) vp) q (.slice h q.ah.length i) (.slice (some ⟨g,0,none⟩) q.aq.length c) (.slice r q.af.length f) u3 ns ((wr.alloc (.cells #[.string I,.string nb] 9)).drew)):=(u.o.alloc _).drew 1;go_region_law (refine step_append_lies _ rfl _ _ 34 rfl W.heap.size 9 i1 (.string ⟨#[]⟩) 1 16 underlying34 hj A3 A4 A5 rfl (by decide) u3 _ _ (by simp[Act.eval]) C.o.rl ⟨wr.heap.size,0,none⟩ 2 2 [.string I,.string nb] (by simp[Act.eval]) rfl (World.news_of_block (heap_alloc_new wr _)) uv (by omega) (by unfold maxLen;omega) (by omega) C.o.low.size _ rfl ?_;intro g2 T w5 y x _ _;have P:=p9 (C.o.more (l:=[I,nb]) x (by rw[iO,r7];exact y));clear y x)
    all_goals
     go_wp2_with fail;go_roundg (gk - 1)
     case measure=>omega
     case rel=>exact⟨k+1,by simp,by omega,by rw[D.o];exact P.o⟩
   ·have K:¬(k:Int)<(q.aq.length:Int):=by omega
    have J:k=q.aq.length:=by omega
    go_wp2_with fail;go_meet
    case rel=>
     rw[J,yt] at u;exact u.o
 case rest=>
  clear H0;have H1:=p9 hcut;have A8:=lE q.aq;obtain⟨n0,M⟩:∃n0,dV q.aq=n0:=⟨_,rfl⟩;rw[M] at H1 A8;have Ad:=p9 M;have An:n0.length<=6000:=by omega
  clear hcut M A8;go_upto_block 2 with fail;go_cut [3,5] (fun v _ w=>qz W B X (qC q (.slice h q.ah.length i) (.slice j q.aq.length c) (.slice r q.af.length f) vp) q (.slice h q.ah.length i) (.slice j q.aq.length c) (.slice r q.af.length f) v (n0++dh q.af) w)
  case first=>
   go_wp2_with fail;go_loopg [3,5] q.af.length (fun m v iv w=>∃k:Nat,iv=.int .i64 (k:Int)/\k+m=q.af.length/\qz W B X (qC q (.slice h q.ah.length i) (.slice j q.aq.length c) (.slice r q.af.length f) vp) q (.slice h q.ah.length i) (.slice j q.aq.length c) (.slice r q.af.length f) v (n0++dh (q.af.take k)) w)
   case atStart=>exact⟨0,rfl,by omega,by rw[show dh (q.af.take 0)=[] from rfl,x8];exact H1.o⟩
   case round=>
    obtain⟨k,rfl,hk,E⟩:=hrel;have u:=p9 E;have c3:=E.lq.at_ 3 (.slice r q.af.length f) rfl;clear H1;by_cases z:k<q.af.length
    ·obtain⟨g,rfl,t⟩:=nC (l:=q.af) kk (fun _=>rfl) E.rt z;have p0:wr.cell? ⟨g,k*2,none⟩=some (.string q.af[k].name):=t 0 (by decide);have K:(k:Int)<(q.af.length:Int):=by omega
     obtain⟨I,F⟩:∃I,q.af[k].name=I:=⟨_,rfl⟩;have D:qv (n0++dh (q.af.take (k+1))=(n0++dh (q.af.take k))++[I]):=by show _=_;rw[qw z,F,wh]
     rw[F] at p0;have H:=lH (q.af.take k);rw[List.length_take_of_le (by omega)] at H;have G:(n0++dh (q.af.take k)).length<=9000:=by rw[r7];omega
     clear t F E H;obtain⟨ns,L⟩:∃ns,n0++dh (q.af.take k)=ns:=⟨_,rfl⟩;rw[L] at u D G;clear L z;have C:qv (qz W B X (qC q (.slice h q.ah.length i) (.slice j q.aq.length c) (.slice (some ⟨g,0,none⟩) q.af.length f) vp) q (.slice h q.ah.length i) (.slice j q.aq.length c) (.slice (some ⟨g,0,none⟩) q.af.length f) u3 ns (wr.alloc (.cells #[.string I] 9))):=u.o.alloc _;go_wp2_with (at_builtin;go_must (refine wpList_append_lies _ rfl _ _ 34 rfl W.heap.size 9 i1 (.string ⟨#[]⟩) 1 16 underlying34 hj A3 A4 A5 rfl (by decide) u3 _ _ rfl C.o.rl _ 1 1 [.string I] rfl rfl (World.news_of_block (heap_alloc_new wr _)) I8 (by omega) (by unfold maxLen;omega) (by omega) C.o.low.size _ rfl ?_;intro g2 T w5 y x _ _;have P:=p9 (C.o.more (l:=[I]) x (by rw[iO,r7];exact y));clear y x))
     go_roundg (gk - 1)
     case measure=>omega
     case rel=>exact⟨k+1,by simp,by omega,by rw[D.o];exact P.o⟩
    ·have K:¬(k:Int)<(q.af.length:Int):=by omega
     have J:k=q.af.length:=by omega
     go_wp2_with fail;go_meet
     case rel=>
      rw[J,yt] at u;exact u.o
  case rest=>
   clear H1;have Ah:=lH q.af;have H2:=p9 hcut;have A9:(n0++dh q.af).length<=9000:=by rw[r7];omega
   obtain⟨R,N⟩:∃R,n0++dh q.af=R:=⟨_,rfl⟩;rw[N] at H2 A9;have Ae:=p9 N;clear hcut N Ah;go_upto_region 10 with fail;go_cut [55] (fun v w=>v=.bool (decide (2<=q.kind/\q.kind<=4))/\qz W B X (qC q (.slice h q.ah.length i) (.slice j q.aq.length c) (.slice r q.af.length f) vp) q (.slice h q.ah.length i) (.slice j q.aq.length c) (.slice r q.af.length f) u3 R w)
   case first=>
    have c0:=H2.o.lq.at_ 0 (.int .i64 q.kind) rfl;by_cases h2:(2:Int)<=q.kind
    ·by_cases h4:q.kind<=(4:Int)
     ·have C:qv (decide (2<=q.kind/\q.kind<=4)=true):=decide_eq_true ⟨h2,h4⟩;go_wp2_with fail;go_meet
      case rel=>exact⟨by rw[C.o],H2.o⟩
     ·have C:qv (decide (2<=q.kind/\q.kind<=4)=false):=decide_eq_false (fun e=>h4 e.2);go_wp2_with fail;go_meet
      case rel=>exact⟨by rw[C.o],H2.o⟩
    ·have C:qv (decide (2<=q.kind/\q.kind<=4)=false):=decide_eq_false (fun e=>h2 e.1);go_wp2_with fail;go_meet
     case rel=>exact⟨by rw[C.o],H2.o⟩
   case rest=>
    obtain⟨rfl,E⟩:=hcut;have H3:=p9 E;clear E H2;obtain⟨kd,Z⟩:∃kd,decide (2<=q.kind/\q.kind<=4)=kd:=⟨_,rfl⟩;have Ac:=p9 Z;rw[Z];clear Z;go_upto_if 55 with fail;go_cut [3] (fun v w=>qz W B X (qC q (.slice h q.ah.length i) (.slice j q.aq.length c) (.slice r q.af.length f) vp) q (.slice h q.ah.length i) (.slice j q.aq.length c) (.slice r q.af.length f) v (R++if kd then [q.name,q.dest,q.value.name] else []) w)
    case first=>
     cases kd with
     | false=>
      go_wp2_with fail;go_meet
      case rel=>exact(by rw[show (R++if false=true then [q.name,q.dest,q.value.name] else [])=R from x8 _];exact H3.o)
     | true=>
      have c8:=H3.o.lq.at_ 8 (.string q.name) rfl;have Ao:=H3.o.lq.at_ 14 (.string q.dest) rfl;have Ag:=H3.o.lq.at_ 10 (.string q.value.name) rfl;have C:qv (qz W B X (qC q (.slice h q.ah.length i) (.slice j q.aq.length c) (.slice r q.af.length f) vp) q (.slice h q.ah.length i) (.slice j q.aq.length c) (.slice r q.af.length f) u3 R (wc.alloc (.cells #[.string q.name,.string q.dest,.string q.value.name] 9))):=H3.o.alloc _;go_wp2_with (at_builtin;go_must (refine wpList_append_lies _ rfl _ _ 34 rfl W.heap.size 9 i1 (.string ⟨#[]⟩) 1 16 underlying34 hj A3 A4 A5 rfl (by decide) u3 _ _ rfl C.o.rl _ 3 3 [.string q.name,.string q.dest,.string q.value.name] rfl rfl (World.news_of_block (heap_alloc_new wc _)) J4 (by omega) (by unfold maxLen;omega) (by omega) C.o.low.size _ rfl ?_;intro g2 T w5 y x _ _;have P:=p9 (C.o.more (l:=[q.name,q.dest,q.value.name]) x (by rw[iO,r7];exact y));clear y x))
      go_meet
      case rel=>exact P.o
    case rest=>
     have H4:=p9 hcut;obtain⟨A,O⟩:∃A,(R++if kd then [q.name,q.dest,q.value.name] else [])=A:=⟨_,rfl⟩;have Aa:(R++if kd then [q.name,q.dest,q.value.name] else []).length<=9003:=by rw[r7];split<;>simp<;>omega
     rw[O] at H4 Aa;have A7:qv (Co q=A):=by
      show _=_;unfold Co;rw[<-O,<-Ae.o,<-Ad.o,<-Ac.o];unfold dV dh;by_cases hk:2<=q.kind/\q.kind<=4<;>simp[hk]
     clear hcut O H3;obtain⟨al,cl,Ai,Aq⟩:=aQ (l:=A) H4.o.rl;subst Ai;go_upto_block 4 with fail;go_wp2_with fail;go_loopg [6] A.length (fun m iv w=>∃k:Nat,iv=.int .i64 (k:Int)/\k+m=A.length/\qz W B X (qC q (.slice h q.ah.length i) (.slice j q.aq.length c) (.slice r q.af.length f) vp) q (.slice h q.ah.length i) (.slice j q.aq.length c) (.slice r q.af.length f) (.slice al A.length cl) A w/\(A.take k).all (fun n=>n.toList.isEmpty || dQ q.ah n)=true)
     case atStart=>exact⟨0,rfl,by omega,H4.o,rfl⟩
     case round=>
      obtain⟨k,rfl,hk,E,U⟩:=hrel;have u:=p9 E;have S:=p9 U;clear H4 U;by_cases z:k<A.length
      ·obtain⟨g,rfl,t⟩:=nC (l:=A) (fun s=>[.string s]) (fun _=>rfl) (by rw[<-AD];exact E.rl) z;have p0:wr.cell? ⟨g,k,none⟩=some (.string A[k]):=by have:=t 0 (by decide);simpa using this
       have K:(k:Int)<(A.length:Int):=by omega
       obtain⟨nm,Q⟩:∃nm,A[k]=nm:=⟨_,rfl⟩;have D:qv ((A.take (k+1)).all (fun n=>n.toList.isEmpty || dQ q.ah n)=(nm.toList.isEmpty || dQ q.ah nm)):=by
        show _=_;rw[show A.take (k+1)=A.take k++[A[k]] by rw[tt,r6 z];rfl,List.all_append,S.o,Q];simp
       have Af:qv ((nm.toList.isEmpty || dQ q.ah nm)=false->A.all (fun n=>n.toList.isEmpty || dQ q.ah n)=false):=by
        intro e;rw[List.all_eq_false];exact⟨A[k],sT z,by rw[Q,e];simp⟩
       rw[Q] at p0;clear t Q z E;cases he:nm.toList.isEmpty with
       | true=>
        go_upto_region 15 with fail;go_quiet (fail)
        have P:=p9 (u.o.drew nq);go_wp2_with fail;go_roundg (gk - 1)
        case measure=>omega
        case rel=>exact⟨k+1,by simp,by omega,P.o,by rw[D.o,he];rfl⟩
       | false=>
        have d0:=cell_regrown (show wr.cell? ⟨X,0,none⟩=some (.int .i64 q.kind) from (u.o.lq.cell 0).trans rfl);have d1:=cell_regrown (show wr.cell? ⟨X,1,none⟩=some (.slice h q.ah.length i) from (u.o.lq.cell 1).trans rfl);have d2:=cell_regrown (show wr.cell? ⟨X,2,none⟩=some (.slice j q.aq.length c) from (u.o.lq.cell 2).trans rfl);have d3:=cell_regrown (show wr.cell? ⟨X,3,none⟩=some (.slice r q.af.length f) from (u.o.lq.cell 3).trans rfl);have d4:=cell_regrown (show wr.cell? ⟨X,4,none⟩=some (.int .i64 q.order) from (u.o.lq.cell 4).trans rfl);have d5:=cell_regrown (show wr.cell? ⟨X,5,none⟩=some (.bool q.down) from (u.o.lq.cell 5).trans rfl);have d6:=cell_regrown (show wr.cell? ⟨X,6,none⟩=some (.int .i64 q.skip) from (u.o.lq.cell 6).trans rfl);have d7:=cell_regrown (show wr.cell? ⟨X,7,none⟩=some (.int .i64 q.aX) from (u.o.lq.cell 7).trans rfl);have d8:=cell_regrown (show wr.cell? ⟨X,8,none⟩=some (.string q.name) from (u.o.lq.cell 8).trans rfl);have d9:=cell_regrown (show wr.cell? ⟨X,9,none⟩=some (.string q.key) from (u.o.lq.cell 9).trans rfl);have d10:=cell_regrown (show wr.cell? ⟨X,10,none⟩=some (.string q.value.name) from (u.o.lq.cell 10).trans rfl);have d11:=cell_regrown (show wr.cell? ⟨X,11,none⟩=some (.string q.value.key) from (u.o.lq.cell 11).trans rfl);have d12:=cell_regrown (show wr.cell? ⟨X,12,none⟩=some (.int .i64 q.value.val) from (u.o.lq.cell 12).trans rfl);have d13:=cell_regrown (show wr.cell? ⟨X,13,none⟩=some (.string q.type) from (u.o.lq.cell 13).trans rfl);have d14:=cell_regrown (show wr.cell? ⟨X,14,none⟩=some (.string q.dest) from (u.o.lq.cell 14).trans rfl);have d15:=cell_regrown (show wr.cell? ⟨X,15,none⟩=some (.string q.ai) from (u.o.lq.cell 15).trans rfl);have d16:=cell_regrown (show wr.cell? ⟨X,16,none⟩=some (vp) from (u.o.lq.cell 16).trans rfl);have e0:=cell_regrown p0;have cB:∀d os,Calls prog 59 #[.agg #[.int .i64 q.kind,.slice h q.ah.length i,.slice j q.aq.length c,.slice r q.af.length f,.int .i64 q.order,.bool q.down,.int .i64 q.skip,.int .i64 q.aX,.string q.name,.string q.key,.string q.value.name,.string q.value.key,.int .i64 q.value.val,.string q.type,.string q.dest,.string q.ai,vp],.string nm] (grow (redrawn wr d) os) fun e w''=>e=.returned (.bool (dQ q.ah nm))/\∃p:Regrown,w''=grow (redrawn wr p.d) p.os:=fun d os=>Calls.regrown_of (iF (q:=q) (u.o.later (below_regrown wr d os)).rs (by omega));go_upto_region 15 with fail;refine wp_region_quiet_below (by kernel_rfl) (by kernel_rfl) ?_
        repeat (quiet_step (exact cB _ _))
        refine wpQuiet_nil ?_;intro W5 Ab;have P:qv (qz W B X (qC q (.slice h q.ah.length i) (.slice j q.aq.length c) (.slice r q.af.length f) vp) q (.slice h q.ah.length i) (.slice j q.aq.length c) (.slice r q.af.length f) (.slice (some ⟨g,0,none⟩) A.length cl) A W5):=by
         obtain⟨⟨dq,Aj⟩,rfl⟩:=Ab;exact u.o.later (below_regrown wr dq Aj)
        clear Ab cB e0 d0 d1 d2 d3 d4 d5 d6 d7 d8 d9 d10 d11 d12 d13 d14 d15 d16;obtain⟨bd,Y⟩:∃bd,dQ q.ah nm=bd:=⟨_,rfl⟩;have A6:=p9 Y;rw[Y];clear Y;cases bd with
        | true=>
         go_wp2_with fail;go_roundg (gk - 1)
         case measure=>omega
         case rel=>exact⟨k+1,by simp,by omega,P.o,by rw[D.o,A6.o];simp⟩
        | false=>
         have HR:qv (kK q=false):=by
          show _=_;unfold kK;rw[A7.o,Af.o (by rw[he,A6.o];rfl)]
          rfl
         go_wp2_with fail;refine bodyPost_ret (v:=.bool false) ?_ rfl ⟨?_,P.o.low⟩
         ·simp[results,results24,go_sem]
         ·rw[HR.o]
      ·have K:¬(k:Int)<(A.length:Int):=by omega
       have J:k=A.length:=by omega
       have c8:=u.o.lq.at_ 8 (.string q.name) rfl;have Ag:=u.o.lq.at_ 10 (.string q.value.name) rfl;have V:qv (kK q=(q.value.name.toList.isEmpty || (q.value.name.toList==q.name.toList))):=by
        show _=_;have:=S.o;rw[J,yt] at this;unfold kK;rw[A7.o,this]
        rfl
       clear E;cases he:q.value.name.toList.isEmpty with
       | true=>
        go_wp2_with fail;refine bodyPost_ret (v:=.bool true) ?_ rfl ⟨?_,u.o.low⟩
        ·simp[results,results24,go_sem]
        ·rw[V.o,he];rfl
       | false=>
        cases hf:(q.value.name.toList==q.name.toList) with
        | true=>
         go_wp2_with fail;refine bodyPost_ret (v:=.bool true) ?_ rfl ⟨?_,u.o.low⟩
         ·simp[results,results24,go_sem]
         ·rw[V.o,he,hf];rfl
        | false=>
         go_wp2_with fail;refine bodyPost_ret (v:=.bool false) ?_ rfl ⟨?_,u.o.low⟩
         ·simp[results,results24,go_sem]
         ·rw[V.o,he,hf];rfl
end
end Go.Proofs.YtbfmmmjkjhjleaaGreatDoor
