/- The program's parser: items, spots, steps. -/
import Derived.Test.YtobgbmfpicmpcaaGreatDoorC10
import Derived.Lib.Hide
set_option maxRecDepth 100000
set_option maxHeartbeats 8000000
namespace Go.Proofs.YtobgbmfpicmpcaaGreatDoor
open Go.Lib (hid)
section
open Go.RowKit
structure DH (W0:World) (b G:Nat) (st:RS) (x:Nat) (cx:Array Value) (T:TypeId) (y:Nat) (cy:Array Value) (T':TypeId) (w:World):Prop where
 q:PX W0 b G st x cx T w
 ly:Loc w y cy T'
 ny:W0.heap.size≤y
 yb:y≠b
 yg:y≠G
 yx:y≠x
theorem PX.more {W0 w:World} {b G x:Nat} {st:RS} {cx:Array Value} {T:TypeId} (h:PX W0 b G st x cx T w) (cy:Array Value) (T':TypeId):DH W0 b G st x cx T w.heap.size cy T' (w.alloc (.cells cy T')):=by
 have g:=ar w (.cells cy T') none
 have hs:=h.grown.size
 have hx:=h.lx.lt
 have hn:=h.p.ne (Nat.le_refl w.heap.size)
 exact⟨⟨h.p.quiet g,h.lx.grown g (by simp),h.nx,h.xb,h.xg,aB h.grown (ar w _ _)⟩,Loc.new w cy T',hs,fun e=>hn.1 e.symm,fun e=>hn.2 e.symm,by omega⟩
section
variable {W0 w w':World} {b G x y:Nat} {st st':RS} {cx cy:Array Value} {T T':TypeId}
theorem DH.call (h:DH W0 b G st x cx T y cy T' w) (h1:PI b G st' w') (g1:w.grownBy w' (some b)):DH W0 b G st' x cx T y cy T' w':=
 ⟨h.q.call h1 g1,h.ly.grown g1 (by intro e;injection e with e;exact h.yb e),h.ny,h.yb,h.yg,h.yx⟩
theorem DH.mZ (h:DH W0 b G st x cx T y cy T' w) (j:Nat) (u:Value):DH W0 b G st x cx T y (cy.setIfInBounds j u) T' (w.setCell ⟨y,j,none⟩ u):=
 ⟨⟨h.q.p.kept (aC w y j u) (by intro e;injection e with e;exact h.yb e.symm) (by intro e;injection e with e;exact h.yg e.symm),h.q.lx.setOther (fun e=>h.yx e.symm) j u,h.q.nx,h.q.xb,h.q.xg,dL h.q.grown h.ny j u⟩,h.ly.set j u,h.ny,h.yb,h.yg,h.yx⟩
theorem DH.df (h:DH W0 b G st x cx T y cy T' w) (j:Nat) (u:Value):DH W0 b G st x (cx.setIfInBounds j u) T y cy T' (w.setCell ⟨x,j,none⟩ u):=
 ⟨h.q.set j u,h.ly.setOther h.yx j u,h.ny,h.yb,h.yg,h.yx⟩
end
theorem I5 {b G:Nat} {st s1:RS} {r:bi} {W:World} (h:PI b G st W) (hn:fS st=(r,s1)):
  Calls Tryz.prog 221 #[.pointer (some ⟨b,0,none⟩)] W fun e W'=>e=.returned (.agg #[.string r.name,.string r.key])∧PI b G s1 W'∧W.grownBy W' (some b):=by
 have H0:=hid (PX.start h #[.string ⟨#[]⟩,.string ⟨#[]⟩] 89)
 cases hm:aE ga st with
 | true=>
  have e:((⟨⟨#[]⟩,⟨#[]⟩⟩:bi),ag ga st)=(r,s1):=by rw[←hn];unfold fS;rw[hm];rfl
  injection e with e1 e3
  subst e1;subst e3
  have HM:=hid hm
  clear h hn hm
  go_enter Tryz.func221,Tryz.ntmps221
  go_wp2_with fail
  obtain⟨X,hX⟩:∃X,X=W.heap.size:=⟨_,rfl⟩
  rw[←hX] at H0⊢
  clear hX
  generalize W.alloc (.cells #[.string ⟨#[]⟩,.string ⟨#[]⟩] 89)=W0' at H0⊢
  refine(aL H0.out.p ga true HM.out).mono ?_
  rintro e W1 ⟨rfl,h,g⟩
  have H1:=hid (H0.out.call h g)
  clear h g H0
  have x0:=H1.out.lx.at_ 0 (.string ⟨#[]⟩) rfl
  have g0:W1.frozen? ⟨X,0,none⟩=false:=H1.out.lx.free 0
  have x1:=H1.out.lx.at_ 1 (.string ⟨#[]⟩) rfl
  have g1:W1.frozen? ⟨X,1,none⟩=false:=H1.out.lx.free 1
  go_wp2_with fail
  have hF:=((H1.out.set 0 (.string ⟨#[]⟩)).set 1 (.string ⟨#[]⟩))
  generalize ((W1.setCell ⟨X,0,none⟩ (.string ⟨#[]⟩)).setCell ⟨X,1,none⟩ (.string ⟨#[]⟩))=WF at hF⊢
  refine bodyPost_ret (v:=.agg #[.string ⟨#[]⟩,.string ⟨#[]⟩]) ?_ rfl ⟨rfl,hF.p,hF.grown⟩
  have r0:=hF.lx.cell 0
  have r1:=hF.lx.cell 1
  simp at r0 r1
  simp[results,Tryz.results221,go_sem,r0,r1]
 | false=>
  obtain⟨n',a1,ha⟩:∃n' a1,du st=(n',a1):=⟨_,_,rfl⟩
  have HM:=hid hm
  have HA:=hid ha
  have hst:ag ga st=st:=by unfold ag;rw[hm];rfl
  have HST:=hid hst
  clear hst
  cases hd:aE eX a1 with
  | false=>
   have e:((⟨n',⟨#[]⟩⟩:bi),a1)=(r,s1):=by rw[←hn];unfold fS;rw[hm];simp only[ha,hd];rfl
   injection e with e1 e3
   subst e1;subst e3
   have HD:=hid hd
   clear h hn hm ha hd
   go_enter Tryz.func221,Tryz.ntmps221
   go_wp2_with fail
   obtain⟨X,hX⟩:∃X,X=W.heap.size:=⟨_,rfl⟩
   rw[←hX] at H0⊢
   clear hX
   generalize W.alloc (.cells #[.string ⟨#[]⟩,.string ⟨#[]⟩] 89)=W0' at H0⊢
   refine(aL H0.out.p ga false HM.out).mono ?_
   rintro e W1 ⟨rfl,h,g⟩
   have H1:=hid (H0.out.call h g)
   clear h g H0
   rw[HST.out] at H1
   go_wp2_with fail
   refine(mS H1.out.p HA.out).mono ?_
   rintro e W2 ⟨rfl,h,g⟩
   have H2:=hid (H1.out.call h g)
   clear h g H1
   have H3:=hid (H2.out.more #[.string n',.string ⟨#[]⟩] 89)
   clear H2
   go_wp2_with fail
   obtain⟨Y,hY⟩:∃Y,Y=W2.heap.size:=⟨_,rfl⟩;rw[←hY] at H3⊢;clear hY;generalize W2.alloc (.cells #[.string n',.string ⟨#[]⟩] 89)=W3 at H3⊢
   refine(aL H3.out.q.p eX false HD.out).mono ?_
   rintro e W4 ⟨rfl,h,g⟩
   have H4:=hid (H3.out.call h g)
   clear h g H3
   rw[show ag eX a1=a1 by unfold ag;rw[HD.out];rfl] at H4
   have x0:=H4.out.q.lx.at_ 0 (.string ⟨#[]⟩) rfl
   have g0:W4.frozen? ⟨X,0,none⟩=false:=H4.out.q.lx.free 0
   have x1:=H4.out.q.lx.at_ 1 (.string ⟨#[]⟩) rfl
   have g1:W4.frozen? ⟨X,1,none⟩=false:=H4.out.q.lx.free 1
   have y0:=H4.out.ly.at_ 0 (.string n') rfl
   have y1:=H4.out.ly.at_ 1 (.string ⟨#[]⟩) rfl
   go_wp2_with fail
   have hF:=((H4.out.df 0 (.string n')).df 1 (.string ⟨#[]⟩)).q
   generalize ((W4.setCell ⟨X,0,none⟩ (.string n')).setCell ⟨X,1,none⟩ (.string ⟨#[]⟩))=WF at hF⊢
   refine bodyPost_ret (v:=.agg #[.string n',.string ⟨#[]⟩]) ?_ rfl ⟨rfl,hF.p,hF.grown⟩
   have r0:=hF.lx.cell 0
   have r1:=hF.lx.cell 1
   simp at r0 r1
   simp[results,Tryz.results221,go_sem,r0,r1]
  | true=>
   obtain⟨k',a2,hk⟩:∃k' a2,du (ag eX a1)=(k',a2):=⟨_,_,rfl⟩
   have e:((⟨n',k'⟩:bi),a2)=(r,s1):=by rw[←hn];unfold fS;rw[hm];simp only[ha,hd,hk];rfl
   injection e with e1 e3
   subst e1;subst e3
   have HD:=hid hd
   have HK:=hid hk
   clear h hn hm ha hd hk
   go_enter Tryz.func221,Tryz.ntmps221
   go_wp2_with fail
   obtain⟨X,hX⟩:∃X,X=W.heap.size:=⟨_,rfl⟩
   rw[←hX] at H0⊢
   clear hX
   generalize W.alloc (.cells #[.string ⟨#[]⟩,.string ⟨#[]⟩] 89)=W0' at H0⊢
   refine(aL H0.out.p ga false HM.out).mono ?_
   rintro e W1 ⟨rfl,h,g⟩
   have H1:=hid (H0.out.call h g)
   clear h g H0
   rw[HST.out] at H1
   go_wp2_with fail
   refine(mS H1.out.p HA.out).mono ?_
   rintro e W2 ⟨rfl,h,g⟩
   have H2:=hid (H1.out.call h g)
   clear h g H1
   have H3:=hid (H2.out.more #[.string n',.string ⟨#[]⟩] 89)
   clear H2
   go_wp2_with fail
   obtain⟨Y,hY⟩:∃Y,Y=W2.heap.size:=⟨_,rfl⟩;rw[←hY] at H3⊢;clear hY;generalize W2.alloc (.cells #[.string n',.string ⟨#[]⟩] 89)=W3 at H3⊢
   refine(aL H3.out.q.p eX true HD.out).mono ?_
   rintro e W4 ⟨rfl,h,g⟩
   have H4:=hid (H3.out.call h g)
   clear h g H3
   go_wp2_with fail
   refine(mS H4.out.q.p HK.out).mono ?_
   rintro e W5 ⟨rfl,h,g⟩
   have H5:=hid (H4.out.call h g)
   clear h g H4
   have c1:=H5.out.ly.at_ 1 (.string ⟨#[]⟩) rfl
   have f1:W5.frozen? ⟨Y,1,none⟩=false:=H5.out.ly.free 1
   have H6:=hid (H5.out.mZ 1 (.string k'))
   clear H5
   go_upto_region 6 with fail
   generalize (W5.setCell ⟨Y,1,none⟩ (.string k'))=W6 at H6⊢;clear c1 f1
   have x0:=H6.out.q.lx.at_ 0 (.string ⟨#[]⟩) rfl
   have g0:W6.frozen? ⟨X,0,none⟩=false:=H6.out.q.lx.free 0
   have x1:=H6.out.q.lx.at_ 1 (.string ⟨#[]⟩) rfl
   have g1:W6.frozen? ⟨X,1,none⟩=false:=H6.out.q.lx.free 1
   have y0:=H6.out.ly.at_ 0 (.string n') rfl
   have y1:=H6.out.ly.at_ 1 (.string k') rfl
   go_wp2_with fail
   have hF:=((H6.out.df 0 (.string n')).df 1 (.string k')).q
   generalize ((W6.setCell ⟨X,0,none⟩ (.string n')).setCell ⟨X,1,none⟩ (.string k'))=WF at hF⊢
   refine bodyPost_ret (v:=.agg #[.string n',.string k']) ?_ rfl ⟨rfl,hF.p,hF.grown⟩
   have r0:=hF.lx.cell 0
   have r1:=hF.lx.cell 1
   simp at r0 r1
   simp[results,Tryz.results221,go_sem,r0,r1]
theorem Kj {b G:Nat} {st s1:RS} {r:aN} {W:World} (h:PI b G st W) (hn:gv st=(r,s1)):
  Calls Tryz.prog 162 #[.pointer (some ⟨b,0,none⟩)] W fun e W'=>e=.returned (.agg #[.string r.name,.string r.label,.string r.type,.int .i64 r.least,.int .i64 r.bf])∧PI b G s1 W'∧W.grownBy W' (some b):=by
 have H0:=hid (PX.start h #[.string ⟨#[]⟩,.string ⟨#[]⟩,.string ⟨#[]⟩,.int .i64 0,.int .i64 0] 85)
 obtain⟨t',a1,ha⟩:∃n' a1,cN st=(n',a1):=⟨_,_,rfl⟩
 have HA:=hid ha
 cases hm:aE dU a1 with
 | false=>
  have e:((⟨⟨#[]⟩,⟨#[]⟩,t',1,1⟩:aN),aD da a1)=(r,s1):=by rw[←hn];unfold gv jR;simp only[ha,hm];rfl
  injection e with e1 e3
  subst e1;subst e3
  have HM:=hid hm
  clear h hn hm ha
  go_enter Tryz.func162,Tryz.ntmps162
  go_wp2_with fail
  obtain⟨X,hX⟩:∃X,X=W.heap.size:=⟨_,rfl⟩
  rw[←hX] at H0⊢
  clear hX
  generalize W.alloc (.cells #[.string ⟨#[]⟩,.string ⟨#[]⟩,.string ⟨#[]⟩,.int .i64 0,.int .i64 0] 85)=W0' at H0⊢
  refine(rN H0.out.p HA.out).mono ?_
  rintro e W1 ⟨rfl,h,g⟩
  have H1:=hid (H0.out.call h g)
  clear h g H0
  have H2:=hid (H1.out.more #[.string ⟨#[]⟩,.string ⟨#[]⟩,.string t',.int .i64 1,.int .i64 1] 85)
  clear H1
  go_wp2_with fail
  obtain⟨Y,hY⟩:∃Y,Y=W1.heap.size:=⟨_,rfl⟩;rw[←hY] at H2⊢;clear hY;generalize W1.alloc (.cells #[.string ⟨#[]⟩,.string ⟨#[]⟩,.string t',.int .i64 1,.int .i64 1] 85)=W2 at H2⊢
  refine(aL H2.out.q.p dU false HM.out).mono ?_
  rintro e W3 ⟨rfl,h,g⟩
  have H3:=hid (H2.out.call h g)
  clear h g H2
  rw[show ag dU a1=a1 by unfold ag;rw[HM.out];rfl] at H3
  go_wp2_with fail
  refine(dA H3.out.q.p da).mono ?_
  rintro e W4 ⟨rfl,h,g⟩
  have H4:=hid (H3.out.call h g)
  clear h g H3
  have x0:=H4.out.q.lx.at_ 0 (.string ⟨#[]⟩) rfl
  have g0:W4.frozen? ⟨X,0,none⟩=false:=H4.out.q.lx.free 0
  have x1:=H4.out.q.lx.at_ 1 (.string ⟨#[]⟩) rfl
  have g1:W4.frozen? ⟨X,1,none⟩=false:=H4.out.q.lx.free 1
  have x2:=H4.out.q.lx.at_ 2 (.string ⟨#[]⟩) rfl
  have g2:W4.frozen? ⟨X,2,none⟩=false:=H4.out.q.lx.free 2
  have x3:=H4.out.q.lx.at_ 3 (.int .i64 0) rfl
  have g3:W4.frozen? ⟨X,3,none⟩=false:=H4.out.q.lx.free 3
  have x4:=H4.out.q.lx.at_ 4 (.int .i64 0) rfl
  have g4:W4.frozen? ⟨X,4,none⟩=false:=H4.out.q.lx.free 4
  have y0:=H4.out.ly.at_ 0 (.string ⟨#[]⟩) rfl
  have y1:=H4.out.ly.at_ 1 (.string ⟨#[]⟩) rfl
  have y2:=H4.out.ly.at_ 2 (.string t') rfl
  have y3:=H4.out.ly.at_ 3 (.int .i64 1) rfl
  have y4:=H4.out.ly.at_ 4 (.int .i64 1) rfl
  go_wp2_with fail
  have hF:=(((((H4.out.df 0 (.string ⟨#[]⟩)).df 1 (.string ⟨#[]⟩)).df 2 (.string t')).df 3 (.int .i64 1)).df 4 (.int .i64 1)).q
  generalize (((((W4.setCell ⟨X,0,none⟩ (.string ⟨#[]⟩)).setCell ⟨X,1,none⟩ (.string ⟨#[]⟩)).setCell ⟨X,2,none⟩ (.string t')).setCell ⟨X,3,none⟩ (.int .i64 1)).setCell ⟨X,4,none⟩ (.int .i64 1))=WF at hF⊢
  refine bodyPost_ret (v:=.agg #[.string ⟨#[]⟩,.string ⟨#[]⟩,.string t',.int .i64 1,.int .i64 1]) ?_ rfl ⟨rfl,hF.p,hF.grown⟩
  have r0:=hF.lx.cell 0
  have r1:=hF.lx.cell 1
  have r2:=hF.lx.cell 2
  have r3:=hF.lx.cell 3
  have r4:=hF.lx.cell 4
  simp at r0 r1 r2 r3 r4
  simp[results,Tryz.results162,go_sem,r0,r1,r2,r3,r4]
 | true=>
  obtain⟨lo,a2,hk⟩:∃k' a2,bL 0 4 (ag dU a1)=(k',a2):=⟨_,_,rfl⟩
  obtain⟨hi,a3,hh⟩:∃k' az,bL lo 4 (aD kw a2)=(k',az):=⟨_,_,rfl⟩
  have e:((⟨⟨#[]⟩,⟨#[]⟩,t',lo,hi⟩:aN),aD da a3)=(r,s1):=by rw[←hn];unfold gv jR;simp only[ha,hm,hk,hh];rfl
  injection e with e1 e3
  subst e1;subst e3
  have HM:=hid hm
  have HK:=hid hk
  have HI:=hid hh
  clear h hn hm ha hk hh
  go_enter Tryz.func162,Tryz.ntmps162
  go_wp2_with fail
  obtain⟨X,hX⟩:∃X,X=W.heap.size:=⟨_,rfl⟩
  rw[←hX] at H0⊢
  clear hX
  generalize W.alloc (.cells #[.string ⟨#[]⟩,.string ⟨#[]⟩,.string ⟨#[]⟩,.int .i64 0,.int .i64 0] 85)=W0' at H0⊢
  refine(rN H0.out.p HA.out).mono ?_
  rintro e W1 ⟨rfl,h,g⟩
  have H1:=hid (H0.out.call h g)
  clear h g H0
  have H2:=hid (H1.out.more #[.string ⟨#[]⟩,.string ⟨#[]⟩,.string t',.int .i64 1,.int .i64 1] 85)
  clear H1
  go_wp2_with fail
  obtain⟨Y,hY⟩:∃Y,Y=W1.heap.size:=⟨_,rfl⟩;rw[←hY] at H2⊢;clear hY;generalize W1.alloc (.cells #[.string ⟨#[]⟩,.string ⟨#[]⟩,.string t',.int .i64 1,.int .i64 1] 85)=W2 at H2⊢
  refine(aL H2.out.q.p dU true HM.out).mono ?_
  rintro e W3 ⟨rfl,h,g⟩
  have H3:=hid (H2.out.call h g)
  clear h g H2
  go_wp2_with fail
  refine(kC H3.out.q.p HK.out).mono ?_
  rintro e W4 ⟨rfl,h,g⟩
  have H4:=hid (H3.out.call h g)
  clear h g H3
  have c3:=H4.out.ly.at_ 3 (.int .i64 1) rfl
  have f3:W4.frozen? ⟨Y,3,none⟩=false:=H4.out.ly.free 3
  have H5:=hid (H4.out.mZ 3 (.int .i64 lo))
  clear H4
  go_wp2_with fail
  generalize (W4.setCell ⟨Y,3,none⟩ (.int .i64 lo))=W5 at H5⊢;clear c3 f3
  refine(dA H5.out.q.p kw).mono ?_
  rintro e W6 ⟨rfl,h,g⟩
  have H6:=hid (H5.out.call h g)
  clear h g H5
  have y3:=H6.out.ly.at_ 3 (.int .i64 lo) rfl
  go_wp2_with fail
  refine(kC H6.out.q.p HI.out).mono ?_
  rintro e W7 ⟨rfl,h,g⟩
  have H7:=hid (H6.out.call h g)
  clear h g H6
  clear y3
  have c4:=H7.out.ly.at_ 4 (.int .i64 1) rfl
  have f4:W7.frozen? ⟨Y,4,none⟩=false:=H7.out.ly.free 4
  have H8:=hid (H7.out.mZ 4 (.int .i64 hi))
  clear H7
  go_wp2_with fail
  generalize (W7.setCell ⟨Y,4,none⟩ (.int .i64 hi))=W8 at H8⊢;clear c4 f4
  refine(dA H8.out.q.p da).mono ?_
  rintro e W9 ⟨rfl,h,g⟩
  have H9:=hid (H8.out.call h g)
  clear h g H8
  have x0:=H9.out.q.lx.at_ 0 (.string ⟨#[]⟩) rfl
  have g0:W9.frozen? ⟨X,0,none⟩=false:=H9.out.q.lx.free 0
  have x1:=H9.out.q.lx.at_ 1 (.string ⟨#[]⟩) rfl
  have g1:W9.frozen? ⟨X,1,none⟩=false:=H9.out.q.lx.free 1
  have x2:=H9.out.q.lx.at_ 2 (.string ⟨#[]⟩) rfl
  have g2:W9.frozen? ⟨X,2,none⟩=false:=H9.out.q.lx.free 2
  have x3:=H9.out.q.lx.at_ 3 (.int .i64 0) rfl
  have g3:W9.frozen? ⟨X,3,none⟩=false:=H9.out.q.lx.free 3
  have x4:=H9.out.q.lx.at_ 4 (.int .i64 0) rfl
  have g4:W9.frozen? ⟨X,4,none⟩=false:=H9.out.q.lx.free 4
  have y0:=H9.out.ly.at_ 0 (.string ⟨#[]⟩) rfl
  have y1:=H9.out.ly.at_ 1 (.string ⟨#[]⟩) rfl
  have y2:=H9.out.ly.at_ 2 (.string t') rfl
  have y3:=H9.out.ly.at_ 3 (.int .i64 lo) rfl
  have y4:=H9.out.ly.at_ 4 (.int .i64 hi) rfl
  go_wp2_with fail
  have hF:=(((((H9.out.df 0 (.string ⟨#[]⟩)).df 1 (.string ⟨#[]⟩)).df 2 (.string t')).df 3 (.int .i64 lo)).df 4 (.int .i64 hi)).q
  generalize (((((W9.setCell ⟨X,0,none⟩ (.string ⟨#[]⟩)).setCell ⟨X,1,none⟩ (.string ⟨#[]⟩)).setCell ⟨X,2,none⟩ (.string t')).setCell ⟨X,3,none⟩ (.int .i64 lo)).setCell ⟨X,4,none⟩ (.int .i64 hi))=WF at hF⊢
  refine bodyPost_ret (v:=.agg #[.string ⟨#[]⟩,.string ⟨#[]⟩,.string t',.int .i64 lo,.int .i64 hi]) ?_ rfl ⟨rfl,hF.p,hF.grown⟩
  have r0:=hF.lx.cell 0
  have r1:=hF.lx.cell 1
  have r2:=hF.lx.cell 2
  have r3:=hF.lx.cell 3
  have r4:=hF.lx.cell 4
  simp at r0 r1 r2 r3 r4
  simp[results,Tryz.results162,go_sem,r0,r1,r2,r3,r4]
end
section
open Go.RowKit
theorem DH.start {W:World} {b G:Nat} {st:RS} (h:PI b G st W) (cx:Array Value) (T:TypeId) (cy:Array Value) (T':TypeId):DH W b G st (W.heap.size+1) cx T W.heap.size cy T' ((W.alloc (.cells cy T')).alloc (.cells cx T)):=by
 have g1:=ar W (.cells cy T') none
 have s1:(W.alloc (.cells cy T')).heap.size=W.heap.size+1:=by simp
 have l1:=Loc.new W cy T'
 have k1:=ar W (.cells cy T') (some b)
 have n0:=h.ne (Nat.le_refl W.heap.size)
 have n1:=h.ne (show W.heap.size≤W.heap.size+1 by omega)
 generalize W.alloc (.cells cy T')=W1 at g1 s1 l1 k1⊢
 have g2:=ar W1 (.cells cx T) none
 have k2:=ar W1 (.cells cx T) (some b)
 have l2:=Loc.new W1 cx T
 rw[s1] at l2
 exact⟨⟨(h.quiet g1).quiet g2,l2,by omega,fun e=>n1.1 e.symm,fun e=>n1.2 e.symm,aB k1 k2⟩,l1.grown g2 (by simp),Nat.le_refl _,fun e=>n0.1 e.symm,fun e=>n0.2 e.symm,by omega⟩
theorem GB {b G:Nat} {st s1:RS} {q r:aN} {W:World} (h:PI b G st W) (hn:cg q st=(r,s1)):
  Calls Tryz.prog 161 #[.pointer (some ⟨b,0,none⟩),.agg #[.string q.name,.string q.label,.string q.type,.int .i64 q.least,.int .i64 q.bf]] W fun e W'=>e=.returned (.agg #[.string r.name,.string r.label,.string r.type,.int .i64 r.least,.int .i64 r.bf])∧PI b G s1 W'∧W.grownBy W' (some b):=by
 have H0:=hid (DH.start h #[.string ⟨#[]⟩,.string ⟨#[]⟩,.string ⟨#[]⟩,.int .i64 0,.int .i64 0] 85 #[.string q.name,.string q.label,.string q.type,.int .i64 q.least,.int .i64 q.bf] 85)
 obtain⟨n',a1,ha⟩:∃n' az,du (aD bE st)=(n',az):=⟨_,_,rfl⟩
 have HA:=hid ha
 cases hm:aE bX a1 with
 | false=>
  have e:((⟨n',q.label,q.type,q.least,q.bf⟩:aN),aD bA a1)=(r,s1):=by rw[←hn];unfold cg;simp only[ha,hm];rfl
  injection e with e1 e3
  subst e1;subst e3
  have HM:=hid hm
  clear h hn hm ha
  go_enter Tryz.func161,Tryz.ntmps161
  go_wp2_with fail
  obtain⟨X,hX⟩:∃X,X=W.heap.size+1:=⟨_,rfl⟩
  obtain⟨Y,hY⟩:∃Y,Y=W.heap.size:=⟨_,rfl⟩
  rw[←hX,←hY] at H0⊢
  clear hX hY
  generalize (W.alloc (.cells #[.string q.name,.string q.label,.string q.type,.int .i64 q.least,.int .i64 q.bf] 85)).alloc (.cells #[.string ⟨#[]⟩,.string ⟨#[]⟩,.string ⟨#[]⟩,.int .i64 0,.int .i64 0] 85)=W0' at H0⊢
  refine(dA H0.out.q.p bE).mono ?_
  rintro e W1 ⟨rfl,h,g⟩
  have H1:=hid (H0.out.call h g)
  clear h g H0
  go_wp2_with fail
  refine(mS H1.out.q.p HA.out).mono ?_
  rintro e W2 ⟨rfl,h,g⟩
  have H2:=hid (H1.out.call h g)
  clear h g H1
  have c0:=H2.out.ly.at_ 0 (.string q.name) rfl
  have f0:W2.frozen? ⟨Y,0,none⟩=false:=H2.out.ly.free 0
  have H3:=hid (H2.out.mZ 0 (.string n'))
  clear H2
  go_wp2_with fail
  generalize (W2.setCell ⟨Y,0,none⟩ (.string n'))=W3 at H3⊢;clear c0 f0
  refine(aL H3.out.q.p bX false HM.out).mono ?_
  rintro e W4 ⟨rfl,h,g⟩
  have H4:=hid (H3.out.call h g)
  clear h g H3
  rw[show ag bX a1=a1 by unfold ag;rw[HM.out];rfl] at H4
  go_wp2_with fail
  refine(dA H4.out.q.p bA).mono ?_
  rintro e W5 ⟨rfl,h,g⟩
  have H5:=hid (H4.out.call h g)
  clear h g H4
  have x0:=H5.out.q.lx.at_ 0 (.string ⟨#[]⟩) rfl
  have g0:W5.frozen? ⟨X,0,none⟩=false:=H5.out.q.lx.free 0
  have x1:=H5.out.q.lx.at_ 1 (.string ⟨#[]⟩) rfl
  have g1:W5.frozen? ⟨X,1,none⟩=false:=H5.out.q.lx.free 1
  have x2:=H5.out.q.lx.at_ 2 (.string ⟨#[]⟩) rfl
  have g2:W5.frozen? ⟨X,2,none⟩=false:=H5.out.q.lx.free 2
  have x3:=H5.out.q.lx.at_ 3 (.int .i64 0) rfl
  have g3:W5.frozen? ⟨X,3,none⟩=false:=H5.out.q.lx.free 3
  have x4:=H5.out.q.lx.at_ 4 (.int .i64 0) rfl
  have g4:W5.frozen? ⟨X,4,none⟩=false:=H5.out.q.lx.free 4
  have y0:=H5.out.ly.at_ 0 (.string n') rfl
  have y1:=H5.out.ly.at_ 1 (.string q.label) rfl
  have y2:=H5.out.ly.at_ 2 (.string q.type) rfl
  have y3:=H5.out.ly.at_ 3 (.int .i64 q.least) rfl
  have y4:=H5.out.ly.at_ 4 (.int .i64 q.bf) rfl
  go_wp2_with fail
  have hF:=(((((H5.out.df 0 (.string n')).df 1 (.string q.label)).df 2 (.string q.type)).df 3 (.int .i64 q.least)).df 4 (.int .i64 q.bf)).q
  generalize (((((W5.setCell ⟨X,0,none⟩ (.string n')).setCell ⟨X,1,none⟩ (.string q.label)).setCell ⟨X,2,none⟩ (.string q.type)).setCell ⟨X,3,none⟩ (.int .i64 q.least)).setCell ⟨X,4,none⟩ (.int .i64 q.bf))=WF at hF⊢
  refine bodyPost_ret (v:=.agg #[.string n',.string q.label,.string q.type,.int .i64 q.least,.int .i64 q.bf]) ?_ rfl ⟨rfl,hF.p,hF.grown⟩
  have r0:=hF.lx.cell 0
  have r1:=hF.lx.cell 1
  have r2:=hF.lx.cell 2
  have r3:=hF.lx.cell 3
  have r4:=hF.lx.cell 4
  simp at r0 r1 r2 r3 r4
  simp[results,Tryz.results161,go_sem,r0,r1,r2,r3,r4]
 | true=>
  obtain⟨l',a2,hk⟩:∃k' az,cN (ag bX a1)=(k',az):=⟨_,_,rfl⟩
  have e:((⟨n',l',q.type,q.least,q.bf⟩:aN),aD bA a2)=(r,s1):=by rw[←hn];unfold cg;simp only[ha,hm,hk];rfl
  injection e with e1 e3
  subst e1;subst e3
  have HM:=hid hm
  have HK:=hid hk
  clear h hn hm ha hk
  go_enter Tryz.func161,Tryz.ntmps161
  go_wp2_with fail
  obtain⟨X,hX⟩:∃X,X=W.heap.size+1:=⟨_,rfl⟩
  obtain⟨Y,hY⟩:∃Y,Y=W.heap.size:=⟨_,rfl⟩
  rw[←hX,←hY] at H0⊢
  clear hX hY
  generalize (W.alloc (.cells #[.string q.name,.string q.label,.string q.type,.int .i64 q.least,.int .i64 q.bf] 85)).alloc (.cells #[.string ⟨#[]⟩,.string ⟨#[]⟩,.string ⟨#[]⟩,.int .i64 0,.int .i64 0] 85)=W0' at H0⊢
  refine(dA H0.out.q.p bE).mono ?_
  rintro e W1 ⟨rfl,h,g⟩
  have H1:=hid (H0.out.call h g)
  clear h g H0
  go_wp2_with fail
  refine(mS H1.out.q.p HA.out).mono ?_
  rintro e W2 ⟨rfl,h,g⟩
  have H2:=hid (H1.out.call h g)
  clear h g H1
  have c0:=H2.out.ly.at_ 0 (.string q.name) rfl
  have f0:W2.frozen? ⟨Y,0,none⟩=false:=H2.out.ly.free 0
  have H3:=hid (H2.out.mZ 0 (.string n'))
  clear H2
  go_wp2_with fail
  generalize (W2.setCell ⟨Y,0,none⟩ (.string n'))=W3 at H3⊢;clear c0 f0
  refine(aL H3.out.q.p bX true HM.out).mono ?_
  rintro e W4 ⟨rfl,h,g⟩
  have H4:=hid (H3.out.call h g)
  clear h g H3
  go_wp2_with fail
  refine(rN H4.out.q.p HK.out).mono ?_
  rintro e W5 ⟨rfl,h,g⟩
  have H5:=hid (H4.out.call h g)
  clear h g H4
  have c1:=H5.out.ly.at_ 1 (.string q.label) rfl
  have f1:W5.frozen? ⟨Y,1,none⟩=false:=H5.out.ly.free 1
  have H6:=hid (H5.out.mZ 1 (.string l'))
  clear H5
  go_wp2_with fail
  generalize (W5.setCell ⟨Y,1,none⟩ (.string l'))=W6 at H6⊢;clear c1 f1
  refine(dA H6.out.q.p bA).mono ?_
  rintro e W7 ⟨rfl,h,g⟩
  have H7:=hid (H6.out.call h g)
  clear h g H6
  have x0:=H7.out.q.lx.at_ 0 (.string ⟨#[]⟩) rfl
  have g0:W7.frozen? ⟨X,0,none⟩=false:=H7.out.q.lx.free 0
  have x1:=H7.out.q.lx.at_ 1 (.string ⟨#[]⟩) rfl
  have g1:W7.frozen? ⟨X,1,none⟩=false:=H7.out.q.lx.free 1
  have x2:=H7.out.q.lx.at_ 2 (.string ⟨#[]⟩) rfl
  have g2:W7.frozen? ⟨X,2,none⟩=false:=H7.out.q.lx.free 2
  have x3:=H7.out.q.lx.at_ 3 (.int .i64 0) rfl
  have g3:W7.frozen? ⟨X,3,none⟩=false:=H7.out.q.lx.free 3
  have x4:=H7.out.q.lx.at_ 4 (.int .i64 0) rfl
  have g4:W7.frozen? ⟨X,4,none⟩=false:=H7.out.q.lx.free 4
  have y0:=H7.out.ly.at_ 0 (.string n') rfl
  have y1:=H7.out.ly.at_ 1 (.string l') rfl
  have y2:=H7.out.ly.at_ 2 (.string q.type) rfl
  have y3:=H7.out.ly.at_ 3 (.int .i64 q.least) rfl
  have y4:=H7.out.ly.at_ 4 (.int .i64 q.bf) rfl
  go_wp2_with fail
  have hF:=(((((H7.out.df 0 (.string n')).df 1 (.string l')).df 2 (.string q.type)).df 3 (.int .i64 q.least)).df 4 (.int .i64 q.bf)).q
  generalize (((((W7.setCell ⟨X,0,none⟩ (.string n')).setCell ⟨X,1,none⟩ (.string l')).setCell ⟨X,2,none⟩ (.string q.type)).setCell ⟨X,3,none⟩ (.int .i64 q.least)).setCell ⟨X,4,none⟩ (.int .i64 q.bf))=WF at hF⊢
  refine bodyPost_ret (v:=.agg #[.string n',.string l',.string q.type,.int .i64 q.least,.int .i64 q.bf]) ?_ rfl ⟨rfl,hF.p,hF.grown⟩
  have r0:=hF.lx.cell 0
  have r1:=hF.lx.cell 1
  have r2:=hF.lx.cell 2
  have r3:=hF.lx.cell 3
  have r4:=hF.lx.cell 4
  simp at r0 r1 r2 r3 r4
  simp[results,Tryz.results161,go_sem,r0,r1,r2,r3,r4]
theorem Ca (w:World):Calls Tryz.prog 219 #[.int .i64 1] w fun e w'=>e=.returned (.string ⟨#[61]⟩)∧w'=w:=by
 go_enter Tryz.func219,Tryz.ntmps219
 go_wp2_with fail
 go_ret
 exact⟨rfl,rfl⟩
theorem Cg (w:World):Calls Tryz.prog 219 #[.int .i64 2] w fun e w'=>e=.returned (.string ⟨#[60,62]⟩)∧w'=w:=by
 go_enter Tryz.func219,Tryz.ntmps219
 go_wp2_with fail
 go_ret
 exact⟨rfl,rfl⟩
theorem B5 (w:World):Calls Tryz.prog 219 #[.int .i64 3] w fun e w'=>e=.returned (.string ⟨#[60]⟩)∧w'=w:=by
 go_enter Tryz.func219,Tryz.ntmps219
 go_wp2_with fail
 go_ret
 exact⟨rfl,rfl⟩
theorem BA (w:World):Calls Tryz.prog 219 #[.int .i64 4] w fun e w'=>e=.returned (.string ⟨#[60,61]⟩)∧w'=w:=by
 go_enter Tryz.func219,Tryz.ntmps219
 go_wp2_with fail
 go_ret
 exact⟨rfl,rfl⟩
theorem B8 (w:World):Calls Tryz.prog 219 #[.int .i64 5] w fun e w'=>e=.returned (.string ⟨#[62]⟩)∧w'=w:=by
 go_enter Tryz.func219,Tryz.ntmps219
 go_wp2_with fail
 go_ret
 exact⟨rfl,rfl⟩
theorem Cb (w:World):Calls Tryz.prog 219 #[.int .i64 6] w fun e w'=>e=.returned (.string ⟨#[62,61]⟩)∧w'=w:=by
 go_enter Tryz.func219,Tryz.ntmps219
 go_wp2_with fail
 go_ret
 exact⟨rfl,rfl⟩
def xY (k:Nat) (st:RS):Int × RS:=dt (mY.drop (k - 1)) k st
theorem xK {b G:Nat} {st s1:RS} {n:Int} {W:World} (h:PI b G st W) (hn:dt mY 1 st=(n,s1)):
  Calls Tryz.prog 164 #[.pointer (some ⟨b,0,none⟩)] W fun e W'=>e=.returned (.int .i64 n)∧PI b G s1 W'∧W.grownBy W' (some b):=by
 have HH:=hid h
 have HN:Hid (xY 1 st=(n,s1)):=hn
 clear h hn
 go_enter Tryz.func164,Tryz.ntmps164
 go_wp2_with fail
 go_loopg [3] 6 (fun m iv w=>∃k:Nat,iv=.int .i64 (k:Int)∧k+m=7∧1≤k∧PI b G st w∧W.grownBy w (some b)∧xY k st=(n,s1))
 case atStart=>exact⟨1,rfl,rfl,by omega,HH.out,ku _ _,HN.out⟩
 case round=>
  obtain⟨k,rfl,hk,hk1,hp,hg,hc⟩:=hrel
  have HP:=hid hp
  have HG:=hid hg
  clear HH HN hp hg
  have hkk:k=1∨k=2∨k=3∨k=4∨k=5∨k=6∨k=7:=by omega
  rcases hkk with rfl|rfl|rfl|rfl|rfl|rfl|rfl
  ·cases hm:aE tT st with
   | true=>
    have e:((1:Int),ag tT st)=(n,s1):=by rw[←hc];show _=(if aE tT st then _ else _);rw[hm];rfl
    injection e with e1 e2
    subst e1;subst e2
    have HM:=hid hm
    clear hm hc
    go_wp2_with (go_at_call 219;refine(Ca _).mono ?_;rintro e w' ⟨rfl,rfl⟩)
    refine(aL HP.out tT true HM.out).mono ?_
    rintro e W2 ⟨rfl,h2,g2⟩
    have H2:=hid h2
    have G2:=hid (aB HG.out g2)
    clear h2 g2
    go_wp2_with fail
    refine bodyPost_ret (v:=.int .i64 1) ?_ rfl ⟨rfl,H2.out,G2.out⟩
    simp[results,Tryz.results164,go_sem]
   | false=>
    have hc2:xY 2 st=(n,s1):=by rw[←hc];show _=(if aE tT st then _ else _);rw[hm];rfl
    have HM:=hid hm
    have HC:=hid hc2
    clear hm hc hc2
    go_wp2_with (go_at_call 219;refine(Ca _).mono ?_;rintro e w' ⟨rfl,rfl⟩)
    refine(aL HP.out tT false HM.out).mono ?_
    rintro e W2 ⟨rfl,h2,g2⟩
    rw[show ag tT st=st by unfold ag;rw[HM.out];rfl] at h2
    have H2:=hid h2
    have G2:=hid (aB HG.out g2)
    clear h2 g2
    go_wp2_with fail
    go_roundg (gk - 1)
    case measure=>omega
    case rel=>exact⟨2,by simp,by omega,by omega,H2.out,G2.out,HC.out⟩
  ·cases hm:aE D7 st with
   | true=>
    have e:((2:Int),ag D7 st)=(n,s1):=by rw[←hc];show _=(if aE D7 st then _ else _);rw[hm];rfl
    injection e with e1 e2
    subst e1;subst e2
    have HM:=hid hm
    clear hm hc
    go_wp2_with (go_at_call 219;refine(Cg _).mono ?_;rintro e w' ⟨rfl,rfl⟩)
    refine(aL HP.out D7 true HM.out).mono ?_
    rintro e W2 ⟨rfl,h2,g2⟩
    have H2:=hid h2
    have G2:=hid (aB HG.out g2)
    clear h2 g2
    go_wp2_with fail
    refine bodyPost_ret (v:=.int .i64 2) ?_ rfl ⟨rfl,H2.out,G2.out⟩
    simp[results,Tryz.results164,go_sem]
   | false=>
    have hc2:xY 3 st=(n,s1):=by rw[←hc];show _=(if aE D7 st then _ else _);rw[hm];rfl
    have HM:=hid hm
    have HC:=hid hc2
    clear hm hc hc2
    go_wp2_with (go_at_call 219;refine(Cg _).mono ?_;rintro e w' ⟨rfl,rfl⟩)
    refine(aL HP.out D7 false HM.out).mono ?_
    rintro e W2 ⟨rfl,h2,g2⟩
    rw[show ag D7 st=st by unfold ag;rw[HM.out];rfl] at h2
    have H2:=hid h2
    have G2:=hid (aB HG.out g2)
    clear h2 g2
    go_wp2_with fail
    go_roundg (gk - 1)
    case measure=>omega
    case rel=>exact⟨3,by simp,by omega,by omega,H2.out,G2.out,HC.out⟩
  ·cases hm:aE D9 st with
   | true=>
    have e:((3:Int),ag D9 st)=(n,s1):=by rw[←hc];show _=(if aE D9 st then _ else _);rw[hm];rfl
    injection e with e1 e2
    subst e1;subst e2
    have HM:=hid hm
    clear hm hc
    go_wp2_with (go_at_call 219;refine(B5 _).mono ?_;rintro e w' ⟨rfl,rfl⟩)
    refine(aL HP.out D9 true HM.out).mono ?_
    rintro e W2 ⟨rfl,h2,g2⟩
    have H2:=hid h2
    have G2:=hid (aB HG.out g2)
    clear h2 g2
    go_wp2_with fail
    refine bodyPost_ret (v:=.int .i64 3) ?_ rfl ⟨rfl,H2.out,G2.out⟩
    simp[results,Tryz.results164,go_sem]
   | false=>
    have hc2:xY 4 st=(n,s1):=by rw[←hc];show _=(if aE D9 st then _ else _);rw[hm];rfl
    have HM:=hid hm
    have HC:=hid hc2
    clear hm hc hc2
    go_wp2_with (go_at_call 219;refine(B5 _).mono ?_;rintro e w' ⟨rfl,rfl⟩)
    refine(aL HP.out D9 false HM.out).mono ?_
    rintro e W2 ⟨rfl,h2,g2⟩
    rw[show ag D9 st=st by unfold ag;rw[HM.out];rfl] at h2
    have H2:=hid h2
    have G2:=hid (aB HG.out g2)
    clear h2 g2
    go_wp2_with fail
    go_roundg (gk - 1)
    case measure=>omega
    case rel=>exact⟨4,by simp,by omega,by omega,H2.out,G2.out,HC.out⟩
  ·cases hm:aE D2 st with
   | true=>
    have e:((4:Int),ag D2 st)=(n,s1):=by rw[←hc];show _=(if aE D2 st then _ else _);rw[hm];rfl
    injection e with e1 e2
    subst e1;subst e2
    have HM:=hid hm
    clear hm hc
    go_wp2_with (go_at_call 219;refine(BA _).mono ?_;rintro e w' ⟨rfl,rfl⟩)
    refine(aL HP.out D2 true HM.out).mono ?_
    rintro e W2 ⟨rfl,h2,g2⟩
    have H2:=hid h2
    have G2:=hid (aB HG.out g2)
    clear h2 g2
    go_wp2_with fail
    refine bodyPost_ret (v:=.int .i64 4) ?_ rfl ⟨rfl,H2.out,G2.out⟩
    simp[results,Tryz.results164,go_sem]
   | false=>
    have hc2:xY 5 st=(n,s1):=by rw[←hc];show _=(if aE D2 st then _ else _);rw[hm];rfl
    have HM:=hid hm
    have HC:=hid hc2
    clear hm hc hc2
    go_wp2_with (go_at_call 219;refine(BA _).mono ?_;rintro e w' ⟨rfl,rfl⟩)
    refine(aL HP.out D2 false HM.out).mono ?_
    rintro e W2 ⟨rfl,h2,g2⟩
    rw[show ag D2 st=st by unfold ag;rw[HM.out];rfl] at h2
    have H2:=hid h2
    have G2:=hid (aB HG.out g2)
    clear h2 g2
    go_wp2_with fail
    go_roundg (gk - 1)
    case measure=>omega
    case rel=>exact⟨5,by simp,by omega,by omega,H2.out,G2.out,HC.out⟩
  ·cases hm:aE D4 st with
   | true=>
    have e:((5:Int),ag D4 st)=(n,s1):=by rw[←hc];show _=(if aE D4 st then _ else _);rw[hm];rfl
    injection e with e1 e2
    subst e1;subst e2
    have HM:=hid hm
    clear hm hc
    go_wp2_with (go_at_call 219;refine(B8 _).mono ?_;rintro e w' ⟨rfl,rfl⟩)
    refine(aL HP.out D4 true HM.out).mono ?_
    rintro e W2 ⟨rfl,h2,g2⟩
    have H2:=hid h2
    have G2:=hid (aB HG.out g2)
    clear h2 g2
    go_wp2_with fail
    refine bodyPost_ret (v:=.int .i64 5) ?_ rfl ⟨rfl,H2.out,G2.out⟩
    simp[results,Tryz.results164,go_sem]
   | false=>
    have hc2:xY 6 st=(n,s1):=by rw[←hc];show _=(if aE D4 st then _ else _);rw[hm];rfl
    have HM:=hid hm
    have HC:=hid hc2
    clear hm hc hc2
    go_wp2_with (go_at_call 219;refine(B8 _).mono ?_;rintro e w' ⟨rfl,rfl⟩)
    refine(aL HP.out D4 false HM.out).mono ?_
    rintro e W2 ⟨rfl,h2,g2⟩
    rw[show ag D4 st=st by unfold ag;rw[HM.out];rfl] at h2
    have H2:=hid h2
    have G2:=hid (aB HG.out g2)
    clear h2 g2
    go_wp2_with fail
    go_roundg (gk - 1)
    case measure=>omega
    case rel=>exact⟨6,by simp,by omega,by omega,H2.out,G2.out,HC.out⟩
  ·cases hm:aE D3 st with
   | true=>
    have e:((6:Int),ag D3 st)=(n,s1):=by rw[←hc];show _=(if aE D3 st then _ else _);rw[hm];rfl
    injection e with e1 e2
    subst e1;subst e2
    have HM:=hid hm
    clear hm hc
    go_wp2_with (go_at_call 219;refine(Cb _).mono ?_;rintro e w' ⟨rfl,rfl⟩)
    refine(aL HP.out D3 true HM.out).mono ?_
    rintro e W2 ⟨rfl,h2,g2⟩
    have H2:=hid h2
    have G2:=hid (aB HG.out g2)
    clear h2 g2
    go_wp2_with fail
    refine bodyPost_ret (v:=.int .i64 6) ?_ rfl ⟨rfl,H2.out,G2.out⟩
    simp[results,Tryz.results164,go_sem]
   | false=>
    have hc2:xY 7 st=(n,s1):=by rw[←hc];show _=(if aE D3 st then _ else _);rw[hm];rfl
    have HM:=hid hm
    have HC:=hid hc2
    clear hm hc hc2
    go_wp2_with (go_at_call 219;refine(Cb _).mono ?_;rintro e w' ⟨rfl,rfl⟩)
    refine(aL HP.out D3 false HM.out).mono ?_
    rintro e W2 ⟨rfl,h2,g2⟩
    rw[show ag D3 st=st by unfold ag;rw[HM.out];rfl] at h2
    have H2:=hid h2
    have G2:=hid (aB HG.out g2)
    clear h2 g2
    go_wp2_with fail
    go_roundg (gk - 1)
    case measure=>omega
    case rel=>exact⟨7,by simp,by omega,by omega,H2.out,G2.out,HC.out⟩
  ·have e:((0:Int),dv)=(n,s1):=hc
   injection e with e1 e2
   subst e1;subst e2
   clear hc
   go_wp2_with fail
   refine(nk HP.out).mono ?_
   rintro e W2 ⟨rfl,h2,g2⟩
   have H2:=hid h2
   have G2:=hid (aB HG.out g2)
   clear h2 g2
   go_wp2_with fail
   refine bodyPost_ret (v:=.int .i64 0) ?_ rfl ⟨rfl,H2.out,G2.out⟩
   simp[results,Tryz.results164,go_sem]
end
end Go.Proofs.YtobgbmfpicmpcaaGreatDoor
