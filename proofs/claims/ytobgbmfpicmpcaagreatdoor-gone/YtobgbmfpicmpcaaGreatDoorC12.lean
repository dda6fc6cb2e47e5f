/- The program's parser: conditions. -/
import Derived.Test.YtobgbmfpicmpcaaGreatDoorC11
import Derived.Test.YtobgbmfpicmpcaaGreatDoorC04
import Derived.Test.YtobgbmfpicmpcaaGreatDoorC03
import Derived.Lib.Hide
set_option maxRecDepth 100000
set_option maxHeartbeats 8000000
namespace Go.Proofs.YtobgbmfpicmpcaaGreatDoor
open Go.Lib (hid)
section
open Go.RowKit
theorem zB {b G:Nat} {st s1:RS} {r:bP} {W:World} (h:PI b G st W) (hn:fR st=(r,s1)) {a:gj} {a1:RS} (ha:dM st=(a,a1)) (hi:aE ng a1=true) (hm:aE jo (ag ng a1)=true):
  Calls Tryz.prog 100 #[.pointer (some ⟨b,0,none⟩)] W fun e W'=>e=.returned (.agg #[.int .i64 r.op,.string r.a.name,.string r.a.key,.int .i64 r.a.val,.string r.b.name,.string r.b.key,.int .i64 r.b.val])∧PI b G s1 W'∧W.grownBy W' (some b):=by
 have H0:=hid (PX.start h #[.int .i64 0,.string ⟨#[]⟩,.string ⟨#[]⟩,.int .i64 0,.string ⟨#[]⟩,.string ⟨#[]⟩,.int .i64 0] 87)
 have HA:=hid ha
 have e:((⟨8,a,lD⟩:bP),aD il (ag jo (ag ng a1)))=(r,s1):=by rw[←hn];unfold fR;simp only[ha,hi,hm];rfl
 injection e with e1 e3
 subst e1;subst e3
 have HI:=hid hi
 have HM:=hid hm
 clear h hn hm ha hi
 go_enter Tryz.func100,Tryz.ntmps100
 go_wp2_with fail
 obtain⟨X,hX⟩:∃X,X=W.heap.size:=⟨_,rfl⟩
 rw[←hX] at H0⊢
 clear hX
 generalize W.alloc (.cells #[.int .i64 0,.string ⟨#[]⟩,.string ⟨#[]⟩,.int .i64 0,.string ⟨#[]⟩,.string ⟨#[]⟩,.int .i64 0] 87)=W0' at H0⊢
 refine(xJ H0.out.p HA.out).mono ?_
 rintro e W1 ⟨rfl,h,g⟩
 have H1:=hid (H0.out.call h g)
 clear h g H0
 have H2:=hid (H1.out.more #[.int .i64 0,.string a.name,.string a.key,.int .i64 a.val,.string ⟨#[]⟩,.string ⟨#[]⟩,.int .i64 0] 87)
 clear H1
 go_wp2_with fail
 obtain⟨Y,hY⟩:∃Y,Y=W1.heap.size:=⟨_,rfl⟩;rw[←hY] at H2⊢;clear hY;generalize W1.alloc (.cells #[.int .i64 0,.string a.name,.string a.key,.int .i64 a.val,.string ⟨#[]⟩,.string ⟨#[]⟩,.int .i64 0] 87)=W2 at H2⊢
 refine(aL H2.out.q.p ng true HI.out).mono ?_
 rintro e W3 ⟨rfl,h,g⟩
 have H3:=hid (H2.out.call h g)
 clear h g H2
 have c0:=H3.out.ly.at_ 0 (.int .i64 0) rfl
 have f0:W3.frozen? ⟨Y,0,none⟩=false:=H3.out.ly.free 0
 have H4:=hid (H3.out.mZ 0 (.int .i64 7))
 clear H3
 go_wp2_with fail
 generalize (W3.setCell ⟨Y,0,none⟩ (.int .i64 7))=W4 at H4⊢;clear c0 f0
 refine(aL H4.out.q.p jo true HM.out).mono ?_
 rintro e W5 ⟨rfl,h,g⟩
 have H5:=hid (H4.out.call h g)
 clear h g H4
 have c0:=H5.out.ly.at_ 0 (.int .i64 7) rfl
 have f0:W5.frozen? ⟨Y,0,none⟩=false:=H5.out.ly.free 0
 have H6:=hid (H5.out.mZ 0 (.int .i64 8))
 clear H5
 go_wp2_with fail
 generalize (W5.setCell ⟨Y,0,none⟩ (.int .i64 8))=W6 at H6⊢;clear c0 f0
 refine(dA H6.out.q.p il).mono ?_
 rintro e W7 ⟨rfl,h,g⟩
 have H7:=hid (H6.out.call h g)
 clear h g H6
 have x0:=H7.out.q.lx.at_ 0 (.int .i64 0) rfl
 have g0:W7.frozen? ⟨X,0,none⟩=false:=H7.out.q.lx.free 0
 have x1:=H7.out.q.lx.at_ 1 (.string ⟨#[]⟩) rfl
 have g1:W7.frozen? ⟨X,1,none⟩=false:=H7.out.q.lx.free 1
 have x2:=H7.out.q.lx.at_ 2 (.string ⟨#[]⟩) rfl
 have g2:W7.frozen? ⟨X,2,none⟩=false:=H7.out.q.lx.free 2
 have x3:=H7.out.q.lx.at_ 3 (.int .i64 0) rfl
 have g3:W7.frozen? ⟨X,3,none⟩=false:=H7.out.q.lx.free 3
 have x4:=H7.out.q.lx.at_ 4 (.string ⟨#[]⟩) rfl
 have g4:W7.frozen? ⟨X,4,none⟩=false:=H7.out.q.lx.free 4
 have x5:=H7.out.q.lx.at_ 5 (.string ⟨#[]⟩) rfl
 have g5:W7.frozen? ⟨X,5,none⟩=false:=H7.out.q.lx.free 5
 have x6:=H7.out.q.lx.at_ 6 (.int .i64 0) rfl
 have g6:W7.frozen? ⟨X,6,none⟩=false:=H7.out.q.lx.free 6
 have y0:=H7.out.ly.at_ 0 (.int .i64 8) rfl
 have y1:=H7.out.ly.at_ 1 (.string a.name) rfl
 have y2:=H7.out.ly.at_ 2 (.string a.key) rfl
 have y3:=H7.out.ly.at_ 3 (.int .i64 a.val) rfl
 have y4:=H7.out.ly.at_ 4 (.string ⟨#[]⟩) rfl
 have y5:=H7.out.ly.at_ 5 (.string ⟨#[]⟩) rfl
 have y6:=H7.out.ly.at_ 6 (.int .i64 0) rfl
 go_wp2_with fail
 have hF:=(((((((H7.out.df 0 (.int .i64 8)).df 1 (.string a.name)).df 2 (.string a.key)).df 3 (.int .i64 a.val)).df 4 (.string ⟨#[]⟩)).df 5 (.string ⟨#[]⟩)).df 6 (.int .i64 0)).q
 generalize (((((((W7.setCell ⟨X,0,none⟩ (.int .i64 8)).setCell ⟨X,1,none⟩ (.string a.name)).setCell ⟨X,2,none⟩ (.string a.key)).setCell ⟨X,3,none⟩ (.int .i64 a.val)).setCell ⟨X,4,none⟩ (.string ⟨#[]⟩)).setCell ⟨X,5,none⟩ (.string ⟨#[]⟩)).setCell ⟨X,6,none⟩ (.int .i64 0))=WF at hF⊢
 refine bodyPost_ret (v:=.agg #[.int .i64 8,.string a.name,.string a.key,.int .i64 a.val,.string ⟨#[]⟩,.string ⟨#[]⟩,.int .i64 0]) ?_ rfl ⟨rfl,hF.p,hF.grown⟩
 have r0:=hF.lx.cell 0
 have r1:=hF.lx.cell 1
 have r2:=hF.lx.cell 2
 have r3:=hF.lx.cell 3
 have r4:=hF.lx.cell 4
 have r5:=hF.lx.cell 5
 have r6:=hF.lx.cell 6
 simp at r0 r1 r2 r3 r4 r5 r6
 simp[results,Tryz.results100,go_sem,r0,r1,r2,r3,r4,r5,r6]
theorem vQ {b G:Nat} {st s1:RS} {r:bP} {W:World} (h:PI b G st W) (hn:fR st=(r,s1)) {a:gj} {a1:RS} (ha:dM st=(a,a1)) (hi:aE ng a1=true) (hm:aE jo (ag ng a1)=false):
  Calls Tryz.prog 100 #[.pointer (some ⟨b,0,none⟩)] W fun e W'=>e=.returned (.agg #[.int .i64 r.op,.string r.a.name,.string r.a.key,.int .i64 r.a.val,.string r.b.name,.string r.b.key,.int .i64 r.b.val])∧PI b G s1 W'∧W.grownBy W' (some b):=by
 have H0:=hid (PX.start h #[.int .i64 0,.string ⟨#[]⟩,.string ⟨#[]⟩,.int .i64 0,.string ⟨#[]⟩,.string ⟨#[]⟩,.int .i64 0] 87)
 have HA:=hid ha
 have e:((⟨7,a,lD⟩:bP),aD il (ag jo (ag ng a1)))=(r,s1):=by rw[←hn];unfold fR;simp only[ha,hi,hm];rfl
 injection e with e1 e3
 subst e1;subst e3
 have HI:=hid hi
 have HM:=hid hm
 clear h hn hm ha hi
 go_enter Tryz.func100,Tryz.ntmps100
 go_wp2_with fail
 obtain⟨X,hX⟩:∃X,X=W.heap.size:=⟨_,rfl⟩
 rw[←hX] at H0⊢
 clear hX
 generalize W.alloc (.cells #[.int .i64 0,.string ⟨#[]⟩,.string ⟨#[]⟩,.int .i64 0,.string ⟨#[]⟩,.string ⟨#[]⟩,.int .i64 0] 87)=W0' at H0⊢
 refine(xJ H0.out.p HA.out).mono ?_
 rintro e W1 ⟨rfl,h,g⟩
 have H1:=hid (H0.out.call h g)
 clear h g H0
 have H2:=hid (H1.out.more #[.int .i64 0,.string a.name,.string a.key,.int .i64 a.val,.string ⟨#[]⟩,.string ⟨#[]⟩,.int .i64 0] 87)
 clear H1
 go_wp2_with fail
 obtain⟨Y,hY⟩:∃Y,Y=W1.heap.size:=⟨_,rfl⟩;rw[←hY] at H2⊢;clear hY;generalize W1.alloc (.cells #[.int .i64 0,.string a.name,.string a.key,.int .i64 a.val,.string ⟨#[]⟩,.string ⟨#[]⟩,.int .i64 0] 87)=W2 at H2⊢
 refine(aL H2.out.q.p ng true HI.out).mono ?_
 rintro e W3 ⟨rfl,h,g⟩
 have H3:=hid (H2.out.call h g)
 clear h g H2
 have c0:=H3.out.ly.at_ 0 (.int .i64 0) rfl
 have f0:W3.frozen? ⟨Y,0,none⟩=false:=H3.out.ly.free 0
 have H4:=hid (H3.out.mZ 0 (.int .i64 7))
 clear H3
 go_wp2_with fail
 generalize (W3.setCell ⟨Y,0,none⟩ (.int .i64 7))=W4 at H4⊢;clear c0 f0
 refine(aL H4.out.q.p jo false HM.out).mono ?_
 rintro e W5 ⟨rfl,h,g⟩
 have H5:=hid (H4.out.call h g)
 clear h g H4
 go_wp2_with fail
 refine(dA H5.out.q.p il).mono ?_
 rintro e W6 ⟨rfl,h,g⟩
 have H6:=hid (H5.out.call h g)
 clear h g H5
 have x0:=H6.out.q.lx.at_ 0 (.int .i64 0) rfl
 have g0:W6.frozen? ⟨X,0,none⟩=false:=H6.out.q.lx.free 0
 have x1:=H6.out.q.lx.at_ 1 (.string ⟨#[]⟩) rfl
 have g1:W6.frozen? ⟨X,1,none⟩=false:=H6.out.q.lx.free 1
 have x2:=H6.out.q.lx.at_ 2 (.string ⟨#[]⟩) rfl
 have g2:W6.frozen? ⟨X,2,none⟩=false:=H6.out.q.lx.free 2
 have x3:=H6.out.q.lx.at_ 3 (.int .i64 0) rfl
 have g3:W6.frozen? ⟨X,3,none⟩=false:=H6.out.q.lx.free 3
 have x4:=H6.out.q.lx.at_ 4 (.string ⟨#[]⟩) rfl
 have g4:W6.frozen? ⟨X,4,none⟩=false:=H6.out.q.lx.free 4
 have x5:=H6.out.q.lx.at_ 5 (.string ⟨#[]⟩) rfl
 have g5:W6.frozen? ⟨X,5,none⟩=false:=H6.out.q.lx.free 5
 have x6:=H6.out.q.lx.at_ 6 (.int .i64 0) rfl
 have g6:W6.frozen? ⟨X,6,none⟩=false:=H6.out.q.lx.free 6
 have y0:=H6.out.ly.at_ 0 (.int .i64 7) rfl
 have y1:=H6.out.ly.at_ 1 (.string a.name) rfl
 have y2:=H6.out.ly.at_ 2 (.string a.key) rfl
 have y3:=H6.out.ly.at_ 3 (.int .i64 a.val) rfl
 have y4:=H6.out.ly.at_ 4 (.string ⟨#[]⟩) rfl
 have y5:=H6.out.ly.at_ 5 (.string ⟨#[]⟩) rfl
 have y6:=H6.out.ly.at_ 6 (.int .i64 0) rfl
 go_wp2_with fail
 have hF:=(((((((H6.out.df 0 (.int .i64 7)).df 1 (.string a.name)).df 2 (.string a.key)).df 3 (.int .i64 a.val)).df 4 (.string ⟨#[]⟩)).df 5 (.string ⟨#[]⟩)).df 6 (.int .i64 0)).q
 generalize (((((((W6.setCell ⟨X,0,none⟩ (.int .i64 7)).setCell ⟨X,1,none⟩ (.string a.name)).setCell ⟨X,2,none⟩ (.string a.key)).setCell ⟨X,3,none⟩ (.int .i64 a.val)).setCell ⟨X,4,none⟩ (.string ⟨#[]⟩)).setCell ⟨X,5,none⟩ (.string ⟨#[]⟩)).setCell ⟨X,6,none⟩ (.int .i64 0))=WF at hF⊢
 refine bodyPost_ret (v:=.agg #[.int .i64 7,.string a.name,.string a.key,.int .i64 a.val,.string ⟨#[]⟩,.string ⟨#[]⟩,.int .i64 0]) ?_ rfl ⟨rfl,hF.p,hF.grown⟩
 have r0:=hF.lx.cell 0
 have r1:=hF.lx.cell 1
 have r2:=hF.lx.cell 2
 have r3:=hF.lx.cell 3
 have r4:=hF.lx.cell 4
 have r5:=hF.lx.cell 5
 have r6:=hF.lx.cell 6
 simp at r0 r1 r2 r3 r4 r5 r6
 simp[results,Tryz.results100,go_sem,r0,r1,r2,r3,r4,r5,r6]
theorem GZ {b G:Nat} {st s1:RS} {r:bP} {W:World} (h:PI b G st W) (hn:fR st=(r,s1)) {a:gj} {a1:RS} (ha:dM st=(a,a1)) (hi:aE ng a1=false):
  Calls Tryz.prog 100 #[.pointer (some ⟨b,0,none⟩)] W fun e W'=>e=.returned (.agg #[.int .i64 r.op,.string r.a.name,.string r.a.key,.int .i64 r.a.val,.string r.b.name,.string r.b.key,.int .i64 r.b.val])∧PI b G s1 W'∧W.grownBy W' (some b):=by
 have H0:=hid (PX.start h #[.int .i64 0,.string ⟨#[]⟩,.string ⟨#[]⟩,.int .i64 0,.string ⟨#[]⟩,.string ⟨#[]⟩,.int .i64 0] 87)
 have HA:=hid ha
 obtain⟨o',a2,hk⟩:∃k' az,dt mY 1 a1=(k',az):=⟨_,_,rfl⟩
 obtain⟨t',a3,ht⟩:∃k' az,dM a2=(k',az):=⟨_,_,rfl⟩
 have e:((⟨o',a,t'⟩:bP),a3)=(r,s1):=by rw[←hn];unfold fR;simp only[ha,hi,hk,ht];rfl
 injection e with e1 e3
 subst e1;subst e3
 have HI:=hid hi
 have HK:=hid hk
 have HT:=hid ht
 clear h hn ha hi hk ht
 go_enter Tryz.func100,Tryz.ntmps100
 go_wp2_with fail
 obtain⟨X,hX⟩:∃X,X=W.heap.size:=⟨_,rfl⟩
 rw[←hX] at H0⊢
 clear hX
 generalize W.alloc (.cells #[.int .i64 0,.string ⟨#[]⟩,.string ⟨#[]⟩,.int .i64 0,.string ⟨#[]⟩,.string ⟨#[]⟩,.int .i64 0] 87)=W0' at H0⊢
 refine(xJ H0.out.p HA.out).mono ?_
 rintro e W1 ⟨rfl,h,g⟩
 have H1:=hid (H0.out.call h g)
 clear h g H0
 have H2:=hid (H1.out.more #[.int .i64 0,.string a.name,.string a.key,.int .i64 a.val,.string ⟨#[]⟩,.string ⟨#[]⟩,.int .i64 0] 87)
 clear H1
 go_wp2_with fail
 obtain⟨Y,hY⟩:∃Y,Y=W1.heap.size:=⟨_,rfl⟩;rw[←hY] at H2⊢;clear hY;generalize W1.alloc (.cells #[.int .i64 0,.string a.name,.string a.key,.int .i64 a.val,.string ⟨#[]⟩,.string ⟨#[]⟩,.int .i64 0] 87)=W2 at H2⊢
 refine(aL H2.out.q.p ng false HI.out).mono ?_
 rintro e W3 ⟨rfl,h,g⟩
 have H3:=hid (H2.out.call h g)
 clear h g H2
 rw[show ag ng a1=a1 by unfold ag;rw[HI.out];rfl] at H3
 go_wp2_with fail
 refine(xK H3.out.q.p HK.out).mono ?_
 rintro e W4 ⟨rfl,h,g⟩
 have H4:=hid (H3.out.call h g)
 clear h g H3
 have c0:=H4.out.ly.at_ 0 (.int .i64 0) rfl
 have f0:W4.frozen? ⟨Y,0,none⟩=false:=H4.out.ly.free 0
 have H5:=hid (H4.out.mZ 0 (.int .i64 o'))
 clear H4
 go_wp2_with fail
 generalize (W4.setCell ⟨Y,0,none⟩ (.int .i64 o'))=W5 at H5⊢;clear c0 f0
 refine(xJ H5.out.q.p HT.out).mono ?_
 rintro e W6 ⟨rfl,h,g⟩
 have H6:=hid (H5.out.call h g)
 clear h g H5
 have c4:=H6.out.ly.at_ 4 (.string ⟨#[]⟩) rfl
 have f4:W6.frozen? ⟨Y,4,none⟩=false:=H6.out.ly.free 4
 have c5:=H6.out.ly.at_ 5 (.string ⟨#[]⟩) rfl
 have f5:W6.frozen? ⟨Y,5,none⟩=false:=H6.out.ly.free 5
 have c6:=H6.out.ly.at_ 6 (.int .i64 0) rfl
 have f6:W6.frozen? ⟨Y,6,none⟩=false:=H6.out.ly.free 6
 have H7:=hid (((H6.out.mZ 4 (.string t'.name)).mZ 5 (.string t'.key)).mZ 6 (.int .i64 t'.val))
 clear H6
 go_upto_region 10 with fail
 generalize (((W6.setCell ⟨Y,4,none⟩ (.string t'.name)).setCell ⟨Y,5,none⟩ (.string t'.key)).setCell ⟨Y,6,none⟩ (.int .i64 t'.val))=W7 at H7⊢;clear c4 f4 c5 f5 c6 f6
 have x0:=H7.out.q.lx.at_ 0 (.int .i64 0) rfl
 have g0:W7.frozen? ⟨X,0,none⟩=false:=H7.out.q.lx.free 0
 have x1:=H7.out.q.lx.at_ 1 (.string ⟨#[]⟩) rfl
 have g1:W7.frozen? ⟨X,1,none⟩=false:=H7.out.q.lx.free 1
 have x2:=H7.out.q.lx.at_ 2 (.string ⟨#[]⟩) rfl
 have g2:W7.frozen? ⟨X,2,none⟩=false:=H7.out.q.lx.free 2
 have x3:=H7.out.q.lx.at_ 3 (.int .i64 0) rfl
 have g3:W7.frozen? ⟨X,3,none⟩=false:=H7.out.q.lx.free 3
 have x4:=H7.out.q.lx.at_ 4 (.string ⟨#[]⟩) rfl
 have g4:W7.frozen? ⟨X,4,none⟩=false:=H7.out.q.lx.free 4
 have x5:=H7.out.q.lx.at_ 5 (.string ⟨#[]⟩) rfl
 have g5:W7.frozen? ⟨X,5,none⟩=false:=H7.out.q.lx.free 5
 have x6:=H7.out.q.lx.at_ 6 (.int .i64 0) rfl
 have g6:W7.frozen? ⟨X,6,none⟩=false:=H7.out.q.lx.free 6
 have y0:=H7.out.ly.at_ 0 (.int .i64 o') rfl
 have y1:=H7.out.ly.at_ 1 (.string a.name) rfl
 have y2:=H7.out.ly.at_ 2 (.string a.key) rfl
 have y3:=H7.out.ly.at_ 3 (.int .i64 a.val) rfl
 have y4:=H7.out.ly.at_ 4 (.string t'.name) rfl
 have y5:=H7.out.ly.at_ 5 (.string t'.key) rfl
 have y6:=H7.out.ly.at_ 6 (.int .i64 t'.val) rfl
 go_wp2_with fail
 have hF:=(((((((H7.out.df 0 (.int .i64 o')).df 1 (.string a.name)).df 2 (.string a.key)).df 3 (.int .i64 a.val)).df 4 (.string t'.name)).df 5 (.string t'.key)).df 6 (.int .i64 t'.val)).q
 generalize (((((((W7.setCell ⟨X,0,none⟩ (.int .i64 o')).setCell ⟨X,1,none⟩ (.string a.name)).setCell ⟨X,2,none⟩ (.string a.key)).setCell ⟨X,3,none⟩ (.int .i64 a.val)).setCell ⟨X,4,none⟩ (.string t'.name)).setCell ⟨X,5,none⟩ (.string t'.key)).setCell ⟨X,6,none⟩ (.int .i64 t'.val))=WF at hF⊢
 refine bodyPost_ret (v:=.agg #[.int .i64 o',.string a.name,.string a.key,.int .i64 a.val,.string t'.name,.string t'.key,.int .i64 t'.val]) ?_ rfl ⟨rfl,hF.p,hF.grown⟩
 have r0:=hF.lx.cell 0
 have r1:=hF.lx.cell 1
 have r2:=hF.lx.cell 2
 have r3:=hF.lx.cell 3
 have r4:=hF.lx.cell 4
 have r5:=hF.lx.cell 5
 have r6:=hF.lx.cell 6
 simp at r0 r1 r2 r3 r4 r5 r6
 simp[results,Tryz.results100,go_sem,r0,r1,r2,r3,r4,r5,r6]
theorem I6 {b G:Nat} {st s1:RS} {r:bP} {W:World} (h:PI b G st W) (hn:fR st=(r,s1)):
  Calls Tryz.prog 100 #[.pointer (some ⟨b,0,none⟩)] W fun e W'=>e=.returned (.agg #[.int .i64 r.op,.string r.a.name,.string r.a.key,.int .i64 r.a.val,.string r.b.name,.string r.b.key,.int .i64 r.b.val])∧PI b G s1 W'∧W.grownBy W' (some b):=by
 obtain⟨a,a1,ha⟩:∃k' az,dM st=(k',az):=⟨_,_,rfl⟩
 cases hi:aE ng a1 with
 | false=>exact GZ h hn ha hi
 | true=>
  cases hm:aE jo (ag ng a1) with
  | true=>exact zB h hn ha hi hm
  | false=>exact vQ h hn ha hi hm
end
section
open Go.RowKit
theorem Av {s:ByteArray} {st:RS} (h:aE s st=true):0<st.rest.length:=by
 unfold aE at h
 split at h
 ·cases h
 ·rename_i e;rw[e];simp
theorem gL {s:ByteArray} {st:RS} (h:aE s st=true):(ag s st).rest.length+1=st.rest.length:=by
 have:=Av h
 unfold ag;rw[if_pos h];simp;omega
theorem k7 {α:Type} {one:RS→α × RS} {sep:ByteArray} {n:Nat} {out:List α} {st s2:RS} {x:α} (h:aE sep st=true) (hx:one (ag sep st)=(x,s2)):bz one sep (n+1) out st=bz one sep n (out++[x]) s2:=by
 simp only[bz,h,if_true,hx]
theorem mF {α:Type} {one:RS→α × RS} {sep:ByteArray} {n:Nat} {out:List α} {st:RS} (h:aE sep st=false):bz one sep n out st=(out,st):=by
 cases n with
 | zero=>rfl
 | succ n=>simp only[bz,h];rfl
structure PL (W0:World) (b G:Nat) (st:RS) (T:TypeId) (k:Nat) (v:Value) (n:Nat) (xs:List Value) (w:World):Prop where
 p:PI b G st w
 row:w.ownsRow W0.heap.size T k v n xs
 grown:W0.grownBy w (some b)
 gw:G<W0.heap.size
 bw:b<W0.heap.size
theorem PL.call {W0 w w':World} {b G:Nat} {st st':RS} {T:TypeId} {k n:Nat} {v:Value} {xs:List Value} (h:PL W0 b G st T k v n xs w) (h1:PI b G st' w') (g1:w.grownBy w' (some b)):PL W0 b G st' T k v n xs w':=by
 refine⟨h1,h.row.kept g1 (Or.inr ?_),aB h.grown g1,h.gw,h.bw⟩
 intro e
 have:=(h.row.lt b e).1
 have:=h.bw
 omega
theorem PL.quiet {W0 w w':World} {b G:Nat} {st:RS} {T:TypeId} {k n:Nat} {v:Value} {xs:List Value} (h:PL W0 b G st T k v n xs w) (g:w.grownBy w' none):PL W0 b G st T k v n xs w':=h.call (h.p.quiet g) (DS g _)
theorem PL.more {W0 w w2:World} {b G:Nat} {st:RS} {T:TypeId} {k n n2:Nat} {v v2:Value} {xs xs2:List Value} (h:PL W0 b G st T k v n xs w) (g:w.grownBy w2 v.ownBlock) (ho:w2.ownsRow W0.heap.size T k v2 n2 xs2):PL W0 b G st T k v2 n2 xs2 w2:=by
 have hs:=h.grown.size
 have hb:=h.bw
 have hg:=h.gw
 refine⟨h.p.kept g ?_ ?_,ho,⟨g.os.trans h.grown.os,g.tape.trans h.grown.tape,g.output.trans h.grown.output,Nat.le_trans hs g.size,fun j hj hne=>(g.block j (by omega) ?_).trans (h.grown.block j hj hne)⟩,h.gw,h.bw⟩
 ·intro e;have:=(h.row.lt b e.symm).1;omega
 ·intro e;have:=(h.row.lt G e.symm).1;omega
 ·intro e;have:=(h.row.lt j e.symm).1;omega
theorem Fs {b G:Nat} {st s1:RS} {sep:ByteArray} {l:List dR} {W:World} (h:PI b G st W) (hl:st.rest.length≤2000) (hn:eO fu sep 6 st=(l,s1)):
  Calls Tryz.prog 157 #[.pointer (some ⟨b,0,none⟩),.string sep,.int .i64 6,.func (.func 158) #[.pointer (some ⟨b,0,none⟩)] #[]] W fun e W'=>∃v,e=.returned v∧W'.ownsRow W.heap.size 91 2 v l.length (fB l)∧PI b G s1 W'∧W.grownBy W' (some b):=by
 obtain⟨i1,hj,hy0,hy1,hy2⟩:=info_parts Tryz.ES
 obtain⟨x0,a1,ha⟩:∃x0 az,fu st=(x0,az):=⟨_,_,rfl⟩
 obtain⟨L,a2,hL⟩:∃L az,bz fu sep a1.rest.length [x0] a1=(L,az):=⟨_,_,rfl⟩
 have e:(L,if 6<L.length then dv else a2)=(l,s1):=by rw[←hn];unfold eO;simp only[ha,hL]
 injection e with e1 e2
 subst e1
 have hl1:=Pure.nX st
 rw[ha] at hl1
 have HA:=hid ha
 have HL:=hid hL
 have HE:=hid e2
 have HH:=hid h
 have hgw:=h.xU.2
 have hbw:b<W.heap.size:=by obtain⟨_,_,hb,_⟩:=h.box;exact hb.lt
 clear h hn ha hL e2
 go_enter Tryz.func157,Tryz.ntmps157
 go_wp2_with fail
 refine(Jc HH.out HA.out).mono ?_
 rintro e W1 ⟨rfl,h1,g1⟩
 have hsz:=g1.size
 have H1:Hid (PL W b G a1 91 2 (.slice (some ⟨W1.heap.size,0,none⟩) 1 1) 1 (fB [x0]) (W1.alloc (.cells #[.string x0.key,.int .i64 x0.val] 91))):=
  ⟨h1.quiet (ar W1 _ none),World.ownsRow_lit (size:=2) W1 #[.string x0.key,.int .i64 x0.val] 1 hsz (by unfold maxLen;omega) rfl,aB g1 (ar W1 _ _),hgw,hbw⟩
 clear h1 g1 HH
 go_upto_block 0 with fail
 obtain⟨V,hV⟩:∃V,V=Value.slice (some ⟨W1.heap.size,0,none⟩) 1 1:=⟨_,rfl⟩
 rw[←hV] at H1⊢
 clear hV
 generalize W1.alloc (.cells #[.string x0.key,.int .i64 x0.val] 91)=W2 at H1⊢
 clear hsz
 go_cut [9] (fun v w=>PL W b G a2 91 2 v L.length (fB L) w∧L.length+a2.rest.length≤2001)
 case first=>
  go_wp2_with fail
  go_loopg [9] (a1.rest.length+1) (fun m v w=>∃out s' n,PL W b G s' 91 2 v out.length (fB out) w∧bz fu sep n out s'=(L,a2)∧s'.rest.length≤n∧s'.rest.length+1≤m∧out.length+s'.rest.length≤2001)
  case atStart=>exact⟨[x0],a1,a1.rest.length,H1.out,HL.out,Nat.le_refl _,by omega,by simp;omega⟩
  case round=>
   obtain⟨out,s',n,hq,hlp,hsn,hsm,hos⟩:=hrel
   have HQ:=hid hq
   have HLP:=hid hlp
   clear hq hlp H1 HL
   cases hm:aE sep s' with
   | false=>
    have HM:=hid hm
    clear hm
    go_wp2_with fail
    refine(aL HQ.out.p sep false HM.out).mono ?_
    rintro e W3 ⟨rfl,h3,g3⟩
    rw[show ag sep s'=s' by unfold ag;rw[HM.out];rfl] at h3
    have H3:=hid (HQ.out.call h3 g3)
    clear h3 g3 HQ
    go_wp2_with fail
    go_meet
    case rel=>
     have e:=HLP.out
     rw[mF HM.out] at e
     injection e with e1 e2
     subst e1;subst e2
     exact⟨H3.out,hos⟩
   | true=>
    have HM:=hid hm
    have hless:=gL hm
    obtain⟨x,s2,hx⟩:∃x az,fu (ag sep s')=(x,az):=⟨_,_,rfl⟩
    have hxl:=Pure.nX (ag sep s')
    rw[hx] at hxl
    have HX:=hid hx
    obtain⟨n2,hn2⟩:∃n2,n=n2+1:=⟨n - 1,by omega⟩
    subst hn2
    clear hm hx
    go_wp2_with fail
    refine(aL HQ.out.p sep true HM.out).mono ?_
    rintro e W3 ⟨rfl,h3,g3⟩
    have H3:=hid (HQ.out.call h3 g3)
    clear h3 g3 HQ
    go_wp2_with fail
    refine(Jc H3.out.p HX.out).mono ?_
    rintro e W4 ⟨rfl,h4,g4⟩
    have H4:=hid (H3.out.call h4 g4)
    clear h4 g4 H3
    have HD:=hid (H4.out.quiet (ar W4 (.cells #[.string x.key,.int .i64 x.val] 91) none))
    obtain⟨pa,pc,hshape⟩:∃ao cap,u9=.slice ao out.length cap:=by
     obtain⟨ao,cap,e,_⟩:=aU (l:=out) HD.out.row
     exact⟨ao,cap,e⟩
    subst hshape
    clear H4
    go_wp2_with (at_builtin;go_must (refine wpList_append_lies _ rfl _ _ 27 rfl W.heap.size 91 i1 (.agg #[.string ⟨#[]⟩,.int .i64 0]) 2 24 Tryz.underlying27 hj hy0 hy1 hy2 rfl (by decide) (.slice pa out.length pc) _ _ rfl HD.out.row _ 1 1 [.string x.key,.int .i64 x.val] rfl rfl (World.news_of_block (heap_alloc_new W4 _)) Gp (by omega) (by unfold maxLen;omega) (by omega) HD.out.grown.size _ rfl ?_;intro g2 cap2 w5 hown hgrow _ _;have H5:=hid (HD.out.more hgrow hown);clear hown hgrow))
    go_roundg (gk - 1)
    case measure=>omega
    case rel=>
     refine⟨out++[x],s2,n2,?_,?_,by omega,by omega,by rw[List.length_append];simp;omega⟩
     ·rw[rY,List.length_append];exact H5.out
     ·rw[←HLP.out,k7 HM.out HX.out]
 case rest=>
  obtain⟨hq,hos⟩:=hcut
  have HQ:=hid hq
  obtain⟨pa,pc,hshape⟩:∃ao cap,u9=.slice ao L.length cap:=by
   obtain⟨ao,cap,e,_⟩:=aU (l:=L) hq.row
   exact⟨ao,cap,e⟩
  subst hshape
  clear hq H1
  by_cases h6:6<L.length
  ·have HS:Hid (s1=dv):=by show _=_;rw[←HE.out,if_pos h6]
   have h6i:(6:Int)<(L.length:Int):=by omega
   go_wp2_with fail
   refine(nk HQ.out.p).mono ?_
   rintro e W3 ⟨rfl,h3,g3⟩
   have H3:=hid (HQ.out.call h3 g3)
   clear h3 g3
   go_wp2_with fail
   refine bodyPost_ret (v:=.slice pa L.length pc) ?_ rfl ⟨_,rfl,H3.out.row,by rw[HS.out];exact H3.out.p,H3.out.grown⟩
   simp[results,Tryz.results157,go_sem]
  ·have HS:Hid (s1=a2):=by show _=_;rw[←HE.out,if_neg h6]
   have h6i:¬(6:Int)<(L.length:Int):=by omega
   go_wp2_with fail
   refine bodyPost_ret (v:=.slice pa L.length pc) ?_ rfl ⟨_,rfl,HQ.out.row,by rw[HS.out];exact HQ.out.p,HQ.out.grown⟩
   simp[results,Tryz.results157,go_sem]
theorem EQ {b G:Nat} {st s1:RS} {sep:ByteArray} {l:List bi} {W:World} (h:PI b G st W) (hl:st.rest.length≤2000) (hn:eO fS sep 6 st=(l,s1)):
  Calls Tryz.prog 220 #[.pointer (some ⟨b,0,none⟩),.string sep,.int .i64 6,.func (.func 221) #[.pointer (some ⟨b,0,none⟩)] #[]] W fun e W'=>∃v,e=.returned v∧W'.ownsRow W.heap.size 89 2 v l.length (eR l)∧PI b G s1 W'∧W.grownBy W' (some b):=by
 obtain⟨i1,hj,hy0,hy1,hy2⟩:=info_parts Tryz.GI
 obtain⟨x0,a1,ha⟩:∃x0 az,fS st=(x0,az):=⟨_,_,rfl⟩
 obtain⟨L,a2,hL⟩:∃L az,bz fS sep a1.rest.length [x0] a1=(L,az):=⟨_,_,rfl⟩
 have e:(L,if 6<L.length then dv else a2)=(l,s1):=by rw[←hn];unfold eO;simp only[ha,hL]
 injection e with e1 e2
 subst e1
 have hl1:=Pure.qA st
 rw[ha] at hl1
 have HA:=hid ha
 have HL:=hid hL
 have HE:=hid e2
 have HH:=hid h
 have hgw:=h.xU.2
 have hbw:b<W.heap.size:=by obtain⟨_,_,hb,_⟩:=h.box;exact hb.lt
 clear h hn ha hL e2
 go_enter Tryz.func220,Tryz.ntmps220
 go_wp2_with fail
 refine(I5 HH.out HA.out).mono ?_
 rintro e W1 ⟨rfl,h1,g1⟩
 have hsz:=g1.size
 have H1:Hid (PL W b G a1 89 2 (.slice (some ⟨W1.heap.size,0,none⟩) 1 1) 1 (eR [x0]) (W1.alloc (.cells #[.string x0.name,.string x0.key] 89))):=
  ⟨h1.quiet (ar W1 _ none),World.ownsRow_lit (size:=2) W1 #[.string x0.name,.string x0.key] 1 hsz (by unfold maxLen;omega) rfl,aB g1 (ar W1 _ _),hgw,hbw⟩
 clear h1 g1 HH
 go_upto_block 0 with fail
 obtain⟨V,hV⟩:∃V,V=Value.slice (some ⟨W1.heap.size,0,none⟩) 1 1:=⟨_,rfl⟩
 rw[←hV] at H1⊢
 clear hV
 generalize W1.alloc (.cells #[.string x0.name,.string x0.key] 89)=W2 at H1⊢
 clear hsz
 go_cut [9] (fun v w=>PL W b G a2 89 2 v L.length (eR L) w∧L.length+a2.rest.length≤2001)
 case first=>
  go_wp2_with fail
  go_loopg [9] (a1.rest.length+1) (fun m v w=>∃out s' n,PL W b G s' 89 2 v out.length (eR out) w∧bz fS sep n out s'=(L,a2)∧s'.rest.length≤n∧s'.rest.length+1≤m∧out.length+s'.rest.length≤2001)
  case atStart=>exact⟨[x0],a1,a1.rest.length,H1.out,HL.out,Nat.le_refl _,by omega,by simp;omega⟩
  case round=>
   obtain⟨out,s',n,hq,hlp,hsn,hsm,hos⟩:=hrel
   have HQ:=hid hq
   have HLP:=hid hlp
   clear hq hlp H1 HL
   cases hm:aE sep s' with
   | false=>
    have HM:=hid hm
    clear hm
    go_wp2_with fail
    refine(aL HQ.out.p sep false HM.out).mono ?_
    rintro e W3 ⟨rfl,h3,g3⟩
    rw[show ag sep s'=s' by unfold ag;rw[HM.out];rfl] at h3
    have H3:=hid (HQ.out.call h3 g3)
    clear h3 g3 HQ
    go_wp2_with fail
    go_meet
    case rel=>
     have e:=HLP.out
     rw[mF HM.out] at e
     injection e with e1 e2
     subst e1;subst e2
     exact⟨H3.out,hos⟩
   | true=>
    have HM:=hid hm
    have hless:=gL hm
    obtain⟨x,s2,hx⟩:∃x az,fS (ag sep s')=(x,az):=⟨_,_,rfl⟩
    have hxl:=Pure.qA (ag sep s')
    rw[hx] at hxl
    have HX:=hid hx
    obtain⟨n2,hn2⟩:∃n2,n=n2+1:=⟨n - 1,by omega⟩
    subst hn2
    clear hm hx
    go_wp2_with fail
    refine(aL HQ.out.p sep true HM.out).mono ?_
    rintro e W3 ⟨rfl,h3,g3⟩
    have H3:=hid (HQ.out.call h3 g3)
    clear h3 g3 HQ
    go_wp2_with fail
    refine(I5 H3.out.p HX.out).mono ?_
    rintro e W4 ⟨rfl,h4,g4⟩
    have H4:=hid (H3.out.call h4 g4)
    clear h4 g4 H3
    have HD:=hid (H4.out.quiet (ar W4 (.cells #[.string x.name,.string x.key] 89) none))
    obtain⟨pa,pc,hshape⟩:∃ao cap,u9=.slice ao out.length cap:=by
     obtain⟨ao,cap,e,_⟩:=aU (l:=out) HD.out.row
     exact⟨ao,cap,e⟩
    subst hshape
    clear H4
    go_wp2_with (at_builtin;go_must (refine wpList_append_lies _ rfl _ _ 24 rfl W.heap.size 89 i1 (.agg #[.string ⟨#[]⟩,.string ⟨#[]⟩]) 2 32 Tryz.underlying24 hj hy0 hy1 hy2 rfl (by decide) (.slice pa out.length pc) _ _ rfl HD.out.row _ 1 1 [.string x.name,.string x.key] rfl rfl (World.news_of_block (heap_alloc_new W4 _)) wV (by omega) (by unfold maxLen;omega) (by omega) HD.out.grown.size _ rfl ?_;intro g2 cap2 w5 hown hgrow _ _;have H5:=hid (HD.out.more hgrow hown);clear hown hgrow))
    go_roundg (gk - 1)
    case measure=>omega
    case rel=>
     refine⟨out++[x],s2,n2,?_,?_,by omega,by omega,by rw[List.length_append];simp;omega⟩
     ·rw[tC,List.length_append];exact H5.out
     ·rw[←HLP.out,k7 HM.out HX.out]
 case rest=>
  obtain⟨hq,hos⟩:=hcut
  have HQ:=hid hq
  obtain⟨pa,pc,hshape⟩:∃ao cap,u9=.slice ao L.length cap:=by
   obtain⟨ao,cap,e,_⟩:=aU (l:=L) hq.row
   exact⟨ao,cap,e⟩
  subst hshape
  clear hq H1
  by_cases h6:6<L.length
  ·have HS:Hid (s1=dv):=by show _=_;rw[←HE.out,if_pos h6]
   have h6i:(6:Int)<(L.length:Int):=by omega
   go_wp2_with fail
   refine(nk HQ.out.p).mono ?_
   rintro e W3 ⟨rfl,h3,g3⟩
   have H3:=hid (HQ.out.call h3 g3)
   clear h3 g3
   go_wp2_with fail
   refine bodyPost_ret (v:=.slice pa L.length pc) ?_ rfl ⟨_,rfl,H3.out.row,by rw[HS.out];exact H3.out.p,H3.out.grown⟩
   simp[results,Tryz.results220,go_sem]
  ·have HS:Hid (s1=a2):=by show _=_;rw[←HE.out,if_neg h6]
   have h6i:¬(6:Int)<(L.length:Int):=by omega
   go_wp2_with fail
   refine bodyPost_ret (v:=.slice pa L.length pc) ?_ rfl ⟨_,rfl,HQ.out.row,by rw[HS.out];exact HQ.out.p,HQ.out.grown⟩
   simp[results,Tryz.results220,go_sem]
theorem Fg {b G:Nat} {st s1:RS} {sep:ByteArray} {l:List bP} {W:World} (h:PI b G st W) (hl:st.rest.length≤2000) (hn:eO fR sep 6 st=(l,s1)):
  Calls Tryz.prog 99 #[.pointer (some ⟨b,0,none⟩),.string sep,.int .i64 6,.func (.func 100) #[.pointer (some ⟨b,0,none⟩)] #[]] W fun e W'=>∃v,e=.returned v∧W'.ownsRow W.heap.size 87 7 v l.length (eT l)∧PI b G s1 W'∧W.grownBy W' (some b):=by
 obtain⟨i1,hj,hy0,hy1,hy2⟩:=info_parts Tryz.Ed
 obtain⟨x0,a1,ha⟩:∃x0 az,fR st=(x0,az):=⟨_,_,rfl⟩
 obtain⟨L,a2,hL⟩:∃L az,bz fR sep a1.rest.length [x0] a1=(L,az):=⟨_,_,rfl⟩
 have e:(L,if 6<L.length then dv else a2)=(l,s1):=by rw[←hn];unfold eO;simp only[ha,hL]
 injection e with e1 e2
 subst e1
 have hl1:=Pure.lE st
 rw[ha] at hl1
 have HA:=hid ha
 have HL:=hid hL
 have HE:=hid e2
 have HH:=hid h
 have hgw:=h.xU.2
 have hbw:b<W.heap.size:=by obtain⟨_,_,hb,_⟩:=h.box;exact hb.lt
 clear h hn ha hL e2
 go_enter Tryz.func99,Tryz.ntmps99
 go_wp2_with fail
 refine(I6 HH.out HA.out).mono ?_
 rintro e W1 ⟨rfl,h1,g1⟩
 have hsz:=g1.size
 have H1:Hid (PL W b G a1 87 7 (.slice (some ⟨W1.heap.size,0,none⟩) 1 1) 1 (eT [x0]) (W1.alloc (.cells #[.int .i64 x0.op,.string x0.a.name,.string x0.a.key,.int .i64 x0.a.val,.string x0.b.name,.string x0.b.key,.int .i64 x0.b.val] 87))):=
  ⟨h1.quiet (ar W1 _ none),World.ownsRow_lit (size:=7) W1 #[.int .i64 x0.op,.string x0.a.name,.string x0.a.key,.int .i64 x0.a.val,.string x0.b.name,.string x0.b.key,.int .i64 x0.b.val] 1 hsz (by unfold maxLen;omega) rfl,aB g1 (ar W1 _ _),hgw,hbw⟩
 clear h1 g1 HH
 go_upto_block 0 with fail
 obtain⟨V,hV⟩:∃V,V=Value.slice (some ⟨W1.heap.size,0,none⟩) 1 1:=⟨_,rfl⟩
 rw[←hV] at H1⊢
 clear hV
 generalize W1.alloc (.cells #[.int .i64 x0.op,.string x0.a.name,.string x0.a.key,.int .i64 x0.a.val,.string x0.b.name,.string x0.b.key,.int .i64 x0.b.val] 87)=W2 at H1⊢
 clear hsz
 go_cut [9] (fun v w=>PL W b G a2 87 7 v L.length (eT L) w∧L.length+a2.rest.length≤2001)
 case first=>
  go_wp2_with fail
  go_loopg [9] (a1.rest.length+1) (fun m v w=>∃out s' n,PL W b G s' 87 7 v out.length (eT out) w∧bz fR sep n out s'=(L,a2)∧s'.rest.length≤n∧s'.rest.length+1≤m∧out.length+s'.rest.length≤2001)
  case atStart=>exact⟨[x0],a1,a1.rest.length,H1.out,HL.out,Nat.le_refl _,by omega,by simp;omega⟩
  case round=>
   obtain⟨out,s',n,hq,hlp,hsn,hsm,hos⟩:=hrel
   have HQ:=hid hq
   have HLP:=hid hlp
   clear hq hlp H1 HL
   cases hm:aE sep s' with
   | false=>
    have HM:=hid hm
    clear hm
    go_wp2_with fail
    refine(aL HQ.out.p sep false HM.out).mono ?_
    rintro e W3 ⟨rfl,h3,g3⟩
    rw[show ag sep s'=s' by unfold ag;rw[HM.out];rfl] at h3
    have H3:=hid (HQ.out.call h3 g3)
    clear h3 g3 HQ
    go_wp2_with fail
    go_meet
    case rel=>
     have e:=HLP.out
     rw[mF HM.out] at e
     injection e with e1 e2
     subst e1;subst e2
     exact⟨H3.out,hos⟩
   | true=>
    have HM:=hid hm
    have hless:=gL hm
    obtain⟨x,s2,hx⟩:∃x az,fR (ag sep s')=(x,az):=⟨_,_,rfl⟩
    have hxl:=Pure.lE (ag sep s')
    rw[hx] at hxl
    have HX:=hid hx
    obtain⟨n2,hn2⟩:∃n2,n=n2+1:=⟨n - 1,by omega⟩
    subst hn2
    clear hm hx
    go_wp2_with fail
    refine(aL HQ.out.p sep true HM.out).mono ?_
    rintro e W3 ⟨rfl,h3,g3⟩
    have H3:=hid (HQ.out.call h3 g3)
    clear h3 g3 HQ
    go_wp2_with fail
    refine(I6 H3.out.p HX.out).mono ?_
    rintro e W4 ⟨rfl,h4,g4⟩
    have H4:=hid (H3.out.call h4 g4)
    clear h4 g4 H3
    have HD:=hid (H4.out.quiet (ar W4 (.cells #[.int .i64 x.op,.string x.a.name,.string x.a.key,.int .i64 x.a.val,.string x.b.name,.string x.b.key,.int .i64 x.b.val] 87) none))
    obtain⟨pa,pc,hshape⟩:∃ao cap,u9=.slice ao out.length cap:=by
     obtain⟨ao,cap,e,_⟩:=aU (l:=out) HD.out.row
     exact⟨ao,cap,e⟩
    subst hshape
    clear H4
    go_wp2_with (at_builtin;go_must (refine wpList_append_lies _ rfl _ _ 23 rfl W.heap.size 87 i1 (.agg #[.int .i64 0,.string ⟨#[]⟩,.string ⟨#[]⟩,.int .i64 0,.string ⟨#[]⟩,.string ⟨#[]⟩,.int .i64 0]) 7 88 Tryz.underlying23 hj hy0 hy1 hy2 rfl (by decide) (.slice pa out.length pc) _ _ rfl HD.out.row _ 1 1 [.int .i64 x.op,.string x.a.name,.string x.a.key,.int .i64 x.a.val,.string x.b.name,.string x.b.key,.int .i64 x.b.val] rfl rfl (World.news_of_block (heap_alloc_new W4 _)) DQ (by omega) (by unfold maxLen;omega) (by omega) HD.out.grown.size _ rfl ?_;intro g2 cap2 w5 hown hgrow _ _;have H5:=hid (HD.out.more hgrow hown);clear hown hgrow))
    go_roundg (gk - 1)
    case measure=>omega
    case rel=>
     refine⟨out++[x],s2,n2,?_,?_,by omega,by omega,by rw[List.length_append];simp;omega⟩
     ·rw[sP,List.length_append];exact H5.out
     ·rw[←HLP.out,k7 HM.out HX.out]
 case rest=>
  obtain⟨hq,hos⟩:=hcut
  have HQ:=hid hq
  obtain⟨pa,pc,hshape⟩:∃ao cap,u9=.slice ao L.length cap:=by
   obtain⟨ao,cap,e,_⟩:=aU (l:=L) hq.row
   exact⟨ao,cap,e⟩
  subst hshape
  clear hq H1
  by_cases h6:6<L.length
  ·have HS:Hid (s1=dv):=by show _=_;rw[←HE.out,if_pos h6]
   have h6i:(6:Int)<(L.length:Int):=by omega
   go_wp2_with fail
   refine(nk HQ.out.p).mono ?_
   rintro e W3 ⟨rfl,h3,g3⟩
   have H3:=hid (HQ.out.call h3 g3)
   clear h3 g3
   go_wp2_with fail
   refine bodyPost_ret (v:=.slice pa L.length pc) ?_ rfl ⟨_,rfl,H3.out.row,by rw[HS.out];exact H3.out.p,H3.out.grown⟩
   simp[results,Tryz.results99,go_sem]
  ·have HS:Hid (s1=a2):=by show _=_;rw[←HE.out,if_neg h6]
   have h6i:¬(6:Int)<(L.length:Int):=by omega
   go_wp2_with fail
   refine bodyPost_ret (v:=.slice pa L.length pc) ?_ rfl ⟨_,rfl,HQ.out.row,by rw[HS.out];exact HQ.out.p,HQ.out.grown⟩
   simp[results,Tryz.results99,go_sem]
end
end Go.Proofs.YtobgbmfpicmpcaaGreatDoor
