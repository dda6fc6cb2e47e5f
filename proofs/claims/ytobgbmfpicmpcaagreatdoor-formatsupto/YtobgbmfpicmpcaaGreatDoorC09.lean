/- The program's parser: spots, comparisons. -/
import Derived.Test.YtobgbmfpicmpcaaGreatDoorC08
import Derived.Test.YtobgbmfpicmpcaaGreatDoorC07
import Derived.Deep.CutBlock
import Derived.Deep.DeepCutAuto
import Derived.Deep.RegionWith
namespace Go.Proofs.YtobgbmfpicmpcaaGreatDoor
open Go.RowKit
theorem PXY.start {W:World} {b G:Nat} {st:RS} (h:PI b G st W) (cx:Array Value) (T:TypeId) (cy:Array Value) (T':TypeId):PXY W b G st (W.heap.size+1) cx T W.heap.size cy T' ((W.alloc (.cells cy T')).alloc (.cells cx T)):=by
 have g1:=grown_alloc W (.cells cy T') none
 have s1:(W.alloc (.cells cy T')).heap.size=W.heap.size+1:=by simp
 have l1:=Loc.new W cy T'
 have k1:=grown_alloc W (.cells cy T') (some b)
 have n0:=h.ne (Nat.le_refl W.heap.size)
 have n1:=h.ne (show W.heap.size≤W.heap.size+1 by omega)
 generalize W.alloc (.cells cy T')=W1 at g1 s1 l1 k1⊢
 have g2:=grown_alloc W1 (.cells cx T) none
 have k2:=grown_alloc W1 (.cells cx T) (some b)
 have l2:=Loc.new W1 cx T
 rw[s1] at l2
 exact⟨⟨(h.quiet g1).quiet g2,l2,by omega,fun e=>n1.1 e.symm,fun e=>n1.2 e.symm,grown_trans k1 k2⟩,l1.grown g2 (by simp),Nat.le_refl _,fun e=>n0.1 e.symm,fun e=>n0.2 e.symm,by omega⟩
set_option maxRecDepth 100000 in
set_option maxHeartbeats 2000000 in
theorem spot_ {b G:Nat} {st s1:RS} {q r:PSpot} {W:World} (h:PI b G st W) (hn:spotP q st=(r,s1)):
  Calls Tryz.prog 161 #[.pointer (some ⟨b,0,none⟩),.agg #[.string q.name,.string q.label,.string q.type,.int .i64 q.least,.int .i64 q.most]] W fun e W'=>e=.returned (.agg #[.string r.name,.string r.label,.string r.type,.int .i64 r.least,.int .i64 r.most])∧PI b G s1 W'∧W.grownBy W' (some b):=by
 have H0:=Lib.hid (PXY.start h #[.string ⟨#[]⟩,.string ⟨#[]⟩,.string ⟨#[]⟩,.int .i64 0,.int .i64 0] 85 #[.string q.name,.string q.label,.string q.type,.int .i64 q.least,.int .i64 q.most] 85)
 obtain⟨n',a1,ha⟩:∃n' az,nameP (expectP mOpen st)=(n',az):=⟨_,_,rfl⟩
 have HA:=Lib.hid ha
 cases hm:peekP mColon a1 with
 | false=>
  have e:((⟨n',q.label,q.type,q.least,q.most⟩:PSpot),expectP mClose a1)=(r,s1):=by rw[←hn];unfold spotP;simp only[ha,hm];rfl
  injection e with e1 e3
  subst e1;subst e3
  have HM:=Lib.hid hm
  clear h hn hm ha
  go_enter Tryz.func161,Tryz.ntmps161
  go_wp2_with fail
  obtain⟨X,hX⟩:∃X,X=W.heap.size+1:=⟨_,rfl⟩
  obtain⟨Y,hY⟩:∃Y,Y=W.heap.size:=⟨_,rfl⟩
  rw[←hX,←hY] at H0⊢
  clear hX hY
  generalize (W.alloc (.cells #[.string q.name,.string q.label,.string q.type,.int .i64 q.least,.int .i64 q.most] 85)).alloc (.cells #[.string ⟨#[]⟩,.string ⟨#[]⟩,.string ⟨#[]⟩,.int .i64 0,.int .i64 0] 85)=W0' at H0⊢
  refine(expect_ H0.out.q.p mOpen).mono ?_
  rintro e W1 ⟨rfl,h,g⟩
  have H1:=Lib.hid (H0.out.call h g)
  clear h g H0
  go_wp2_with fail
  refine(name_ H1.out.q.p HA.out).mono ?_
  rintro e W2 ⟨rfl,h,g⟩
  have H2:=Lib.hid (H1.out.call h g)
  clear h g H1
  have c0:=H2.out.ly.at_ 0 (.string q.name) rfl
  have f0:W2.frozen? ⟨Y,0,none⟩=false:=H2.out.ly.free 0
  have H3:=Lib.hid (H2.out.setY 0 (.string n'))
  clear H2
  go_wp2_with fail
  generalize (W2.setCell ⟨Y,0,none⟩ (.string n'))=W3 at H3⊢;clear c0 f0
  refine(accept_ H3.out.q.p mColon false HM.out).mono ?_
  rintro e W4 ⟨rfl,h,g⟩
  have H4:=Lib.hid (H3.out.call h g)
  clear h g H3
  rw[show acceptP mColon a1=a1 by unfold acceptP;rw[HM.out];rfl] at H4
  go_wp2_with fail
  refine(expect_ H4.out.q.p mClose).mono ?_
  rintro e W5 ⟨rfl,h,g⟩
  have H5:=Lib.hid (H4.out.call h g)
  clear h g H4
  have x0:=H5.out.q.lx.at_ 0 (.string ⟨#[]⟩) rfl
  have g0:W5.frozen? ⟨X,0,none⟩=false:=H5.out.q.lx.free 0
  have x1:=H5.out.q.lx.at_ 1 (.string ⟨#[]⟩) rfl
  have g1:W5.frozen? ⟨X,1,none⟩=false:=H5.out.q.lx.free 1
  have x2:=H5.out.q.lx.at_ 2 (.string ⟨#[]⟩) rfl
  have g2:W5.frozen? ⟨X,2,none⟩=false:=H5.out.q.lx.free 2
  have x3:=H5.out.q.lx.at_ 3 (.int .i64 0) rfl
  have g3:W5.frozen? ⟨X,3,none⟩=false:=H5.out.q.lx.free 3
  have x4:=H5.out.q.lx.at_ 4 (.int .i64 0) rfl
  have g4:W5.frozen? ⟨X,4,none⟩=false:=H5.out.q.lx.free 4
  have y0:=H5.out.ly.at_ 0 (.string n') rfl
  have y1:=H5.out.ly.at_ 1 (.string q.label) rfl
  have y2:=H5.out.ly.at_ 2 (.string q.type) rfl
  have y3:=H5.out.ly.at_ 3 (.int .i64 q.least) rfl
  have y4:=H5.out.ly.at_ 4 (.int .i64 q.most) rfl
  go_wp2_with fail
  have hF:=(((((H5.out.setX 0 (.string n')).setX 1 (.string q.label)).setX 2 (.string q.type)).setX 3 (.int .i64 q.least)).setX 4 (.int .i64 q.most)).q
  generalize (((((W5.setCell ⟨X,0,none⟩ (.string n')).setCell ⟨X,1,none⟩ (.string q.label)).setCell ⟨X,2,none⟩ (.string q.type)).setCell ⟨X,3,none⟩ (.int .i64 q.least)).setCell ⟨X,4,none⟩ (.int .i64 q.most))=WF at hF⊢
  refine bodyPost_ret (v:=.agg #[.string n',.string q.label,.string q.type,.int .i64 q.least,.int .i64 q.most]) ?_ rfl ⟨rfl,hF.p,hF.grown⟩
  have r0:=hF.lx.cell 0
  have r1:=hF.lx.cell 1
  have r2:=hF.lx.cell 2
  have r3:=hF.lx.cell 3
  have r4:=hF.lx.cell 4
  simp at r0 r1 r2 r3 r4
  simp[results,Tryz.results161,go_sem,r0,r1,r2,r3,r4]
 | true=>
  obtain⟨l',a2,hk⟩:∃k' az,titleP (acceptP mColon a1)=(k',az):=⟨_,_,rfl⟩
  have e:((⟨n',l',q.type,q.least,q.most⟩:PSpot),expectP mClose a2)=(r,s1):=by rw[←hn];unfold spotP;simp only[ha,hm,hk];rfl
  injection e with e1 e3
  subst e1;subst e3
  have HM:=Lib.hid hm
  have HK:=Lib.hid hk
  clear h hn hm ha hk
  go_enter Tryz.func161,Tryz.ntmps161
  go_wp2_with fail
  obtain⟨X,hX⟩:∃X,X=W.heap.size+1:=⟨_,rfl⟩
  obtain⟨Y,hY⟩:∃Y,Y=W.heap.size:=⟨_,rfl⟩
  rw[←hX,←hY] at H0⊢
  clear hX hY
  generalize (W.alloc (.cells #[.string q.name,.string q.label,.string q.type,.int .i64 q.least,.int .i64 q.most] 85)).alloc (.cells #[.string ⟨#[]⟩,.string ⟨#[]⟩,.string ⟨#[]⟩,.int .i64 0,.int .i64 0] 85)=W0' at H0⊢
  refine(expect_ H0.out.q.p mOpen).mono ?_
  rintro e W1 ⟨rfl,h,g⟩
  have H1:=Lib.hid (H0.out.call h g)
  clear h g H0
  go_wp2_with fail
  refine(name_ H1.out.q.p HA.out).mono ?_
  rintro e W2 ⟨rfl,h,g⟩
  have H2:=Lib.hid (H1.out.call h g)
  clear h g H1
  have c0:=H2.out.ly.at_ 0 (.string q.name) rfl
  have f0:W2.frozen? ⟨Y,0,none⟩=false:=H2.out.ly.free 0
  have H3:=Lib.hid (H2.out.setY 0 (.string n'))
  clear H2
  go_wp2_with fail
  generalize (W2.setCell ⟨Y,0,none⟩ (.string n'))=W3 at H3⊢;clear c0 f0
  refine(accept_ H3.out.q.p mColon true HM.out).mono ?_
  rintro e W4 ⟨rfl,h,g⟩
  have H4:=Lib.hid (H3.out.call h g)
  clear h g H3
  go_wp2_with fail
  refine(title_ H4.out.q.p HK.out).mono ?_
  rintro e W5 ⟨rfl,h,g⟩
  have H5:=Lib.hid (H4.out.call h g)
  clear h g H4
  have c1:=H5.out.ly.at_ 1 (.string q.label) rfl
  have f1:W5.frozen? ⟨Y,1,none⟩=false:=H5.out.ly.free 1
  have H6:=Lib.hid (H5.out.setY 1 (.string l'))
  clear H5
  go_wp2_with fail
  generalize (W5.setCell ⟨Y,1,none⟩ (.string l'))=W6 at H6⊢;clear c1 f1
  refine(expect_ H6.out.q.p mClose).mono ?_
  rintro e W7 ⟨rfl,h,g⟩
  have H7:=Lib.hid (H6.out.call h g)
  clear h g H6
  have x0:=H7.out.q.lx.at_ 0 (.string ⟨#[]⟩) rfl
  have g0:W7.frozen? ⟨X,0,none⟩=false:=H7.out.q.lx.free 0
  have x1:=H7.out.q.lx.at_ 1 (.string ⟨#[]⟩) rfl
  have g1:W7.frozen? ⟨X,1,none⟩=false:=H7.out.q.lx.free 1
  have x2:=H7.out.q.lx.at_ 2 (.string ⟨#[]⟩) rfl
  have g2:W7.frozen? ⟨X,2,none⟩=false:=H7.out.q.lx.free 2
  have x3:=H7.out.q.lx.at_ 3 (.int .i64 0) rfl
  have g3:W7.frozen? ⟨X,3,none⟩=false:=H7.out.q.lx.free 3
  have x4:=H7.out.q.lx.at_ 4 (.int .i64 0) rfl
  have g4:W7.frozen? ⟨X,4,none⟩=false:=H7.out.q.lx.free 4
  have y0:=H7.out.ly.at_ 0 (.string n') rfl
  have y1:=H7.out.ly.at_ 1 (.string l') rfl
  have y2:=H7.out.ly.at_ 2 (.string q.type) rfl
  have y3:=H7.out.ly.at_ 3 (.int .i64 q.least) rfl
  have y4:=H7.out.ly.at_ 4 (.int .i64 q.most) rfl
  go_wp2_with fail
  have hF:=(((((H7.out.setX 0 (.string n')).setX 1 (.string l')).setX 2 (.string q.type)).setX 3 (.int .i64 q.least)).setX 4 (.int .i64 q.most)).q
  generalize (((((W7.setCell ⟨X,0,none⟩ (.string n')).setCell ⟨X,1,none⟩ (.string l')).setCell ⟨X,2,none⟩ (.string q.type)).setCell ⟨X,3,none⟩ (.int .i64 q.least)).setCell ⟨X,4,none⟩ (.int .i64 q.most))=WF at hF⊢
  refine bodyPost_ret (v:=.agg #[.string n',.string l',.string q.type,.int .i64 q.least,.int .i64 q.most]) ?_ rfl ⟨rfl,hF.p,hF.grown⟩
  have r0:=hF.lx.cell 0
  have r1:=hF.lx.cell 1
  have r2:=hF.lx.cell 2
  have r3:=hF.lx.cell 3
  have r4:=hF.lx.cell 4
  simp at r0 r1 r2 r3 r4
  simp[results,Tryz.results161,go_sem,r0,r1,r2,r3,r4]
set_option maxRecDepth 100000 in
set_option maxHeartbeats 2000000 in
theorem markOf1 (w:World):Calls Tryz.prog 219 #[.int .i64 1] w fun e w'=>e=.returned (.string ⟨#[61]⟩)∧w'=w:=by
 go_enter Tryz.func219,Tryz.ntmps219
 go_wp2_with fail
 go_ret
 exact⟨rfl,rfl⟩
set_option maxRecDepth 100000 in
set_option maxHeartbeats 2000000 in
theorem markOf2 (w:World):Calls Tryz.prog 219 #[.int .i64 2] w fun e w'=>e=.returned (.string ⟨#[60,62]⟩)∧w'=w:=by
 go_enter Tryz.func219,Tryz.ntmps219
 go_wp2_with fail
 go_ret
 exact⟨rfl,rfl⟩
set_option maxRecDepth 100000 in
set_option maxHeartbeats 2000000 in
theorem markOf3 (w:World):Calls Tryz.prog 219 #[.int .i64 3] w fun e w'=>e=.returned (.string ⟨#[60]⟩)∧w'=w:=by
 go_enter Tryz.func219,Tryz.ntmps219
 go_wp2_with fail
 go_ret
 exact⟨rfl,rfl⟩
set_option maxRecDepth 100000 in
set_option maxHeartbeats 2000000 in
theorem markOf4 (w:World):Calls Tryz.prog 219 #[.int .i64 4] w fun e w'=>e=.returned (.string ⟨#[60,61]⟩)∧w'=w:=by
 go_enter Tryz.func219,Tryz.ntmps219
 go_wp2_with fail
 go_ret
 exact⟨rfl,rfl⟩
set_option maxRecDepth 100000 in
set_option maxHeartbeats 2000000 in
theorem markOf5 (w:World):Calls Tryz.prog 219 #[.int .i64 5] w fun e w'=>e=.returned (.string ⟨#[62]⟩)∧w'=w:=by
 go_enter Tryz.func219,Tryz.ntmps219
 go_wp2_with fail
 go_ret
 exact⟨rfl,rfl⟩
set_option maxRecDepth 100000 in
set_option maxHeartbeats 2000000 in
theorem markOf6 (w:World):Calls Tryz.prog 219 #[.int .i64 6] w fun e w'=>e=.returned (.string ⟨#[62,61]⟩)∧w'=w:=by
 go_enter Tryz.func219,Tryz.ntmps219
 go_wp2_with fail
 go_ret
 exact⟨rfl,rfl⟩
def cmpP (k:Nat) (st:RS):Int × RS:=opLoopP (opsR.drop (k - 1)) k st
set_option maxRecDepth 100000 in
set_option maxHeartbeats 2000000 in
theorem comparison_ {b G:Nat} {st s1:RS} {n:Int} {W:World} (h:PI b G st W) (hn:opLoopP opsR 1 st=(n,s1)):
  Calls Tryz.prog 164 #[.pointer (some ⟨b,0,none⟩)] W fun e W'=>e=.returned (.int .i64 n)∧PI b G s1 W'∧W.grownBy W' (some b):=by
 have HH:=Lib.hid h
 have HN:Hid (cmpP 1 st=(n,s1)):=hn
 clear h hn
 go_enter Tryz.func164,Tryz.ntmps164
 go_wp2_with fail
 go_loopg [3] 6 (fun m iv w=>∃k:Nat,iv=.int .i64 (k:Int)∧k+m=7∧1≤k∧PI b G st w∧W.grownBy w (some b)∧cmpP k st=(n,s1))
 case atStart=>exact⟨1,rfl,rfl,by omega,HH.out,grown_refl _ _,HN.out⟩
 case round=>
  obtain⟨k,rfl,hk,hk1,hp,hg,hc⟩:=hrel
  have HP:=Lib.hid hp
  have HG:=Lib.hid hg
  clear HH HN hp hg
  have hkk:k=1∨k=2∨k=3∨k=4∨k=5∨k=6∨k=7:=by omega
  rcases hkk with rfl|rfl|rfl|rfl|rfl|rfl|rfl
  ·cases hm:peekP mEq st with
   | true=>
    have e:((1:Int),acceptP mEq st)=(n,s1):=by rw[←hc];show _=(if peekP mEq st then _ else _);rw[hm];rfl
    injection e with e1 e2
    subst e1;subst e2
    have HM:=Lib.hid hm
    clear hm hc
    go_wp2_with (go_at_call 219;refine(markOf1 _).mono ?_;rintro e w' ⟨rfl,rfl⟩)
    refine(accept_ HP.out mEq true HM.out).mono ?_
    rintro e W2 ⟨rfl,h2,g2⟩
    have H2:=Lib.hid h2
    have G2:=Lib.hid (grown_trans HG.out g2)
    clear h2 g2
    go_wp2_with fail
    refine bodyPost_ret (v:=.int .i64 1) ?_ rfl ⟨rfl,H2.out,G2.out⟩
    simp[results,Tryz.results164,go_sem]
   | false=>
    have hc2:cmpP 2 st=(n,s1):=by rw[←hc];show _=(if peekP mEq st then _ else _);rw[hm];rfl
    have HM:=Lib.hid hm
    have HC:=Lib.hid hc2
    clear hm hc hc2
    go_wp2_with (go_at_call 219;refine(markOf1 _).mono ?_;rintro e w' ⟨rfl,rfl⟩)
    refine(accept_ HP.out mEq false HM.out).mono ?_
    rintro e W2 ⟨rfl,h2,g2⟩
    rw[show acceptP mEq st=st by unfold acceptP;rw[HM.out];rfl] at h2
    have H2:=Lib.hid h2
    have G2:=Lib.hid (grown_trans HG.out g2)
    clear h2 g2
    go_wp2_with fail
    go_roundg (gk - 1)
    case measure=>omega
    case rel=>exact⟨2,by simp,by omega,by omega,H2.out,G2.out,HC.out⟩
  ·cases hm:peekP mNe st with
   | true=>
    have e:((2:Int),acceptP mNe st)=(n,s1):=by rw[←hc];show _=(if peekP mNe st then _ else _);rw[hm];rfl
    injection e with e1 e2
    subst e1;subst e2
    have HM:=Lib.hid hm
    clear hm hc
    go_wp2_with (go_at_call 219;refine(markOf2 _).mono ?_;rintro e w' ⟨rfl,rfl⟩)
    refine(accept_ HP.out mNe true HM.out).mono ?_
    rintro e W2 ⟨rfl,h2,g2⟩
    have H2:=Lib.hid h2
    have G2:=Lib.hid (grown_trans HG.out g2)
    clear h2 g2
    go_wp2_with fail
    refine bodyPost_ret (v:=.int .i64 2) ?_ rfl ⟨rfl,H2.out,G2.out⟩
    simp[results,Tryz.results164,go_sem]
   | false=>
    have hc2:cmpP 3 st=(n,s1):=by rw[←hc];show _=(if peekP mNe st then _ else _);rw[hm];rfl
    have HM:=Lib.hid hm
    have HC:=Lib.hid hc2
    clear hm hc hc2
    go_wp2_with (go_at_call 219;refine(markOf2 _).mono ?_;rintro e w' ⟨rfl,rfl⟩)
    refine(accept_ HP.out mNe false HM.out).mono ?_
    rintro e W2 ⟨rfl,h2,g2⟩
    rw[show acceptP mNe st=st by unfold acceptP;rw[HM.out];rfl] at h2
    have H2:=Lib.hid h2
    have G2:=Lib.hid (grown_trans HG.out g2)
    clear h2 g2
    go_wp2_with fail
    go_roundg (gk - 1)
    case measure=>omega
    case rel=>exact⟨3,by simp,by omega,by omega,H2.out,G2.out,HC.out⟩
  ·cases hm:peekP mLt st with
   | true=>
    have e:((3:Int),acceptP mLt st)=(n,s1):=by rw[←hc];show _=(if peekP mLt st then _ else _);rw[hm];rfl
    injection e with e1 e2
    subst e1;subst e2
    have HM:=Lib.hid hm
    clear hm hc
    go_wp2_with (go_at_call 219;refine(markOf3 _).mono ?_;rintro e w' ⟨rfl,rfl⟩)
    refine(accept_ HP.out mLt true HM.out).mono ?_
    rintro e W2 ⟨rfl,h2,g2⟩
    have H2:=Lib.hid h2
    have G2:=Lib.hid (grown_trans HG.out g2)
    clear h2 g2
    go_wp2_with fail
    refine bodyPost_ret (v:=.int .i64 3) ?_ rfl ⟨rfl,H2.out,G2.out⟩
    simp[results,Tryz.results164,go_sem]
   | false=>
    have hc2:cmpP 4 st=(n,s1):=by rw[←hc];show _=(if peekP mLt st then _ else _);rw[hm];rfl
    have HM:=Lib.hid hm
    have HC:=Lib.hid hc2
    clear hm hc hc2
    go_wp2_with (go_at_call 219;refine(markOf3 _).mono ?_;rintro e w' ⟨rfl,rfl⟩)
    refine(accept_ HP.out mLt false HM.out).mono ?_
    rintro e W2 ⟨rfl,h2,g2⟩
    rw[show acceptP mLt st=st by unfold acceptP;rw[HM.out];rfl] at h2
    have H2:=Lib.hid h2
    have G2:=Lib.hid (grown_trans HG.out g2)
    clear h2 g2
    go_wp2_with fail
    go_roundg (gk - 1)
    case measure=>omega
    case rel=>exact⟨4,by simp,by omega,by omega,H2.out,G2.out,HC.out⟩
  ·cases hm:peekP mLe st with
   | true=>
    have e:((4:Int),acceptP mLe st)=(n,s1):=by rw[←hc];show _=(if peekP mLe st then _ else _);rw[hm];rfl
    injection e with e1 e2
    subst e1;subst e2
    have HM:=Lib.hid hm
    clear hm hc
    go_wp2_with (go_at_call 219;refine(markOf4 _).mono ?_;rintro e w' ⟨rfl,rfl⟩)
    refine(accept_ HP.out mLe true HM.out).mono ?_
    rintro e W2 ⟨rfl,h2,g2⟩
    have H2:=Lib.hid h2
    have G2:=Lib.hid (grown_trans HG.out g2)
    clear h2 g2
    go_wp2_with fail
    refine bodyPost_ret (v:=.int .i64 4) ?_ rfl ⟨rfl,H2.out,G2.out⟩
    simp[results,Tryz.results164,go_sem]
   | false=>
    have hc2:cmpP 5 st=(n,s1):=by rw[←hc];show _=(if peekP mLe st then _ else _);rw[hm];rfl
    have HM:=Lib.hid hm
    have HC:=Lib.hid hc2
    clear hm hc hc2
    go_wp2_with (go_at_call 219;refine(markOf4 _).mono ?_;rintro e w' ⟨rfl,rfl⟩)
    refine(accept_ HP.out mLe false HM.out).mono ?_
    rintro e W2 ⟨rfl,h2,g2⟩
    rw[show acceptP mLe st=st by unfold acceptP;rw[HM.out];rfl] at h2
    have H2:=Lib.hid h2
    have G2:=Lib.hid (grown_trans HG.out g2)
    clear h2 g2
    go_wp2_with fail
    go_roundg (gk - 1)
    case measure=>omega
    case rel=>exact⟨5,by simp,by omega,by omega,H2.out,G2.out,HC.out⟩
  ·cases hm:peekP mGt st with
   | true=>
    have e:((5:Int),acceptP mGt st)=(n,s1):=by rw[←hc];show _=(if peekP mGt st then _ else _);rw[hm];rfl
    injection e with e1 e2
    subst e1;subst e2
    have HM:=Lib.hid hm
    clear hm hc
    go_wp2_with (go_at_call 219;refine(markOf5 _).mono ?_;rintro e w' ⟨rfl,rfl⟩)
    refine(accept_ HP.out mGt true HM.out).mono ?_
    rintro e W2 ⟨rfl,h2,g2⟩
    have H2:=Lib.hid h2
    have G2:=Lib.hid (grown_trans HG.out g2)
    clear h2 g2
    go_wp2_with fail
    refine bodyPost_ret (v:=.int .i64 5) ?_ rfl ⟨rfl,H2.out,G2.out⟩
    simp[results,Tryz.results164,go_sem]
   | false=>
    have hc2:cmpP 6 st=(n,s1):=by rw[←hc];show _=(if peekP mGt st then _ else _);rw[hm];rfl
    have HM:=Lib.hid hm
    have HC:=Lib.hid hc2
    clear hm hc hc2
    go_wp2_with (go_at_call 219;refine(markOf5 _).mono ?_;rintro e w' ⟨rfl,rfl⟩)
    refine(accept_ HP.out mGt false HM.out).mono ?_
    rintro e W2 ⟨rfl,h2,g2⟩
    rw[show acceptP mGt st=st by unfold acceptP;rw[HM.out];rfl] at h2
    have H2:=Lib.hid h2
    have G2:=Lib.hid (grown_trans HG.out g2)
    clear h2 g2
    go_wp2_with fail
    go_roundg (gk - 1)
    case measure=>omega
    case rel=>exact⟨6,by simp,by omega,by omega,H2.out,G2.out,HC.out⟩
  ·cases hm:peekP mGe st with
   | true=>
    have e:((6:Int),acceptP mGe st)=(n,s1):=by rw[←hc];show _=(if peekP mGe st then _ else _);rw[hm];rfl
    injection e with e1 e2
    subst e1;subst e2
    have HM:=Lib.hid hm
    clear hm hc
    go_wp2_with (go_at_call 219;refine(markOf6 _).mono ?_;rintro e w' ⟨rfl,rfl⟩)
    refine(accept_ HP.out mGe true HM.out).mono ?_
    rintro e W2 ⟨rfl,h2,g2⟩
    have H2:=Lib.hid h2
    have G2:=Lib.hid (grown_trans HG.out g2)
    clear h2 g2
    go_wp2_with fail
    refine bodyPost_ret (v:=.int .i64 6) ?_ rfl ⟨rfl,H2.out,G2.out⟩
    simp[results,Tryz.results164,go_sem]
   | false=>
    have hc2:cmpP 7 st=(n,s1):=by rw[←hc];show _=(if peekP mGe st then _ else _);rw[hm];rfl
    have HM:=Lib.hid hm
    have HC:=Lib.hid hc2
    clear hm hc hc2
    go_wp2_with (go_at_call 219;refine(markOf6 _).mono ?_;rintro e w' ⟨rfl,rfl⟩)
    refine(accept_ HP.out mGe false HM.out).mono ?_
    rintro e W2 ⟨rfl,h2,g2⟩
    rw[show acceptP mGe st=st by unfold acceptP;rw[HM.out];rfl] at h2
    have H2:=Lib.hid h2
    have G2:=Lib.hid (grown_trans HG.out g2)
    clear h2 g2
    go_wp2_with fail
    go_roundg (gk - 1)
    case measure=>omega
    case rel=>exact⟨7,by simp,by omega,by omega,H2.out,G2.out,HC.out⟩
  ·have e:((0:Int),failP)=(n,s1):=hc
   injection e with e1 e2
   subst e1;subst e2
   clear hc
   go_wp2_with fail
   refine(fail_ HP.out).mono ?_
   rintro e W2 ⟨rfl,h2,g2⟩
   have H2:=Lib.hid h2
   have G2:=Lib.hid (grown_trans HG.out g2)
   clear h2 g2
   go_wp2_with fail
   refine bodyPost_ret (v:=.int .i64 0) ?_ rfl ⟨rfl,H2.out,G2.out⟩
   simp[results,Tryz.results164,go_sem]
end Go.Proofs.YtobgbmfpicmpcaaGreatDoor

/- The program's writer: terms, steps, spots, conditions, items. -/
namespace Go.Proofs.YtobgbmfpicmpcaaGreatDoor
open Go.RowKit
set_option maxRecDepth 100000 in
set_option maxHeartbeats 400000 in
theorem markOfNo (op:Int) (w:World) (h1:(op==1)=false) (h2:(op==2)=false) (h3:(op==3)=false) (h4:(op==4)=false) (h5:(op==5)=false) (h6:(op==6)=false):Calls Tryz.prog 219 #[.int .i64 op] w fun e w'=>e=.returned (.string ⟨#[]⟩)∧w'=w:=by
 go_enter Tryz.func219,Tryz.ntmps219
 go_wp2_with fail
 go_ret
 exact⟨rfl,rfl⟩
theorem markOf_ (op:Int) (w:World):Calls Tryz.prog 219 #[.int .i64 op] w fun e w'=>e=.returned (.string (markW op))∧w'=w:=by
 by_cases h1:op=1
 ·subst h1;exact markOf1 w
 by_cases h2:op=2
 ·subst h2;exact markOf2 w
 by_cases h3:op=3
 ·subst h3;exact markOf3 w
 by_cases h4:op=4
 ·subst h4;exact markOf4 w
 by_cases h5:op=5
 ·subst h5;exact markOf5 w
 by_cases h6:op=6
 ·subst h6;exact markOf6 w
 have e:markW op=⟨#[]⟩:=by unfold markW;rw[if_neg h1,if_neg h2,if_neg h3,if_neg h4,if_neg h5,if_neg h6];rfl
 rw[e]
 exact markOfNo op w (by simpa using h1) (by simpa using h2) (by simpa using h3) (by simpa using h4) (by simpa using h5) (by simpa using h6)
set_option maxRecDepth 100000 in
set_option maxHeartbeats 4000000 in
theorem wterm {W0 W:World} {b:Nat} {ws:List ByteArray} {t:PTerm} (h:WI W0 b ws W) (ht:Tab W0) (hv:I64 t.val) (hl:ws.length≤2900):
  Calls Tryz.prog 108 #[.pointer (some ⟨b,0,none⟩),.agg #[.string t.name,.string t.key,.int .i64 t.val]] W fun e W'=>e=.returned (.tuple #[])∧WI W0 b (ws++termW t) W'∧FrW W W':=by
 have HV:=Lib.hid hv
 clear hv
 cases hn:t.name.toList.isEmpty with
 | true=>
  have HE:Hid (termW t=[decB t.val]):=by show _=_;unfold termW;rw[if_pos hn]
  have HI0:=Lib.hid (h.alloc (.cells #[.string t.name,.string t.key,.int .i64 t.val] 26))
  have HX0:=Lib.hid (Loc.new W #[.string t.name,.string t.key,.int .i64 t.val] 26)
  have F0:Hid (FrW W (W.alloc (.cells #[.string t.name,.string t.key,.int .i64 t.val] 26))):=(FrW.refl W).alloc _
  clear h
  go_enter Tryz.func108,Tryz.ntmps108
  go_upto_region 1 with fail
  obtain⟨X,hX⟩:∃X,X=W.heap.size:=⟨_,rfl⟩
  rw[←hX] at HX0⊢
  clear hX
  generalize W.alloc (.cells #[.string t.name,.string t.key,.int .i64 t.val] 26)=W0_ at HI0 HX0 F0⊢
  have c0_0:=HX0.out.at_ 0 (.string t.name) rfl
  have c0_2:=HX0.out.at_ 2 (.int .i64 t.val) rfl
  go_wp2_with fail
  refine(itoa_ HV.out (HI0.out.tab ht)).mono ?_
  rintro e W1_ ⟨rfl,hb⟩
  have HI1:=Lib.hid (HI0.out.later hb)
  have HX1:=Lib.hid (HX0.out.grown (grown_below hb none) (by simp))
  have F1:=Lib.hid (F0.out.later hb)
  clear c0_0 c0_2
  clear hb HI0 HX0 F0
  have HA:=Lib.hid (HI1.out.alloc (.cells #[.string (decB t.val)] 9))
  have HG:=Lib.hid (Loc.new W1_ #[.string (decB t.val)] 9)
  go_wp2_with fail
  refine(add_ (m:=1) (new:=[(decB t.val)]) HA.out HG.out rfl rfl (by omega) (by simp;omega)).mono ?_
  rintro e W2_ ⟨rfl,h1,f1⟩
  have HI2:=Lib.hid h1
  have HX2:=Lib.hid (f1 X _ _ (HX1.out.alloc _) (by decide) (by decide))
  have F2:=Lib.hid ((F1.out.alloc _).trans f1)
  clear h1 f1 HI1 HX1 F1 HA HG
  go_wp2_with fail
  (try simp only[Exit.inBlock,Exit.then]);refine bodyPost_ret (results_none rfl _ _ _) rfl ?_
  exact⟨rfl,by rw[HE.out];exact HI2.out,F2.out⟩
 | false=>
  have HE:Hid (termW t=[t.name,mDot,t.key]):=by show _=_;unfold termW;rw[hn];rfl
  have HI0:=Lib.hid (h.alloc (.cells #[.string t.name,.string t.key,.int .i64 t.val] 26))
  have HX0:=Lib.hid (Loc.new W #[.string t.name,.string t.key,.int .i64 t.val] 26)
  have F0:Hid (FrW W (W.alloc (.cells #[.string t.name,.string t.key,.int .i64 t.val] 26))):=(FrW.refl W).alloc _
  clear h
  go_enter Tryz.func108,Tryz.ntmps108
  go_upto_region 1 with fail
  obtain⟨X,hX⟩:∃X,X=W.heap.size:=⟨_,rfl⟩
  rw[←hX] at HX0⊢
  clear hX
  generalize W.alloc (.cells #[.string t.name,.string t.key,.int .i64 t.val] 26)=W0_ at HI0 HX0 F0⊢
  have c0_0:=HX0.out.at_ 0 (.string t.name) rfl
  have c0_1:=HX0.out.at_ 1 (.string t.key) rfl
  have HA:=Lib.hid (HI0.out.alloc (.cells #[.string t.name,.string ⟨#[46]⟩,.string t.key] 9))
  have HG:=Lib.hid (Loc.new W0_ #[.string t.name,.string ⟨#[46]⟩,.string t.key] 9)
  go_wp2_with fail
  refine(add_ (m:=3) (new:=[t.name,⟨#[46]⟩,t.key]) HA.out HG.out rfl rfl (by omega) (by simp;omega)).mono ?_
  rintro e W1_ ⟨rfl,h1,f1⟩
  have HI1:=Lib.hid h1
  have HX1:=Lib.hid (f1 X _ _ (HX0.out.alloc _) (by decide) (by decide))
  have F1:=Lib.hid ((F0.out.alloc _).trans f1)
  clear c0_0 c0_1
  clear h1 f1 HI0 HX0 F0 HA HG
  go_wp2_with fail
  go_end0
  exact⟨rfl,by rw[HE.out];exact HI1.out,F1.out⟩
set_option maxRecDepth 100000 in
set_option maxHeartbeats 4000000 in
theorem wspot {W0 W:World} {b:Nat} {ws:List ByteArray} {s:PSpot} (h:WI W0 b ws W) (hl:ws.length≤2900):
  Calls Tryz.prog 170 #[.pointer (some ⟨b,0,none⟩),.agg #[.string s.name,.string s.label,.string s.type,.int .i64 s.least,.int .i64 s.most]] W fun e W'=>e=.returned (.tuple #[])∧WI W0 b (ws++nodeW s) W'∧FrW W W':=by
 cases hn:s.label.toList.isEmpty with
 | true=>
  have HE:Hid (ws++nodeW s=ws++[mOpen,s.name]++[mClose]):=by show _=_;unfold nodeW;rw[if_pos hn];simp
  have HI0:=Lib.hid (h.alloc (.cells #[.string s.name,.string s.label,.string s.type,.int .i64 s.least,.int .i64 s.most] 85))
  have HX0:=Lib.hid (Loc.new W #[.string s.name,.string s.label,.string s.type,.int .i64 s.least,.int .i64 s.most] 85)
  have F0:Hid (FrW W (W.alloc (.cells #[.string s.name,.string s.label,.string s.type,.int .i64 s.least,.int .i64 s.most] 85))):=(FrW.refl W).alloc _
  clear h
  go_enter Tryz.func170,Tryz.ntmps170
  go_upto_region 1 with fail
  obtain⟨X,hX⟩:∃X,X=W.heap.size:=⟨_,rfl⟩
  rw[←hX] at HX0⊢
  clear hX
  generalize W.alloc (.cells #[.string s.name,.string s.label,.string s.type,.int .i64 s.least,.int .i64 s.most] 85)=W0_ at HI0 HX0 F0⊢
  have c0_0:=HX0.out.at_ 0 (.string s.name) rfl
  have HA:=Lib.hid (HI0.out.alloc (.cells #[.string ⟨#[40]⟩,.string s.name] 9))
  have HG:=Lib.hid (Loc.new W0_ #[.string ⟨#[40]⟩,.string s.name] 9)
  go_wp2_with fail
  refine(add_ (m:=2) (new:=[⟨#[40]⟩,s.name]) HA.out HG.out rfl rfl (by omega) (by simp;omega)).mono ?_
  rintro e W1_ ⟨rfl,h1,f1⟩
  have HI1:=Lib.hid h1
  have HX1:=Lib.hid (f1 X _ _ (HX0.out.alloc _) (by decide) (by decide))
  have F1:=Lib.hid ((F0.out.alloc _).trans f1)
  clear c0_0
  clear h1 f1 HI0 HX0 F0 HA HG
  have c1_1:=HX1.out.at_ 1 (.string s.label) rfl
  have HA:=Lib.hid (HI1.out.alloc (.cells #[.string ⟨#[41]⟩] 9))
  have HG:=Lib.hid (Loc.new W1_ #[.string ⟨#[41]⟩] 9)
  go_wp2_with fail
  refine(add_ (m:=1) (new:=[⟨#[41]⟩]) HA.out HG.out rfl rfl (by omega) (by simp;omega)).mono ?_
  rintro e W2_ ⟨rfl,h1,f1⟩
  have HI2:=Lib.hid h1
  have HX2:=Lib.hid (f1 X _ _ (HX1.out.alloc _) (by decide) (by decide))
  have F2:=Lib.hid ((F1.out.alloc _).trans f1)
  clear c1_1
  clear h1 f1 HI1 HX1 F1 HA HG
  go_wp2_with fail
  go_end0
  exact⟨rfl,by rw[HE.out];exact HI2.out,F2.out⟩
 | false=>
  have HE:Hid (ws++nodeW s=ws++[mOpen,s.name]++[mColon,s.label]++[mClose]):=by show _=_;unfold nodeW;rw[hn];simp
  have HI0:=Lib.hid (h.alloc (.cells #[.string s.name,.string s.label,.string s.type,.int .i64 s.least,.int .i64 s.most] 85))
  have HX0:=Lib.hid (Loc.new W #[.string s.name,.string s.label,.string s.type,.int .i64 s.least,.int .i64 s.most] 85)
  have F0:Hid (FrW W (W.alloc (.cells #[.string s.name,.string s.label,.string s.type,.int .i64 s.least,.int .i64 s.most] 85))):=(FrW.refl W).alloc _
  clear h
  go_enter Tryz.func170,Tryz.ntmps170
  go_upto_region 1 with fail
  obtain⟨X,hX⟩:∃X,X=W.heap.size:=⟨_,rfl⟩
  rw[←hX] at HX0⊢
  clear hX
  generalize W.alloc (.cells #[.string s.name,.string s.label,.string s.type,.int .i64 s.least,.int .i64 s.most] 85)=W0_ at HI0 HX0 F0⊢
  have c0_0:=HX0.out.at_ 0 (.string s.name) rfl
  have HA:=Lib.hid (HI0.out.alloc (.cells #[.string ⟨#[40]⟩,.string s.name] 9))
  have HG:=Lib.hid (Loc.new W0_ #[.string ⟨#[40]⟩,.string s.name] 9)
  go_wp2_with fail
  refine(add_ (m:=2) (new:=[⟨#[40]⟩,s.name]) HA.out HG.out rfl rfl (by omega) (by simp;omega)).mono ?_
  rintro e W1_ ⟨rfl,h1,f1⟩
  have HI1:=Lib.hid h1
  have HX1:=Lib.hid (f1 X _ _ (HX0.out.alloc _) (by decide) (by decide))
  have F1:=Lib.hid ((F0.out.alloc _).trans f1)
  clear c0_0
  clear h1 f1 HI0 HX0 F0 HA HG
  have c1_1:=HX1.out.at_ 1 (.string s.label) rfl
  have HA:=Lib.hid (HI1.out.alloc (.cells #[.string ⟨#[58]⟩,.string s.label] 9))
  have HG:=Lib.hid (Loc.new W1_ #[.string ⟨#[58]⟩,.string s.label] 9)
  go_wp2_with fail
  refine(add_ (m:=2) (new:=[⟨#[58]⟩,s.label]) HA.out HG.out rfl rfl (by omega) (by simp;omega)).mono ?_
  rintro e W2_ ⟨rfl,h1,f1⟩
  have HI2:=Lib.hid h1
  have HX2:=Lib.hid (f1 X _ _ (HX1.out.alloc _) (by decide) (by decide))
  have F2:=Lib.hid ((F1.out.alloc _).trans f1)
  clear c1_1
  clear h1 f1 HI1 HX1 F1 HA HG
  have HA:=Lib.hid (HI2.out.alloc (.cells #[.string ⟨#[41]⟩] 9))
  have HG:=Lib.hid (Loc.new W2_ #[.string ⟨#[41]⟩] 9)
  go_wp2_with fail
  refine(add_ (m:=1) (new:=[⟨#[41]⟩]) HA.out HG.out rfl rfl (by omega) (by simp;omega)).mono ?_
  rintro e W3_ ⟨rfl,h1,f1⟩
  have HI3:=Lib.hid h1
  have HX3:=Lib.hid (f1 X _ _ (HX2.out.alloc _) (by decide) (by decide))
  have F3:=Lib.hid ((F2.out.alloc _).trans f1)
  clear h1 f1 HI2 HX2 F2 HA HG
  go_wp2_with fail
  go_end0
  exact⟨rfl,by rw[HE.out];exact HI3.out,F3.out⟩
set_option maxRecDepth 100000 in
set_option maxHeartbeats 4000000 in
theorem witem {W0 W:World} {b:Nat} {ws:List ByteArray} {x:PItem} (h:WI W0 b ws W) (hl:ws.length≤2900):
  Calls Tryz.prog 172 #[.pointer (some ⟨b,0,none⟩),.agg #[.string x.name,.string x.key]] W fun e W'=>e=.returned (.tuple #[])∧WI W0 b (ws++oneW x) W'∧FrW W W':=by
 cases hn:x.name.toList.isEmpty with
 | true=>
  have HE:Hid (oneW x=[kCOUNT]):=by show _=_;unfold oneW;rw[if_pos hn]
  have HI0:=Lib.hid (h.alloc (.cells #[.string x.name,.string x.key] 89))
  have HX0:=Lib.hid (Loc.new W #[.string x.name,.string x.key] 89)
  have F0:Hid (FrW W (W.alloc (.cells #[.string x.name,.string x.key] 89))):=(FrW.refl W).alloc _
  clear h
  go_enter Tryz.func172,Tryz.ntmps172
  go_upto_region 2 with fail
  obtain⟨X,hX⟩:∃X,X=W.heap.size:=⟨_,rfl⟩
  rw[←hX] at HX0⊢
  clear hX
  generalize W.alloc (.cells #[.string x.name,.string x.key] 89)=W0_ at HI0 HX0 F0⊢
  have c0_0:=HX0.out.at_ 0 (.string x.name) rfl
  have HA:=Lib.hid (HI0.out.alloc (.cells #[.string ⟨#[67,79,85,78,84]⟩] 9))
  have HG:=Lib.hid (Loc.new W0_ #[.string ⟨#[67,79,85,78,84]⟩] 9)
  go_wp2_with fail
  refine(add_ (m:=1) (new:=[⟨#[67,79,85,78,84]⟩]) HA.out HG.out rfl rfl (by omega) (by simp;omega)).mono ?_
  rintro e W1_ ⟨rfl,h1,f1⟩
  have HI1:=Lib.hid h1
  have HX1:=Lib.hid (f1 X _ _ (HX0.out.alloc _) (by decide) (by decide))
  have F1:=Lib.hid ((F0.out.alloc _).trans f1)
  clear c0_0
  clear h1 f1 HI0 HX0 F0 HA HG
  go_wp2_with fail
  go_end0
  exact⟨rfl,by rw[HE.out];exact HI1.out,F1.out⟩
 | false=>
  cases hk:x.key.toList.isEmpty with
  | true=>
   have HE:Hid (oneW x=[x.name]):=by show _=_;unfold oneW;rw[hn,hk];rfl
   have HI0:=Lib.hid (h.alloc (.cells #[.string x.name,.string x.key] 89))
   have HX0:=Lib.hid (Loc.new W #[.string x.name,.string x.key] 89)
   have F0:Hid (FrW W (W.alloc (.cells #[.string x.name,.string x.key] 89))):=(FrW.refl W).alloc _
   clear h
   go_enter Tryz.func172,Tryz.ntmps172
   go_upto_region 2 with fail
   obtain⟨X,hX⟩:∃X,X=W.heap.size:=⟨_,rfl⟩
   rw[←hX] at HX0⊢
   clear hX
   generalize W.alloc (.cells #[.string x.name,.string x.key] 89)=W0_ at HI0 HX0 F0⊢
   have c0_0:=HX0.out.at_ 0 (.string x.name) rfl
   have c0_1:=HX0.out.at_ 1 (.string x.key) rfl
   have HA:=Lib.hid (HI0.out.alloc (.cells #[.string x.name] 9))
   have HG:=Lib.hid (Loc.new W0_ #[.string x.name] 9)
   go_wp2_with fail
   refine(add_ (m:=1) (new:=[x.name]) HA.out HG.out rfl rfl (by omega) (by simp;omega)).mono ?_
   rintro e W1_ ⟨rfl,h1,f1⟩
   have HI1:=Lib.hid h1
   have HX1:=Lib.hid (f1 X _ _ (HX0.out.alloc _) (by decide) (by decide))
   have F1:=Lib.hid ((F0.out.alloc _).trans f1)
   clear c0_0 c0_1
   clear h1 f1 HI0 HX0 F0 HA HG
   go_wp2_with fail
   go_end0
   exact⟨rfl,by rw[HE.out];exact HI1.out,F1.out⟩
  | false=>
   have HE:Hid (oneW x=[x.name,mDot,x.key]):=by show _=_;unfold oneW;rw[hn,hk];rfl
   have HI0:=Lib.hid (h.alloc (.cells #[.string x.name,.string x.key] 89))
   have HX0:=Lib.hid (Loc.new W #[.string x.name,.string x.key] 89)
   have F0:Hid (FrW W (W.alloc (.cells #[.string x.name,.string x.key] 89))):=(FrW.refl W).alloc _
   clear h
   go_enter Tryz.func172,Tryz.ntmps172
   go_upto_region 2 with fail
   obtain⟨X,hX⟩:∃X,X=W.heap.size:=⟨_,rfl⟩
   rw[←hX] at HX0⊢
   clear hX
   generalize W.alloc (.cells #[.string x.name,.string x.key] 89)=W0_ at HI0 HX0 F0⊢
   have c0_0:=HX0.out.at_ 0 (.string x.name) rfl
   have c0_1:=HX0.out.at_ 1 (.string x.key) rfl
   have HA:=Lib.hid (HI0.out.alloc (.cells #[.string x.name,.string ⟨#[46]⟩,.string x.key] 9))
   have HG:=Lib.hid (Loc.new W0_ #[.string x.name,.string ⟨#[46]⟩,.string x.key] 9)
   go_wp2_with fail
   refine(add_ (m:=3) (new:=[x.name,⟨#[46]⟩,x.key]) HA.out HG.out rfl rfl (by omega) (by simp;omega)).mono ?_
   rintro e W1_ ⟨rfl,h1,f1⟩
   have HI1:=Lib.hid h1
   have HX1:=Lib.hid (f1 X _ _ (HX0.out.alloc _) (by decide) (by decide))
   have F1:=Lib.hid ((F0.out.alloc _).trans f1)
   clear c0_0 c0_1
   clear h1 f1 HI0 HX0 F0 HA HG
   go_wp2_with fail
   go_end0
   exact⟨rfl,by rw[HE.out];exact HI1.out,F1.out⟩
set_option maxRecDepth 100000 in
set_option maxHeartbeats 4000000 in
theorem wcond {W0 W:World} {b:Nat} {ws:List ByteArray} {c:PCond} (h:WI W0 b ws W) (ht:Tab W0) (ha:I64 c.a.val) (hb:I64 c.b.val) (hl:ws.length≤2800):
  Calls Tryz.prog 171 #[.pointer (some ⟨b,0,none⟩),.agg #[.int .i64 c.op,.string c.a.name,.string c.a.key,.int .i64 c.a.val,.string c.b.name,.string c.b.key,.int .i64 c.b.val]] W fun e W'=>e=.returned (.tuple #[])∧WI W0 b (ws++(termW c.a++opW c)) W'∧FrW W W':=by
 have HVA:=Lib.hid ha
 have HVB:=Lib.hid hb
 have hta:(termW c.a).length≤3:=by unfold termW;split<;>simp
 clear ha hb
 by_cases h7:c.op=7
 ·have HE:Hid (ws++(termW c.a++opW c)=ws++termW c.a++[kIS,kNULL]):=by show _=_;unfold opW;rw[if_pos h7];simp
  have h7b:(c.op==7)=true:=by rw[h7];rfl
  have H7:=Lib.hid h7
  clear h7
  have HI0:=Lib.hid (h.alloc (.cells #[.int .i64 c.op,.string c.a.name,.string c.a.key,.int .i64 c.a.val,.string c.b.name,.string c.b.key,.int .i64 c.b.val] 87))
  have HX0:=Lib.hid (Loc.new W #[.int .i64 c.op,.string c.a.name,.string c.a.key,.int .i64 c.a.val,.string c.b.name,.string c.b.key,.int .i64 c.b.val] 87)
  have F0:Hid (FrW W (W.alloc (.cells #[.int .i64 c.op,.string c.a.name,.string c.a.key,.int .i64 c.a.val,.string c.b.name,.string c.b.key,.int .i64 c.b.val] 87))):=(FrW.refl W).alloc _
  clear h
  go_enter Tryz.func171,Tryz.ntmps171
  go_upto_region 1 with fail
  obtain⟨X,hX⟩:∃X,X=W.heap.size:=⟨_,rfl⟩
  rw[←hX] at HX0⊢
  clear hX
  generalize W.alloc (.cells #[.int .i64 c.op,.string c.a.name,.string c.a.key,.int .i64 c.a.val,.string c.b.name,.string c.b.key,.int .i64 c.b.val] 87)=W0_ at HI0 HX0 F0⊢
  have c0_1:=HX0.out.at_ 1 (.string c.a.name) rfl
  have c0_2:=HX0.out.at_ 2 (.string c.a.key) rfl
  have c0_3:=HX0.out.at_ 3 (.int .i64 c.a.val) rfl
  go_wp2_with fail
  refine(wterm (t:=c.a) HI0.out ht HVA.out (by omega)).mono ?_
  rintro e W1_ ⟨rfl,h1,f1⟩
  have HI1:=Lib.hid h1
  have HX1:=Lib.hid (f1 X _ _ HX0.out (by decide) (by decide))
  have F1:=Lib.hid (F0.out.trans f1)
  clear c0_1 c0_2 c0_3
  clear h1 f1 HI0 HX0 F0
  have c1_0:=HX1.out.at_ 0 (.int .i64 c.op) rfl
  have HA:=Lib.hid (HI1.out.alloc (.cells #[.string ⟨#[73,83]⟩,.string ⟨#[78,85,76,76]⟩] 9))
  have HG:=Lib.hid (Loc.new W1_ #[.string ⟨#[73,83]⟩,.string ⟨#[78,85,76,76]⟩] 9)
  go_wp2_with fail
  refine(add_ (m:=2) (new:=[⟨#[73,83]⟩,⟨#[78,85,76,76]⟩]) HA.out HG.out rfl rfl (by omega) (by simp;omega)).mono ?_
  rintro e W2_ ⟨rfl,h1,f1⟩
  have HI2:=Lib.hid h1
  have HX2:=Lib.hid (f1 X _ _ (HX1.out.alloc _) (by decide) (by decide))
  have F2:=Lib.hid ((F1.out.alloc _).trans f1)
  clear c1_0
  clear h1 f1 HI1 HX1 F1 HA HG
  go_wp2_with fail
  go_end0
  exact⟨rfl,by rw[HE.out];exact HI2.out,F2.out⟩
 ·have h7b:(c.op==7)=false:=by simpa using h7
  by_cases h8:c.op=8
  ·have HE:Hid (ws++(termW c.a++opW c)=ws++termW c.a++[kIS,kNOT,kNULL]):=by show _=_;unfold opW;rw[if_neg h7,if_pos h8];simp
   have h8b:(c.op==8)=true:=by rw[h8];rfl
   have H8:=Lib.hid h8
   clear h8 h7
   have HI0:=Lib.hid (h.alloc (.cells #[.int .i64 c.op,.string c.a.name,.string c.a.key,.int .i64 c.a.val,.string c.b.name,.string c.b.key,.int .i64 c.b.val] 87))
   have HX0:=Lib.hid (Loc.new W #[.int .i64 c.op,.string c.a.name,.string c.a.key,.int .i64 c.a.val,.string c.b.name,.string c.b.key,.int .i64 c.b.val] 87)
   have F0:Hid (FrW W (W.alloc (.cells #[.int .i64 c.op,.string c.a.name,.string c.a.key,.int .i64 c.a.val,.string c.b.name,.string c.b.key,.int .i64 c.b.val] 87))):=(FrW.refl W).alloc _
   clear h
   go_enter Tryz.func171,Tryz.ntmps171
   go_upto_region 1 with fail
   obtain⟨X,hX⟩:∃X,X=W.heap.size:=⟨_,rfl⟩
   rw[←hX] at HX0⊢
   clear hX
   generalize W.alloc (.cells #[.int .i64 c.op,.string c.a.name,.string c.a.key,.int .i64 c.a.val,.string c.b.name,.string c.b.key,.int .i64 c.b.val] 87)=W0_ at HI0 HX0 F0⊢
   have c0_1:=HX0.out.at_ 1 (.string c.a.name) rfl
   have c0_2:=HX0.out.at_ 2 (.string c.a.key) rfl
   have c0_3:=HX0.out.at_ 3 (.int .i64 c.a.val) rfl
   go_wp2_with fail
   refine(wterm (t:=c.a) HI0.out ht HVA.out (by omega)).mono ?_
   rintro e W1_ ⟨rfl,h1,f1⟩
   have HI1:=Lib.hid h1
   have HX1:=Lib.hid (f1 X _ _ HX0.out (by decide) (by decide))
   have F1:=Lib.hid (F0.out.trans f1)
   clear c0_1 c0_2 c0_3
   clear h1 f1 HI0 HX0 F0
   have c1_0:=HX1.out.at_ 0 (.int .i64 c.op) rfl
   have HA:=Lib.hid (HI1.out.alloc (.cells #[.string ⟨#[73,83]⟩,.string ⟨#[78,79,84]⟩,.string ⟨#[78,85,76,76]⟩] 9))
   have HG:=Lib.hid (Loc.new W1_ #[.string ⟨#[73,83]⟩,.string ⟨#[78,79,84]⟩,.string ⟨#[78,85,76,76]⟩] 9)
   go_wp2_with fail
   refine(add_ (m:=3) (new:=[⟨#[73,83]⟩,⟨#[78,79,84]⟩,⟨#[78,85,76,76]⟩]) HA.out HG.out rfl rfl (by omega) (by simp;omega)).mono ?_
   rintro e W2_ ⟨rfl,h1,f1⟩
   have HI2:=Lib.hid h1
   have HX2:=Lib.hid (f1 X _ _ (HX1.out.alloc _) (by decide) (by decide))
   have F2:=Lib.hid ((F1.out.alloc _).trans f1)
   clear c1_0
   clear h1 f1 HI1 HX1 F1 HA HG
   go_wp2_with fail
   go_end0
   exact⟨rfl,by rw[HE.out];exact HI2.out,F2.out⟩
  ·have HE:Hid (ws++(termW c.a++opW c)=ws++termW c.a++[markW c.op]++termW c.b):=by show _=_;unfold opW;rw[if_neg h7,if_neg h8];simp
   have h8b:(c.op==8)=false:=by simpa using h8
   clear h8 h7
   have HI0:=Lib.hid (h.alloc (.cells #[.int .i64 c.op,.string c.a.name,.string c.a.key,.int .i64 c.a.val,.string c.b.name,.string c.b.key,.int .i64 c.b.val] 87))
   have HX0:=Lib.hid (Loc.new W #[.int .i64 c.op,.string c.a.name,.string c.a.key,.int .i64 c.a.val,.string c.b.name,.string c.b.key,.int .i64 c.b.val] 87)
   have F0:Hid (FrW W (W.alloc (.cells #[.int .i64 c.op,.string c.a.name,.string c.a.key,.int .i64 c.a.val,.string c.b.name,.string c.b.key,.int .i64 c.b.val] 87))):=(FrW.refl W).alloc _
   clear h
   go_enter Tryz.func171,Tryz.ntmps171
   go_upto_region 1 with fail
   obtain⟨X,hX⟩:∃X,X=W.heap.size:=⟨_,rfl⟩
   rw[←hX] at HX0⊢
   clear hX
   generalize W.alloc (.cells #[.int .i64 c.op,.string c.a.name,.string c.a.key,.int .i64 c.a.val,.string c.b.name,.string c.b.key,.int .i64 c.b.val] 87)=W0_ at HI0 HX0 F0⊢
   have c0_1:=HX0.out.at_ 1 (.string c.a.name) rfl
   have c0_2:=HX0.out.at_ 2 (.string c.a.key) rfl
   have c0_3:=HX0.out.at_ 3 (.int .i64 c.a.val) rfl
   go_wp2_with fail
   refine(wterm (t:=c.a) HI0.out ht HVA.out (by omega)).mono ?_
   rintro e W1_ ⟨rfl,h1,f1⟩
   have HI1:=Lib.hid h1
   have HX1:=Lib.hid (f1 X _ _ HX0.out (by decide) (by decide))
   have F1:=Lib.hid (F0.out.trans f1)
   clear c0_1 c0_2 c0_3
   clear h1 f1 HI0 HX0 F0
   have c1_0:=HX1.out.at_ 0 (.int .i64 c.op) rfl
   go_wp2_with fail
   refine(markOf_ c.op _).mono ?_
   rintro e w1 ⟨rfl,hw⟩
   obtain rfl:=hw.symm
   clear c1_0
   have HA:=Lib.hid (HI1.out.alloc (.cells #[.string (markW c.op)] 9))
   have HG:=Lib.hid (Loc.new W1_ #[.string (markW c.op)] 9)
   go_wp2_with fail
   refine(add_ (m:=1) (new:=[(markW c.op)]) HA.out HG.out rfl rfl (by omega) (by simp;omega)).mono ?_
   rintro e W2_ ⟨rfl,h1,f1⟩
   have HI2:=Lib.hid h1
   have HX2:=Lib.hid (f1 X _ _ (HX1.out.alloc _) (by decide) (by decide))
   have F2:=Lib.hid ((F1.out.alloc _).trans f1)
   clear h1 f1 HI1 HX1 F1 HA HG
   have c2_4:=HX2.out.at_ 4 (.string c.b.name) rfl
   have c2_5:=HX2.out.at_ 5 (.string c.b.key) rfl
   have c2_6:=HX2.out.at_ 6 (.int .i64 c.b.val) rfl
   go_wp2_with fail
   refine(wterm (t:=c.b) HI2.out ht HVB.out (by simp;omega)).mono ?_
   rintro e W3_ ⟨rfl,h1,f1⟩
   have HI3:=Lib.hid h1
   have HX3:=Lib.hid (f1 X _ _ HX2.out (by decide) (by decide))
   have F3:=Lib.hid (F2.out.trans f1)
   clear c2_4 c2_5 c2_6
   clear h1 f1 HI2 HX2 F2
   go_wp2_with fail
   go_end0
   exact⟨rfl,by rw[HE.out];exact HI3.out,F3.out⟩
end Go.Proofs.YtobgbmfpicmpcaaGreatDoor

/- The program's writer: steps. -/
namespace Go.Proofs.YtobgbmfpicmpcaaGreatDoor
open Go.RowKit
set_option maxRecDepth 100000 in
set_option maxHeartbeats 4000000 in
theorem wstep {W0 W:World} {b:Nat} {ws:List ByteArray} {s:PSpot} (h:WI W0 b ws W) (ht:Tab W0) (h0:I64 s.least) (h1:I64 s.most) (hl:ws.length≤2900):
  Calls Tryz.prog 169 #[.pointer (some ⟨b,0,none⟩),.agg #[.string s.name,.string s.label,.string s.type,.int .i64 s.least,.int .i64 s.most]] W fun e W'=>e=.returned (.tuple #[])∧WI W0 b (ws++stepW s) W'∧FrW W W':=by
 have HL:=Lib.hid h0
 have HM:=Lib.hid h1
 clear h0 h1
 by_cases hs:s.least=1∧s.most=1
 ·have HE:Hid (ws++stepW s=ws++[mTo,s.type]++[mArrow]):=by show _=_;unfold stepW;rw[if_pos hs];simp
  have hb0:(s.least != 1)=false:=by rw[hs.1];rfl
  have hb1:(s.most != 1)=false:=by rw[hs.2];rfl
  clear hs
  have HI0:=Lib.hid (h.alloc (.cells #[.string s.name,.string s.label,.string s.type,.int .i64 s.least,.int .i64 s.most] 85))
  have HX0:=Lib.hid (Loc.new W #[.string s.name,.string s.label,.string s.type,.int .i64 s.least,.int .i64 s.most] 85)
  have F0:Hid (FrW W (W.alloc (.cells #[.string s.name,.string s.label,.string s.type,.int .i64 s.least,.int .i64 s.most] 85))):=(FrW.refl W).alloc _
  clear h
  go_enter Tryz.func169,Tryz.ntmps169
  go_upto_region 1 with fail
  obtain⟨X,hX⟩:∃X,X=W.heap.size:=⟨_,rfl⟩
  rw[←hX] at HX0⊢
  clear hX
  generalize W.alloc (.cells #[.string s.name,.string s.label,.string s.type,.int .i64 s.least,.int .i64 s.most] 85)=W0_ at HI0 HX0 F0⊢
  have c0_2:=HX0.out.at_ 2 (.string s.type) rfl
  have HA:=Lib.hid (HI0.out.alloc (.cells #[.string ⟨#[45,91]⟩,.string s.type] 9))
  have HG:=Lib.hid (Loc.new W0_ #[.string ⟨#[45,91]⟩,.string s.type] 9)
  go_wp2_with fail
  refine(add_ (m:=2) (new:=[⟨#[45,91]⟩,s.type]) HA.out HG.out rfl rfl (by omega) (by simp;omega)).mono ?_
  rintro e W1_ ⟨rfl,h1,f1⟩
  have HI1:=Lib.hid h1
  have HX1:=Lib.hid (f1 X _ _ (HX0.out.alloc _) (by decide) (by decide))
  have F1:=Lib.hid ((F0.out.alloc _).trans f1)
  clear c0_2
  clear h1 f1 HI0 HX0 F0 HA HG
  have c1_3:=HX1.out.at_ 3 (.int .i64 s.least) rfl
  have c1_4:=HX1.out.at_ 4 (.int .i64 s.most) rfl
  have HA:=Lib.hid (HI1.out.alloc (.cells #[.string ⟨#[93,45,62]⟩] 9))
  have HG:=Lib.hid (Loc.new W1_ #[.string ⟨#[93,45,62]⟩] 9)
  go_wp2_with fail
  refine(add_ (m:=1) (new:=[⟨#[93,45,62]⟩]) HA.out HG.out rfl rfl (by omega) (by simp;omega)).mono ?_
  rintro e W2_ ⟨rfl,h1,f1⟩
  have HI2:=Lib.hid h1
  have HX2:=Lib.hid (f1 X _ _ (HX1.out.alloc _) (by decide) (by decide))
  have F2:=Lib.hid ((F1.out.alloc _).trans f1)
  clear c1_3 c1_4
  clear h1 f1 HI1 HX1 F1 HA HG
  go_wp2_with fail
  go_end0
  exact⟨rfl,by rw[HE.out];exact HI2.out,F2.out⟩
 ·have HE:Hid (ws++stepW s=ws++[mTo,s.type]++[mStar,decB s.least,mDots,decB s.most]++[mArrow]):=by show _=_;unfold stepW;rw[if_neg hs];simp
  by_cases hs0:s.least=1
  ·have hb0:(s.least != 1)=false:=by rw[hs0];rfl
   have hb1:(s.most != 1)=true:=by simp only[bne_iff_ne];exact fun e=>hs ⟨hs0,e⟩
   clear hs hs0
   have HI0:=Lib.hid (h.alloc (.cells #[.string s.name,.string s.label,.string s.type,.int .i64 s.least,.int .i64 s.most] 85))
   have HX0:=Lib.hid (Loc.new W #[.string s.name,.string s.label,.string s.type,.int .i64 s.least,.int .i64 s.most] 85)
   have F0:Hid (FrW W (W.alloc (.cells #[.string s.name,.string s.label,.string s.type,.int .i64 s.least,.int .i64 s.most] 85))):=(FrW.refl W).alloc _
   clear h
   go_enter Tryz.func169,Tryz.ntmps169
   go_upto_region 1 with fail
   obtain⟨X,hX⟩:∃X,X=W.heap.size:=⟨_,rfl⟩
   rw[←hX] at HX0⊢
   clear hX
   generalize W.alloc (.cells #[.string s.name,.string s.label,.string s.type,.int .i64 s.least,.int .i64 s.most] 85)=W0_ at HI0 HX0 F0⊢
   have c0_2:=HX0.out.at_ 2 (.string s.type) rfl
   have HA:=Lib.hid (HI0.out.alloc (.cells #[.string ⟨#[45,91]⟩,.string s.type] 9))
   have HG:=Lib.hid (Loc.new W0_ #[.string ⟨#[45,91]⟩,.string s.type] 9)
   go_wp2_with fail
   refine(add_ (m:=2) (new:=[⟨#[45,91]⟩,s.type]) HA.out HG.out rfl rfl (by omega) (by simp;omega)).mono ?_
   rintro e W1_ ⟨rfl,h1,f1⟩
   have HI1:=Lib.hid h1
   have HX1:=Lib.hid (f1 X _ _ (HX0.out.alloc _) (by decide) (by decide))
   have F1:=Lib.hid ((F0.out.alloc _).trans f1)
   clear c0_2
   clear h1 f1 HI0 HX0 F0 HA HG
   have c1_3:=HX1.out.at_ 3 (.int .i64 s.least) rfl
   have c1_4:=HX1.out.at_ 4 (.int .i64 s.most) rfl
   have HD:=Lib.hid (HI1.out.drew 1)
   have HXD:Hid (Loc W1_.drew X #[.string s.name,.string s.label,.string s.type,.int .i64 s.least,.int .i64 s.most] 85):=HX1.out.drew 1
   have FD:Hid (FrW W W1_.drew):=F1.out.trans (FrW.quiet (grown_drew _ 1 none))
   have d3:W1_.drew.cell? ⟨X,3,none⟩=some (.int .i64 s.least):=c1_3
   have d4:W1_.drew.cell? ⟨X,4,none⟩=some (.int .i64 s.most):=c1_4
   go_upto_region 3 with fail
   clear c1_3 c1_4
   go_region_with (first
    | (go_at_call_of 36 (Value.int IntKind.i64 s.least);refine(itoa_ HL.out ?_).mono ?_;exact HD.out.tab ht;rintro e w5 ⟨rfl,hb5⟩;have H5:=Lib.hid (HD.out.later hb5);have HX5:=Lib.hid (HXD.out.grown (grown_below hb5 none) (by simp));have F5:=Lib.hid (FD.out.later hb5);have c5:w5.cell? ⟨X,4,none⟩=some (.int .i64 s.most):=(HX5.out.cell 4).trans rfl;clear hb5)
    | (go_at_call_of 36 (Value.int IntKind.i64 s.most);refine(itoa_ HM.out ?_).mono ?_;exact H5.out.tab ht;rintro e w6 ⟨rfl,hb6⟩;have HA:=Lib.hid ((H5.out.later hb6).alloc (.cells #[.string ⟨#[42]⟩,.string (decB s.least),.string ⟨#[46,46]⟩,.string (decB s.most)] 9));have HG:=Lib.hid (Loc.new w6 #[.string ⟨#[42]⟩,.string (decB s.least),.string ⟨#[46,46]⟩,.string (decB s.most)] 9);have HX6:=Lib.hid (HX5.out.grown (grown_below hb6 none) (by simp));have F6:=Lib.hid (F5.out.later hb6);clear hb6)
    | (go_at_call 104;refine(add_ (m:=4) (new:=[mStar,decB s.least,mDots,decB s.most]) HA.out HG.out rfl rfl (by omega) (by simp;omega)).mono ?_;rintro e w7 ⟨rfl,h7,f7⟩;have HI7:=Lib.hid h7;have HX7:=Lib.hid (f7 X _ _ (HX6.out.alloc _) (by decide) (by decide));have F7:=Lib.hid ((F6.out.alloc _).trans f7);clear h7 f7))
   all_goals
    clear d3 d4 c5 HD HXD FD H5 HX5 F5 HA HG HX6 F6
    have HA:=Lib.hid (HI7.out.alloc (.cells #[.string ⟨#[93,45,62]⟩] 9))
    have HG:=Lib.hid (Loc.new w7 #[.string ⟨#[93,45,62]⟩] 9)
    go_wp2_with fail
    refine(add_ (m:=1) (new:=[⟨#[93,45,62]⟩]) HA.out HG.out rfl rfl (by omega) (by simp;omega)).mono ?_
    rintro e W8_ ⟨rfl,h1,f1⟩
    have HI8:=Lib.hid h1
    have HX8:=Lib.hid (f1 X _ _ (HX7.out.alloc _) (by decide) (by decide))
    have F8:=Lib.hid ((F7.out.alloc _).trans f1)
    clear h1 f1 HI7 HX7 F7 HA HG
    go_wp2_with fail
    go_end0
    exact⟨rfl,by rw[HE.out];exact HI8.out,F8.out⟩
  ·have hb0:(s.least != 1)=true:=by simp only[bne_iff_ne];exact hs0
   clear hs hs0
   have HI0:=Lib.hid (h.alloc (.cells #[.string s.name,.string s.label,.string s.type,.int .i64 s.least,.int .i64 s.most] 85))
   have HX0:=Lib.hid (Loc.new W #[.string s.name,.string s.label,.string s.type,.int .i64 s.least,.int .i64 s.most] 85)
   have F0:Hid (FrW W (W.alloc (.cells #[.string s.name,.string s.label,.string s.type,.int .i64 s.least,.int .i64 s.most] 85))):=(FrW.refl W).alloc _
   clear h
   go_enter Tryz.func169,Tryz.ntmps169
   go_upto_region 1 with fail
   obtain⟨X,hX⟩:∃X,X=W.heap.size:=⟨_,rfl⟩
   rw[←hX] at HX0⊢
   clear hX
   generalize W.alloc (.cells #[.string s.name,.string s.label,.string s.type,.int .i64 s.least,.int .i64 s.most] 85)=W0_ at HI0 HX0 F0⊢
   have c0_2:=HX0.out.at_ 2 (.string s.type) rfl
   have HA:=Lib.hid (HI0.out.alloc (.cells #[.string ⟨#[45,91]⟩,.string s.type] 9))
   have HG:=Lib.hid (Loc.new W0_ #[.string ⟨#[45,91]⟩,.string s.type] 9)
   go_wp2_with fail
   refine(add_ (m:=2) (new:=[⟨#[45,91]⟩,s.type]) HA.out HG.out rfl rfl (by omega) (by simp;omega)).mono ?_
   rintro e W1_ ⟨rfl,h1,f1⟩
   have HI1:=Lib.hid h1
   have HX1:=Lib.hid (f1 X _ _ (HX0.out.alloc _) (by decide) (by decide))
   have F1:=Lib.hid ((F0.out.alloc _).trans f1)
   clear c0_2
   clear h1 f1 HI0 HX0 F0 HA HG
   have c1_3:=HX1.out.at_ 3 (.int .i64 s.least) rfl
   have c1_4:=HX1.out.at_ 4 (.int .i64 s.most) rfl
   have HD:=Lib.hid (HI1.out.drew 1)
   have HXD:Hid (Loc W1_.drew X #[.string s.name,.string s.label,.string s.type,.int .i64 s.least,.int .i64 s.most] 85):=HX1.out.drew 1
   have FD:Hid (FrW W W1_.drew):=F1.out.trans (FrW.quiet (grown_drew _ 1 none))
   have d3:W1_.drew.cell? ⟨X,3,none⟩=some (.int .i64 s.least):=c1_3
   have d4:W1_.drew.cell? ⟨X,4,none⟩=some (.int .i64 s.most):=c1_4
   go_upto_region 3 with fail
   clear c1_3 c1_4
   go_region_with (first
    | (go_at_call_of 36 (Value.int IntKind.i64 s.least);refine(itoa_ HL.out ?_).mono ?_;exact HD.out.tab ht;rintro e w5 ⟨rfl,hb5⟩;have H5:=Lib.hid (HD.out.later hb5);have HX5:=Lib.hid (HXD.out.grown (grown_below hb5 none) (by simp));have F5:=Lib.hid (FD.out.later hb5);have c5:w5.cell? ⟨X,4,none⟩=some (.int .i64 s.most):=(HX5.out.cell 4).trans rfl;clear hb5)
    | (go_at_call_of 36 (Value.int IntKind.i64 s.most);refine(itoa_ HM.out ?_).mono ?_;exact H5.out.tab ht;rintro e w6 ⟨rfl,hb6⟩;have HA:=Lib.hid ((H5.out.later hb6).alloc (.cells #[.string ⟨#[42]⟩,.string (decB s.least),.string ⟨#[46,46]⟩,.string (decB s.most)] 9));have HG:=Lib.hid (Loc.new w6 #[.string ⟨#[42]⟩,.string (decB s.least),.string ⟨#[46,46]⟩,.string (decB s.most)] 9);have HX6:=Lib.hid (HX5.out.grown (grown_below hb6 none) (by simp));have F6:=Lib.hid (F5.out.later hb6);clear hb6)
    | (go_at_call 104;refine(add_ (m:=4) (new:=[mStar,decB s.least,mDots,decB s.most]) HA.out HG.out rfl rfl (by omega) (by simp;omega)).mono ?_;rintro e w7 ⟨rfl,h7,f7⟩;have HI7:=Lib.hid h7;have HX7:=Lib.hid (f7 X _ _ (HX6.out.alloc _) (by decide) (by decide));have F7:=Lib.hid ((F6.out.alloc _).trans f7);clear h7 f7))
   all_goals
    clear d3 d4 c5 HD HXD FD H5 HX5 F5 HA HG HX6 F6
    have HA:=Lib.hid (HI7.out.alloc (.cells #[.string ⟨#[93,45,62]⟩] 9))
    have HG:=Lib.hid (Loc.new w7 #[.string ⟨#[93,45,62]⟩] 9)
    go_wp2_with fail
    refine(add_ (m:=1) (new:=[⟨#[93,45,62]⟩]) HA.out HG.out rfl rfl (by omega) (by simp;omega)).mono ?_
    rintro e W8_ ⟨rfl,h1,f1⟩
    have HI8:=Lib.hid h1
    have HX8:=Lib.hid (f1 X _ _ (HX7.out.alloc _) (by decide) (by decide))
    have F8:=Lib.hid ((F7.out.alloc _).trans f1)
    clear h1 f1 HI7 HX7 F7 HA HG
    go_wp2_with fail
    go_end0
    exact⟨rfl,by rw[HE.out];exact HI8.out,F8.out⟩
end Go.Proofs.YtobgbmfpicmpcaaGreatDoor

