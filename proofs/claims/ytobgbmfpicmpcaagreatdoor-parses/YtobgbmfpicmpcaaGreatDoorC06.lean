/- The program's parser: spots, comparisons. -/
import Derived.Test.YtobgbmfpicmpcaaGreatDoorC05
namespace Go.Proofs.YtobgbmfpicmpcaaGreatDoor
open Go.RowKit

theorem PXY.start {W : World} {b G : Nat} {st : RS} (h : PI b G st W) (cx : Array Value) (T : TypeId) (cy : Array Value) (T' : TypeId) : PXY W b G st (W.heap.size + 1) cx T W.heap.size cy T' ((W.alloc (.cells cy T')).alloc (.cells cx T)) := by
  have g1 := grown_alloc W (.cells cy T') none
  have s1 : (W.alloc (.cells cy T')).heap.size = W.heap.size + 1 := by simp
  have l1 := Loc.new W cy T'
  have k1 := grown_alloc W (.cells cy T') (some b)
  have n0 := h.ne (Nat.le_refl W.heap.size)
  have n1 := h.ne (show W.heap.size ≤ W.heap.size + 1 by omega)
  generalize W.alloc (.cells cy T') = W1 at g1 s1 l1 k1 ⊢
  have g2 := grown_alloc W1 (.cells cx T) none
  have k2 := grown_alloc W1 (.cells cx T) (some b)
  have l2 := Loc.new W1 cx T
  rw [s1] at l2
  exact ⟨⟨(h.quiet g1).quiet g2, l2, by omega, fun e => n1.1 e.symm, fun e => n1.2 e.symm, grown_trans k1 k2⟩, l1.grown g2 (by simp), Nat.le_refl _, fun e => n0.1 e.symm, fun e => n0.2 e.symm, by omega⟩

set_option maxRecDepth 100000 in
set_option maxHeartbeats 2000000 in
theorem spot_ {b G : Nat} {st s1 : RS} {q r : PSpot} {W : World} (h : PI b G st W) (hn : spotP q st = (r, s1)) :
    Calls Tryz.prog 161 #[.pointer (some ⟨b, 0, none⟩), .agg #[.string q.name, .string q.label, .string q.type, .int .i64 q.least, .int .i64 q.most]] W fun e W' => e = .returned (.agg #[.string r.name, .string r.label, .string r.type, .int .i64 r.least, .int .i64 r.most]) ∧ PI b G s1 W' ∧ W.grownBy W' (some b) := by
  have H0 := Lib.hid (PXY.start h #[.string ⟨#[]⟩, .string ⟨#[]⟩, .string ⟨#[]⟩, .int .i64 0, .int .i64 0] 85 #[.string q.name, .string q.label, .string q.type, .int .i64 q.least, .int .i64 q.most] 85)
  obtain ⟨n', a1, ha⟩ : ∃ n' az, nameP (expectP mOpen st) = (n', az) := ⟨_, _, rfl⟩
  have HA := Lib.hid ha
  cases hm : peekP mColon a1 with
  | false =>
    have e : ((⟨n', q.label, q.type, q.least, q.most⟩ : PSpot), expectP mClose a1) = (r, s1) := by rw [← hn]; unfold spotP; simp only [ha, hm]; rfl
    injection e with e1 e3
    subst e1; subst e3
    have HM := Lib.hid hm
    clear h hn hm ha
    go_enter Tryz.func161, Tryz.ntmps161
    go_wp2_with fail
    obtain ⟨X, hX⟩ : ∃ X, X = W.heap.size + 1 := ⟨_, rfl⟩
    obtain ⟨Y, hY⟩ : ∃ Y, Y = W.heap.size := ⟨_, rfl⟩
    rw [← hX, ← hY] at H0 ⊢
    clear hX hY
    generalize (W.alloc (.cells #[.string q.name, .string q.label, .string q.type, .int .i64 q.least, .int .i64 q.most] 85)).alloc (.cells #[.string ⟨#[]⟩, .string ⟨#[]⟩, .string ⟨#[]⟩, .int .i64 0, .int .i64 0] 85) = W0' at H0 ⊢
    refine (expect_ H0.out.q.p mOpen).mono ?_
    rintro e W1 ⟨rfl, h, g⟩
    have H1 := Lib.hid (H0.out.call h g)
    clear h g H0
    go_wp2_with fail
    refine (name_ H1.out.q.p HA.out).mono ?_
    rintro e W2 ⟨rfl, h, g⟩
    have H2 := Lib.hid (H1.out.call h g)
    clear h g H1
    have c0 : W2.cell? ⟨Y, 0, none⟩ = some (.string q.name) := (H2.out.ly.cell 0).trans rfl
    have f0 : W2.frozen? ⟨Y, 0, none⟩ = false := H2.out.ly.free 0
    have H3 := Lib.hid (H2.out.setY 0 (.string n'))
    clear H2
    go_wp2_with fail
    generalize (W2.setCell ⟨Y, 0, none⟩ (.string n')) = W3 at H3 ⊢; clear c0 f0
    refine (accept_ H3.out.q.p mColon false HM.out).mono ?_
    rintro e W4 ⟨rfl, h, g⟩
    have H4 := Lib.hid (H3.out.call h g)
    clear h g H3
    rw [show acceptP mColon a1 = a1 by unfold acceptP; rw [HM.out]; rfl] at H4
    go_wp2_with fail
    refine (expect_ H4.out.q.p mClose).mono ?_
    rintro e W5 ⟨rfl, h, g⟩
    have H5 := Lib.hid (H4.out.call h g)
    clear h g H4
    have x0 : W5.cell? ⟨X, 0, none⟩ = some (.string ⟨#[]⟩) := (H5.out.q.lx.cell 0).trans rfl
    have g0 : W5.frozen? ⟨X, 0, none⟩ = false := H5.out.q.lx.free 0
    have x1 : W5.cell? ⟨X, 1, none⟩ = some (.string ⟨#[]⟩) := (H5.out.q.lx.cell 1).trans rfl
    have g1 : W5.frozen? ⟨X, 1, none⟩ = false := H5.out.q.lx.free 1
    have x2 : W5.cell? ⟨X, 2, none⟩ = some (.string ⟨#[]⟩) := (H5.out.q.lx.cell 2).trans rfl
    have g2 : W5.frozen? ⟨X, 2, none⟩ = false := H5.out.q.lx.free 2
    have x3 : W5.cell? ⟨X, 3, none⟩ = some (.int .i64 0) := (H5.out.q.lx.cell 3).trans rfl
    have g3 : W5.frozen? ⟨X, 3, none⟩ = false := H5.out.q.lx.free 3
    have x4 : W5.cell? ⟨X, 4, none⟩ = some (.int .i64 0) := (H5.out.q.lx.cell 4).trans rfl
    have g4 : W5.frozen? ⟨X, 4, none⟩ = false := H5.out.q.lx.free 4
    have y0 : W5.cell? ⟨Y, 0, none⟩ = some (.string n') := (H5.out.ly.cell 0).trans rfl
    have y1 : W5.cell? ⟨Y, 1, none⟩ = some (.string q.label) := (H5.out.ly.cell 1).trans rfl
    have y2 : W5.cell? ⟨Y, 2, none⟩ = some (.string q.type) := (H5.out.ly.cell 2).trans rfl
    have y3 : W5.cell? ⟨Y, 3, none⟩ = some (.int .i64 q.least) := (H5.out.ly.cell 3).trans rfl
    have y4 : W5.cell? ⟨Y, 4, none⟩ = some (.int .i64 q.most) := (H5.out.ly.cell 4).trans rfl
    go_wp2_with fail
    have hF := (((((H5.out.setX 0 (.string n')).setX 1 (.string q.label)).setX 2 (.string q.type)).setX 3 (.int .i64 q.least)).setX 4 (.int .i64 q.most)).q
    generalize (((((W5.setCell ⟨X, 0, none⟩ (.string n')).setCell ⟨X, 1, none⟩ (.string q.label)).setCell ⟨X, 2, none⟩ (.string q.type)).setCell ⟨X, 3, none⟩ (.int .i64 q.least)).setCell ⟨X, 4, none⟩ (.int .i64 q.most)) = WF at hF ⊢
    refine bodyPost_ret (v := .agg #[.string n', .string q.label, .string q.type, .int .i64 q.least, .int .i64 q.most]) ?_ rfl ⟨rfl, hF.p, hF.grown⟩
    have r0 := hF.lx.cell 0
    have r1 := hF.lx.cell 1
    have r2 := hF.lx.cell 2
    have r3 := hF.lx.cell 3
    have r4 := hF.lx.cell 4
    simp at r0 r1 r2 r3 r4
    simp [results, Tryz.results161, go_sem, r0, r1, r2, r3, r4]
  | true =>
    obtain ⟨l', a2, hk⟩ : ∃ k' az, titleP (acceptP mColon a1) = (k', az) := ⟨_, _, rfl⟩
    have e : ((⟨n', l', q.type, q.least, q.most⟩ : PSpot), expectP mClose a2) = (r, s1) := by rw [← hn]; unfold spotP; simp only [ha, hm, hk]; rfl
    injection e with e1 e3
    subst e1; subst e3
    have HM := Lib.hid hm
    have HK := Lib.hid hk
    clear h hn hm ha hk
    go_enter Tryz.func161, Tryz.ntmps161
    go_wp2_with fail
    obtain ⟨X, hX⟩ : ∃ X, X = W.heap.size + 1 := ⟨_, rfl⟩
    obtain ⟨Y, hY⟩ : ∃ Y, Y = W.heap.size := ⟨_, rfl⟩
    rw [← hX, ← hY] at H0 ⊢
    clear hX hY
    generalize (W.alloc (.cells #[.string q.name, .string q.label, .string q.type, .int .i64 q.least, .int .i64 q.most] 85)).alloc (.cells #[.string ⟨#[]⟩, .string ⟨#[]⟩, .string ⟨#[]⟩, .int .i64 0, .int .i64 0] 85) = W0' at H0 ⊢
    refine (expect_ H0.out.q.p mOpen).mono ?_
    rintro e W1 ⟨rfl, h, g⟩
    have H1 := Lib.hid (H0.out.call h g)
    clear h g H0
    go_wp2_with fail
    refine (name_ H1.out.q.p HA.out).mono ?_
    rintro e W2 ⟨rfl, h, g⟩
    have H2 := Lib.hid (H1.out.call h g)
    clear h g H1
    have c0 : W2.cell? ⟨Y, 0, none⟩ = some (.string q.name) := (H2.out.ly.cell 0).trans rfl
    have f0 : W2.frozen? ⟨Y, 0, none⟩ = false := H2.out.ly.free 0
    have H3 := Lib.hid (H2.out.setY 0 (.string n'))
    clear H2
    go_wp2_with fail
    generalize (W2.setCell ⟨Y, 0, none⟩ (.string n')) = W3 at H3 ⊢; clear c0 f0
    refine (accept_ H3.out.q.p mColon true HM.out).mono ?_
    rintro e W4 ⟨rfl, h, g⟩
    have H4 := Lib.hid (H3.out.call h g)
    clear h g H3
    go_wp2_with fail
    refine (title_ H4.out.q.p HK.out).mono ?_
    rintro e W5 ⟨rfl, h, g⟩
    have H5 := Lib.hid (H4.out.call h g)
    clear h g H4
    have c1 : W5.cell? ⟨Y, 1, none⟩ = some (.string q.label) := (H5.out.ly.cell 1).trans rfl
    have f1 : W5.frozen? ⟨Y, 1, none⟩ = false := H5.out.ly.free 1
    have H6 := Lib.hid (H5.out.setY 1 (.string l'))
    clear H5
    go_wp2_with fail
    generalize (W5.setCell ⟨Y, 1, none⟩ (.string l')) = W6 at H6 ⊢; clear c1 f1
    refine (expect_ H6.out.q.p mClose).mono ?_
    rintro e W7 ⟨rfl, h, g⟩
    have H7 := Lib.hid (H6.out.call h g)
    clear h g H6
    have x0 : W7.cell? ⟨X, 0, none⟩ = some (.string ⟨#[]⟩) := (H7.out.q.lx.cell 0).trans rfl
    have g0 : W7.frozen? ⟨X, 0, none⟩ = false := H7.out.q.lx.free 0
    have x1 : W7.cell? ⟨X, 1, none⟩ = some (.string ⟨#[]⟩) := (H7.out.q.lx.cell 1).trans rfl
    have g1 : W7.frozen? ⟨X, 1, none⟩ = false := H7.out.q.lx.free 1
    have x2 : W7.cell? ⟨X, 2, none⟩ = some (.string ⟨#[]⟩) := (H7.out.q.lx.cell 2).trans rfl
    have g2 : W7.frozen? ⟨X, 2, none⟩ = false := H7.out.q.lx.free 2
    have x3 : W7.cell? ⟨X, 3, none⟩ = some (.int .i64 0) := (H7.out.q.lx.cell 3).trans rfl
    have g3 : W7.frozen? ⟨X, 3, none⟩ = false := H7.out.q.lx.free 3
    have x4 : W7.cell? ⟨X, 4, none⟩ = some (.int .i64 0) := (H7.out.q.lx.cell 4).trans rfl
    have g4 : W7.frozen? ⟨X, 4, none⟩ = false := H7.out.q.lx.free 4
    have y0 : W7.cell? ⟨Y, 0, none⟩ = some (.string n') := (H7.out.ly.cell 0).trans rfl
    have y1 : W7.cell? ⟨Y, 1, none⟩ = some (.string l') := (H7.out.ly.cell 1).trans rfl
    have y2 : W7.cell? ⟨Y, 2, none⟩ = some (.string q.type) := (H7.out.ly.cell 2).trans rfl
    have y3 : W7.cell? ⟨Y, 3, none⟩ = some (.int .i64 q.least) := (H7.out.ly.cell 3).trans rfl
    have y4 : W7.cell? ⟨Y, 4, none⟩ = some (.int .i64 q.most) := (H7.out.ly.cell 4).trans rfl
    go_wp2_with fail
    have hF := (((((H7.out.setX 0 (.string n')).setX 1 (.string l')).setX 2 (.string q.type)).setX 3 (.int .i64 q.least)).setX 4 (.int .i64 q.most)).q
    generalize (((((W7.setCell ⟨X, 0, none⟩ (.string n')).setCell ⟨X, 1, none⟩ (.string l')).setCell ⟨X, 2, none⟩ (.string q.type)).setCell ⟨X, 3, none⟩ (.int .i64 q.least)).setCell ⟨X, 4, none⟩ (.int .i64 q.most)) = WF at hF ⊢
    refine bodyPost_ret (v := .agg #[.string n', .string l', .string q.type, .int .i64 q.least, .int .i64 q.most]) ?_ rfl ⟨rfl, hF.p, hF.grown⟩
    have r0 := hF.lx.cell 0
    have r1 := hF.lx.cell 1
    have r2 := hF.lx.cell 2
    have r3 := hF.lx.cell 3
    have r4 := hF.lx.cell 4
    simp at r0 r1 r2 r3 r4
    simp [results, Tryz.results161, go_sem, r0, r1, r2, r3, r4]

set_option maxRecDepth 100000 in
set_option maxHeartbeats 2000000 in
theorem markOf1 (w : World) : Calls Tryz.prog 219 #[.int .i64 1] w fun e w' => e = .returned (.string ⟨#[61]⟩) ∧ w' = w := by
  go_enter Tryz.func219, Tryz.ntmps219
  go_wp2_with fail
  go_ret
  exact ⟨rfl, rfl⟩
set_option maxRecDepth 100000 in
set_option maxHeartbeats 2000000 in
theorem markOf2 (w : World) : Calls Tryz.prog 219 #[.int .i64 2] w fun e w' => e = .returned (.string ⟨#[60, 62]⟩) ∧ w' = w := by
  go_enter Tryz.func219, Tryz.ntmps219
  go_wp2_with fail
  go_ret
  exact ⟨rfl, rfl⟩
set_option maxRecDepth 100000 in
set_option maxHeartbeats 2000000 in
theorem markOf3 (w : World) : Calls Tryz.prog 219 #[.int .i64 3] w fun e w' => e = .returned (.string ⟨#[60]⟩) ∧ w' = w := by
  go_enter Tryz.func219, Tryz.ntmps219
  go_wp2_with fail
  go_ret
  exact ⟨rfl, rfl⟩
set_option maxRecDepth 100000 in
set_option maxHeartbeats 2000000 in
theorem markOf4 (w : World) : Calls Tryz.prog 219 #[.int .i64 4] w fun e w' => e = .returned (.string ⟨#[60, 61]⟩) ∧ w' = w := by
  go_enter Tryz.func219, Tryz.ntmps219
  go_wp2_with fail
  go_ret
  exact ⟨rfl, rfl⟩
set_option maxRecDepth 100000 in
set_option maxHeartbeats 2000000 in
theorem markOf5 (w : World) : Calls Tryz.prog 219 #[.int .i64 5] w fun e w' => e = .returned (.string ⟨#[62]⟩) ∧ w' = w := by
  go_enter Tryz.func219, Tryz.ntmps219
  go_wp2_with fail
  go_ret
  exact ⟨rfl, rfl⟩
set_option maxRecDepth 100000 in
set_option maxHeartbeats 2000000 in
theorem markOf6 (w : World) : Calls Tryz.prog 219 #[.int .i64 6] w fun e w' => e = .returned (.string ⟨#[62, 61]⟩) ∧ w' = w := by
  go_enter Tryz.func219, Tryz.ntmps219
  go_wp2_with fail
  go_ret
  exact ⟨rfl, rfl⟩

/-- The comparisons from the k-th on. -/
def cmpP (k : Nat) (st : RS) : Int × RS := opLoopP (opsR.drop (k - 1)) k st
set_option maxRecDepth 100000 in
set_option maxHeartbeats 2000000 in
theorem comparison_ {b G : Nat} {st s1 : RS} {n : Int} {W : World} (h : PI b G st W) (hn : opLoopP opsR 1 st = (n, s1)) :
    Calls Tryz.prog 164 #[.pointer (some ⟨b, 0, none⟩)] W fun e W' => e = .returned (.int .i64 n) ∧ PI b G s1 W' ∧ W.grownBy W' (some b) := by
  have HH := Lib.hid h
  have HN : Hid (cmpP 1 st = (n, s1)) := hn
  clear h hn
  go_enter Tryz.func164, Tryz.ntmps164
  go_wp2_with fail
  go_loopg [3] 6 (fun m iv w => ∃ k : Nat, iv = .int .i64 (k : Int) ∧ k + m = 7 ∧ 1 ≤ k ∧ PI b G st w ∧ W.grownBy w (some b) ∧ cmpP k st = (n, s1))
  case atStart => exact ⟨1, rfl, rfl, by omega, HH.out, grown_refl _ _, HN.out⟩
  case round =>
    obtain ⟨k, rfl, hk, hk1, hp, hg, hc⟩ := hrel
    have HP := Lib.hid hp
    have HG := Lib.hid hg
    clear HH HN hp hg
    have hkk : k = 1 ∨ k = 2 ∨ k = 3 ∨ k = 4 ∨ k = 5 ∨ k = 6 ∨ k = 7 := by omega
    rcases hkk with rfl | rfl | rfl | rfl | rfl | rfl | rfl
    · cases hm : peekP mEq st with
      | true =>
        have e : ((1 : Int), acceptP mEq st) = (n, s1) := by rw [← hc]; show _ = (if peekP mEq st then _ else _); rw [hm]; rfl
        injection e with e1 e2
        subst e1; subst e2
        have HM := Lib.hid hm
        clear hm hc
        go_wp2_with (go_at_call 219; refine (markOf1 _).mono ?_; rintro e w' ⟨rfl, rfl⟩)
        refine (accept_ HP.out mEq true HM.out).mono ?_
        rintro e W2 ⟨rfl, h2, g2⟩
        have H2 := Lib.hid h2
        have G2 := Lib.hid (grown_trans HG.out g2)
        clear h2 g2
        go_wp2_with fail
        refine bodyPost_ret (v := .int .i64 1) ?_ rfl ⟨rfl, H2.out, G2.out⟩
        simp [results, Tryz.results164, go_sem]
      | false =>
        have hc2 : cmpP 2 st = (n, s1) := by rw [← hc]; show _ = (if peekP mEq st then _ else _); rw [hm]; rfl
        have HM := Lib.hid hm
        have HC := Lib.hid hc2
        clear hm hc hc2
        go_wp2_with (go_at_call 219; refine (markOf1 _).mono ?_; rintro e w' ⟨rfl, rfl⟩)
        refine (accept_ HP.out mEq false HM.out).mono ?_
        rintro e W2 ⟨rfl, h2, g2⟩
        rw [show acceptP mEq st = st by unfold acceptP; rw [HM.out]; rfl] at h2
        have H2 := Lib.hid h2
        have G2 := Lib.hid (grown_trans HG.out g2)
        clear h2 g2
        go_wp2_with fail
        go_roundg (gk - 1)
        case measure => omega
        case rel => exact ⟨2, by simp, by omega, by omega, H2.out, G2.out, HC.out⟩
    · cases hm : peekP mNe st with
      | true =>
        have e : ((2 : Int), acceptP mNe st) = (n, s1) := by rw [← hc]; show _ = (if peekP mNe st then _ else _); rw [hm]; rfl
        injection e with e1 e2
        subst e1; subst e2
        have HM := Lib.hid hm
        clear hm hc
        go_wp2_with (go_at_call 219; refine (markOf2 _).mono ?_; rintro e w' ⟨rfl, rfl⟩)
        refine (accept_ HP.out mNe true HM.out).mono ?_
        rintro e W2 ⟨rfl, h2, g2⟩
        have H2 := Lib.hid h2
        have G2 := Lib.hid (grown_trans HG.out g2)
        clear h2 g2
        go_wp2_with fail
        refine bodyPost_ret (v := .int .i64 2) ?_ rfl ⟨rfl, H2.out, G2.out⟩
        simp [results, Tryz.results164, go_sem]
      | false =>
        have hc2 : cmpP 3 st = (n, s1) := by rw [← hc]; show _ = (if peekP mNe st then _ else _); rw [hm]; rfl
        have HM := Lib.hid hm
        have HC := Lib.hid hc2
        clear hm hc hc2
        go_wp2_with (go_at_call 219; refine (markOf2 _).mono ?_; rintro e w' ⟨rfl, rfl⟩)
        refine (accept_ HP.out mNe false HM.out).mono ?_
        rintro e W2 ⟨rfl, h2, g2⟩
        rw [show acceptP mNe st = st by unfold acceptP; rw [HM.out]; rfl] at h2
        have H2 := Lib.hid h2
        have G2 := Lib.hid (grown_trans HG.out g2)
        clear h2 g2
        go_wp2_with fail
        go_roundg (gk - 1)
        case measure => omega
        case rel => exact ⟨3, by simp, by omega, by omega, H2.out, G2.out, HC.out⟩
    · cases hm : peekP mLt st with
      | true =>
        have e : ((3 : Int), acceptP mLt st) = (n, s1) := by rw [← hc]; show _ = (if peekP mLt st then _ else _); rw [hm]; rfl
        injection e with e1 e2
        subst e1; subst e2
        have HM := Lib.hid hm
        clear hm hc
        go_wp2_with (go_at_call 219; refine (markOf3 _).mono ?_; rintro e w' ⟨rfl, rfl⟩)
        refine (accept_ HP.out mLt true HM.out).mono ?_
        rintro e W2 ⟨rfl, h2, g2⟩
        have H2 := Lib.hid h2
        have G2 := Lib.hid (grown_trans HG.out g2)
        clear h2 g2
        go_wp2_with fail
        refine bodyPost_ret (v := .int .i64 3) ?_ rfl ⟨rfl, H2.out, G2.out⟩
        simp [results, Tryz.results164, go_sem]
      | false =>
        have hc2 : cmpP 4 st = (n, s1) := by rw [← hc]; show _ = (if peekP mLt st then _ else _); rw [hm]; rfl
        have HM := Lib.hid hm
        have HC := Lib.hid hc2
        clear hm hc hc2
        go_wp2_with (go_at_call 219; refine (markOf3 _).mono ?_; rintro e w' ⟨rfl, rfl⟩)
        refine (accept_ HP.out mLt false HM.out).mono ?_
        rintro e W2 ⟨rfl, h2, g2⟩
        rw [show acceptP mLt st = st by unfold acceptP; rw [HM.out]; rfl] at h2
        have H2 := Lib.hid h2
        have G2 := Lib.hid (grown_trans HG.out g2)
        clear h2 g2
        go_wp2_with fail
        go_roundg (gk - 1)
        case measure => omega
        case rel => exact ⟨4, by simp, by omega, by omega, H2.out, G2.out, HC.out⟩
    · cases hm : peekP mLe st with
      | true =>
        have e : ((4 : Int), acceptP mLe st) = (n, s1) := by rw [← hc]; show _ = (if peekP mLe st then _ else _); rw [hm]; rfl
        injection e with e1 e2
        subst e1; subst e2
        have HM := Lib.hid hm
        clear hm hc
        go_wp2_with (go_at_call 219; refine (markOf4 _).mono ?_; rintro e w' ⟨rfl, rfl⟩)
        refine (accept_ HP.out mLe true HM.out).mono ?_
        rintro e W2 ⟨rfl, h2, g2⟩
        have H2 := Lib.hid h2
        have G2 := Lib.hid (grown_trans HG.out g2)
        clear h2 g2
        go_wp2_with fail
        refine bodyPost_ret (v := .int .i64 4) ?_ rfl ⟨rfl, H2.out, G2.out⟩
        simp [results, Tryz.results164, go_sem]
      | false =>
        have hc2 : cmpP 5 st = (n, s1) := by rw [← hc]; show _ = (if peekP mLe st then _ else _); rw [hm]; rfl
        have HM := Lib.hid hm
        have HC := Lib.hid hc2
        clear hm hc hc2
        go_wp2_with (go_at_call 219; refine (markOf4 _).mono ?_; rintro e w' ⟨rfl, rfl⟩)
        refine (accept_ HP.out mLe false HM.out).mono ?_
        rintro e W2 ⟨rfl, h2, g2⟩
        rw [show acceptP mLe st = st by unfold acceptP; rw [HM.out]; rfl] at h2
        have H2 := Lib.hid h2
        have G2 := Lib.hid (grown_trans HG.out g2)
        clear h2 g2
        go_wp2_with fail
        go_roundg (gk - 1)
        case measure => omega
        case rel => exact ⟨5, by simp, by omega, by omega, H2.out, G2.out, HC.out⟩
    · cases hm : peekP mGt st with
      | true =>
        have e : ((5 : Int), acceptP mGt st) = (n, s1) := by rw [← hc]; show _ = (if peekP mGt st then _ else _); rw [hm]; rfl
        injection e with e1 e2
        subst e1; subst e2
        have HM := Lib.hid hm
        clear hm hc
        go_wp2_with (go_at_call 219; refine (markOf5 _).mono ?_; rintro e w' ⟨rfl, rfl⟩)
        refine (accept_ HP.out mGt true HM.out).mono ?_
        rintro e W2 ⟨rfl, h2, g2⟩
        have H2 := Lib.hid h2
        have G2 := Lib.hid (grown_trans HG.out g2)
        clear h2 g2
        go_wp2_with fail
        refine bodyPost_ret (v := .int .i64 5) ?_ rfl ⟨rfl, H2.out, G2.out⟩
        simp [results, Tryz.results164, go_sem]
      | false =>
        have hc2 : cmpP 6 st = (n, s1) := by rw [← hc]; show _ = (if peekP mGt st then _ else _); rw [hm]; rfl
        have HM := Lib.hid hm
        have HC := Lib.hid hc2
        clear hm hc hc2
        go_wp2_with (go_at_call 219; refine (markOf5 _).mono ?_; rintro e w' ⟨rfl, rfl⟩)
        refine (accept_ HP.out mGt false HM.out).mono ?_
        rintro e W2 ⟨rfl, h2, g2⟩
        rw [show acceptP mGt st = st by unfold acceptP; rw [HM.out]; rfl] at h2
        have H2 := Lib.hid h2
        have G2 := Lib.hid (grown_trans HG.out g2)
        clear h2 g2
        go_wp2_with fail
        go_roundg (gk - 1)
        case measure => omega
        case rel => exact ⟨6, by simp, by omega, by omega, H2.out, G2.out, HC.out⟩
    · cases hm : peekP mGe st with
      | true =>
        have e : ((6 : Int), acceptP mGe st) = (n, s1) := by rw [← hc]; show _ = (if peekP mGe st then _ else _); rw [hm]; rfl
        injection e with e1 e2
        subst e1; subst e2
        have HM := Lib.hid hm
        clear hm hc
        go_wp2_with (go_at_call 219; refine (markOf6 _).mono ?_; rintro e w' ⟨rfl, rfl⟩)
        refine (accept_ HP.out mGe true HM.out).mono ?_
        rintro e W2 ⟨rfl, h2, g2⟩
        have H2 := Lib.hid h2
        have G2 := Lib.hid (grown_trans HG.out g2)
        clear h2 g2
        go_wp2_with fail
        refine bodyPost_ret (v := .int .i64 6) ?_ rfl ⟨rfl, H2.out, G2.out⟩
        simp [results, Tryz.results164, go_sem]
      | false =>
        have hc2 : cmpP 7 st = (n, s1) := by rw [← hc]; show _ = (if peekP mGe st then _ else _); rw [hm]; rfl
        have HM := Lib.hid hm
        have HC := Lib.hid hc2
        clear hm hc hc2
        go_wp2_with (go_at_call 219; refine (markOf6 _).mono ?_; rintro e w' ⟨rfl, rfl⟩)
        refine (accept_ HP.out mGe false HM.out).mono ?_
        rintro e W2 ⟨rfl, h2, g2⟩
        rw [show acceptP mGe st = st by unfold acceptP; rw [HM.out]; rfl] at h2
        have H2 := Lib.hid h2
        have G2 := Lib.hid (grown_trans HG.out g2)
        clear h2 g2
        go_wp2_with fail
        go_roundg (gk - 1)
        case measure => omega
        case rel => exact ⟨7, by simp, by omega, by omega, H2.out, G2.out, HC.out⟩
    · have e : ((0 : Int), failP) = (n, s1) := hc
      injection e with e1 e2
      subst e1; subst e2
      clear hc
      go_wp2_with fail
      refine (fail_ HP.out).mono ?_
      rintro e W2 ⟨rfl, h2, g2⟩
      have H2 := Lib.hid h2
      have G2 := Lib.hid (grown_trans HG.out g2)
      clear h2 g2
      go_wp2_with fail
      refine bodyPost_ret (v := .int .i64 0) ?_ rfl ⟨rfl, H2.out, G2.out⟩
      simp [results, Tryz.results164, go_sem]

end Go.Proofs.YtobgbmfpicmpcaaGreatDoor

/- The program's parser: conditions. -/
namespace Go.Proofs.YtobgbmfpicmpcaaGreatDoor
open Go.RowKit

set_option maxRecDepth 100000 in
set_option maxHeartbeats 2000000 in
theorem pCondIsTrue {b G : Nat} {st s1 : RS} {r : PCond} {W : World} (h : PI b G st W) (hn : condP st = (r, s1)) {a : PTerm} {a1 : RS} (ha : termP st = (a, a1)) (hi : peekP kIS a1 = true) (hm : peekP kNOT (acceptP kIS a1) = true) :
    Calls Tryz.prog 100 #[.pointer (some ⟨b, 0, none⟩)] W fun e W' => e = .returned (.agg #[.int .i64 r.op, .string r.a.name, .string r.a.key, .int .i64 r.a.val, .string r.b.name, .string r.b.key, .int .i64 r.b.val]) ∧ PI b G s1 W' ∧ W.grownBy W' (some b) := by
  have H0 := Lib.hid (PX.start h #[.int .i64 0, .string ⟨#[]⟩, .string ⟨#[]⟩, .int .i64 0, .string ⟨#[]⟩, .string ⟨#[]⟩, .int .i64 0] 87)
  have HA := Lib.hid ha
  have e : ((⟨8, a, term0⟩ : PCond), expectP kNULL (acceptP kNOT (acceptP kIS a1))) = (r, s1) := by rw [← hn]; unfold condP; simp only [ha, hi, hm]; rfl
  injection e with e1 e3
  subst e1; subst e3
  have HI := Lib.hid hi
  have HM := Lib.hid hm
  clear h hn hm ha hi
  go_enter Tryz.func100, Tryz.ntmps100
  go_wp2_with fail
  obtain ⟨X, hX⟩ : ∃ X, X = W.heap.size := ⟨_, rfl⟩
  rw [← hX] at H0 ⊢
  clear hX
  generalize W.alloc (.cells #[.int .i64 0, .string ⟨#[]⟩, .string ⟨#[]⟩, .int .i64 0, .string ⟨#[]⟩, .string ⟨#[]⟩, .int .i64 0] 87) = W0' at H0 ⊢
  refine (term_ H0.out.p HA.out).mono ?_
  rintro e W1 ⟨rfl, h, g⟩
  have H1 := Lib.hid (H0.out.call h g)
  clear h g H0
  have H2 := Lib.hid (H1.out.more #[.int .i64 0, .string a.name, .string a.key, .int .i64 a.val, .string ⟨#[]⟩, .string ⟨#[]⟩, .int .i64 0] 87)
  clear H1
  go_wp2_with fail
  obtain ⟨Y, hY⟩ : ∃ Y, Y = W1.heap.size := ⟨_, rfl⟩; rw [← hY] at H2 ⊢; clear hY; generalize W1.alloc (.cells #[.int .i64 0, .string a.name, .string a.key, .int .i64 a.val, .string ⟨#[]⟩, .string ⟨#[]⟩, .int .i64 0] 87) = W2 at H2 ⊢
  refine (accept_ H2.out.q.p kIS true HI.out).mono ?_
  rintro e W3 ⟨rfl, h, g⟩
  have H3 := Lib.hid (H2.out.call h g)
  clear h g H2
  have c0 : W3.cell? ⟨Y, 0, none⟩ = some (.int .i64 0) := (H3.out.ly.cell 0).trans rfl
  have f0 : W3.frozen? ⟨Y, 0, none⟩ = false := H3.out.ly.free 0
  have H4 := Lib.hid (H3.out.setY 0 (.int .i64 7))
  clear H3
  go_wp2_with fail
  generalize (W3.setCell ⟨Y, 0, none⟩ (.int .i64 7)) = W4 at H4 ⊢; clear c0 f0
  refine (accept_ H4.out.q.p kNOT true HM.out).mono ?_
  rintro e W5 ⟨rfl, h, g⟩
  have H5 := Lib.hid (H4.out.call h g)
  clear h g H4
  have c0 : W5.cell? ⟨Y, 0, none⟩ = some (.int .i64 7) := (H5.out.ly.cell 0).trans rfl
  have f0 : W5.frozen? ⟨Y, 0, none⟩ = false := H5.out.ly.free 0
  have H6 := Lib.hid (H5.out.setY 0 (.int .i64 8))
  clear H5
  go_wp2_with fail
  generalize (W5.setCell ⟨Y, 0, none⟩ (.int .i64 8)) = W6 at H6 ⊢; clear c0 f0
  refine (expect_ H6.out.q.p kNULL).mono ?_
  rintro e W7 ⟨rfl, h, g⟩
  have H7 := Lib.hid (H6.out.call h g)
  clear h g H6
  have x0 : W7.cell? ⟨X, 0, none⟩ = some (.int .i64 0) := (H7.out.q.lx.cell 0).trans rfl
  have g0 : W7.frozen? ⟨X, 0, none⟩ = false := H7.out.q.lx.free 0
  have x1 : W7.cell? ⟨X, 1, none⟩ = some (.string ⟨#[]⟩) := (H7.out.q.lx.cell 1).trans rfl
  have g1 : W7.frozen? ⟨X, 1, none⟩ = false := H7.out.q.lx.free 1
  have x2 : W7.cell? ⟨X, 2, none⟩ = some (.string ⟨#[]⟩) := (H7.out.q.lx.cell 2).trans rfl
  have g2 : W7.frozen? ⟨X, 2, none⟩ = false := H7.out.q.lx.free 2
  have x3 : W7.cell? ⟨X, 3, none⟩ = some (.int .i64 0) := (H7.out.q.lx.cell 3).trans rfl
  have g3 : W7.frozen? ⟨X, 3, none⟩ = false := H7.out.q.lx.free 3
  have x4 : W7.cell? ⟨X, 4, none⟩ = some (.string ⟨#[]⟩) := (H7.out.q.lx.cell 4).trans rfl
  have g4 : W7.frozen? ⟨X, 4, none⟩ = false := H7.out.q.lx.free 4
  have x5 : W7.cell? ⟨X, 5, none⟩ = some (.string ⟨#[]⟩) := (H7.out.q.lx.cell 5).trans rfl
  have g5 : W7.frozen? ⟨X, 5, none⟩ = false := H7.out.q.lx.free 5
  have x6 : W7.cell? ⟨X, 6, none⟩ = some (.int .i64 0) := (H7.out.q.lx.cell 6).trans rfl
  have g6 : W7.frozen? ⟨X, 6, none⟩ = false := H7.out.q.lx.free 6
  have y0 : W7.cell? ⟨Y, 0, none⟩ = some (.int .i64 8) := (H7.out.ly.cell 0).trans rfl
  have y1 : W7.cell? ⟨Y, 1, none⟩ = some (.string a.name) := (H7.out.ly.cell 1).trans rfl
  have y2 : W7.cell? ⟨Y, 2, none⟩ = some (.string a.key) := (H7.out.ly.cell 2).trans rfl
  have y3 : W7.cell? ⟨Y, 3, none⟩ = some (.int .i64 a.val) := (H7.out.ly.cell 3).trans rfl
  have y4 : W7.cell? ⟨Y, 4, none⟩ = some (.string ⟨#[]⟩) := (H7.out.ly.cell 4).trans rfl
  have y5 : W7.cell? ⟨Y, 5, none⟩ = some (.string ⟨#[]⟩) := (H7.out.ly.cell 5).trans rfl
  have y6 : W7.cell? ⟨Y, 6, none⟩ = some (.int .i64 0) := (H7.out.ly.cell 6).trans rfl
  go_wp2_with fail
  have hF := (((((((H7.out.setX 0 (.int .i64 8)).setX 1 (.string a.name)).setX 2 (.string a.key)).setX 3 (.int .i64 a.val)).setX 4 (.string ⟨#[]⟩)).setX 5 (.string ⟨#[]⟩)).setX 6 (.int .i64 0)).q
  generalize (((((((W7.setCell ⟨X, 0, none⟩ (.int .i64 8)).setCell ⟨X, 1, none⟩ (.string a.name)).setCell ⟨X, 2, none⟩ (.string a.key)).setCell ⟨X, 3, none⟩ (.int .i64 a.val)).setCell ⟨X, 4, none⟩ (.string ⟨#[]⟩)).setCell ⟨X, 5, none⟩ (.string ⟨#[]⟩)).setCell ⟨X, 6, none⟩ (.int .i64 0)) = WF at hF ⊢
  refine bodyPost_ret (v := .agg #[.int .i64 8, .string a.name, .string a.key, .int .i64 a.val, .string ⟨#[]⟩, .string ⟨#[]⟩, .int .i64 0]) ?_ rfl ⟨rfl, hF.p, hF.grown⟩
  have r0 := hF.lx.cell 0
  have r1 := hF.lx.cell 1
  have r2 := hF.lx.cell 2
  have r3 := hF.lx.cell 3
  have r4 := hF.lx.cell 4
  have r5 := hF.lx.cell 5
  have r6 := hF.lx.cell 6
  simp at r0 r1 r2 r3 r4 r5 r6
  simp [results, Tryz.results100, go_sem, r0, r1, r2, r3, r4, r5, r6]

set_option maxRecDepth 100000 in
set_option maxHeartbeats 2000000 in
theorem pCondIsFalse {b G : Nat} {st s1 : RS} {r : PCond} {W : World} (h : PI b G st W) (hn : condP st = (r, s1)) {a : PTerm} {a1 : RS} (ha : termP st = (a, a1)) (hi : peekP kIS a1 = true) (hm : peekP kNOT (acceptP kIS a1) = false) :
    Calls Tryz.prog 100 #[.pointer (some ⟨b, 0, none⟩)] W fun e W' => e = .returned (.agg #[.int .i64 r.op, .string r.a.name, .string r.a.key, .int .i64 r.a.val, .string r.b.name, .string r.b.key, .int .i64 r.b.val]) ∧ PI b G s1 W' ∧ W.grownBy W' (some b) := by
  have H0 := Lib.hid (PX.start h #[.int .i64 0, .string ⟨#[]⟩, .string ⟨#[]⟩, .int .i64 0, .string ⟨#[]⟩, .string ⟨#[]⟩, .int .i64 0] 87)
  have HA := Lib.hid ha
  have e : ((⟨7, a, term0⟩ : PCond), expectP kNULL (acceptP kNOT (acceptP kIS a1))) = (r, s1) := by rw [← hn]; unfold condP; simp only [ha, hi, hm]; rfl
  injection e with e1 e3
  subst e1; subst e3
  have HI := Lib.hid hi
  have HM := Lib.hid hm
  clear h hn hm ha hi
  go_enter Tryz.func100, Tryz.ntmps100
  go_wp2_with fail
  obtain ⟨X, hX⟩ : ∃ X, X = W.heap.size := ⟨_, rfl⟩
  rw [← hX] at H0 ⊢
  clear hX
  generalize W.alloc (.cells #[.int .i64 0, .string ⟨#[]⟩, .string ⟨#[]⟩, .int .i64 0, .string ⟨#[]⟩, .string ⟨#[]⟩, .int .i64 0] 87) = W0' at H0 ⊢
  refine (term_ H0.out.p HA.out).mono ?_
  rintro e W1 ⟨rfl, h, g⟩
  have H1 := Lib.hid (H0.out.call h g)
  clear h g H0
  have H2 := Lib.hid (H1.out.more #[.int .i64 0, .string a.name, .string a.key, .int .i64 a.val, .string ⟨#[]⟩, .string ⟨#[]⟩, .int .i64 0] 87)
  clear H1
  go_wp2_with fail
  obtain ⟨Y, hY⟩ : ∃ Y, Y = W1.heap.size := ⟨_, rfl⟩; rw [← hY] at H2 ⊢; clear hY; generalize W1.alloc (.cells #[.int .i64 0, .string a.name, .string a.key, .int .i64 a.val, .string ⟨#[]⟩, .string ⟨#[]⟩, .int .i64 0] 87) = W2 at H2 ⊢
  refine (accept_ H2.out.q.p kIS true HI.out).mono ?_
  rintro e W3 ⟨rfl, h, g⟩
  have H3 := Lib.hid (H2.out.call h g)
  clear h g H2
  have c0 : W3.cell? ⟨Y, 0, none⟩ = some (.int .i64 0) := (H3.out.ly.cell 0).trans rfl
  have f0 : W3.frozen? ⟨Y, 0, none⟩ = false := H3.out.ly.free 0
  have H4 := Lib.hid (H3.out.setY 0 (.int .i64 7))
  clear H3
  go_wp2_with fail
  generalize (W3.setCell ⟨Y, 0, none⟩ (.int .i64 7)) = W4 at H4 ⊢; clear c0 f0
  refine (accept_ H4.out.q.p kNOT false HM.out).mono ?_
  rintro e W5 ⟨rfl, h, g⟩
  have H5 := Lib.hid (H4.out.call h g)
  clear h g H4
  go_wp2_with fail
  refine (expect_ H5.out.q.p kNULL).mono ?_
  rintro e W6 ⟨rfl, h, g⟩
  have H6 := Lib.hid (H5.out.call h g)
  clear h g H5
  have x0 : W6.cell? ⟨X, 0, none⟩ = some (.int .i64 0) := (H6.out.q.lx.cell 0).trans rfl
  have g0 : W6.frozen? ⟨X, 0, none⟩ = false := H6.out.q.lx.free 0
  have x1 : W6.cell? ⟨X, 1, none⟩ = some (.string ⟨#[]⟩) := (H6.out.q.lx.cell 1).trans rfl
  have g1 : W6.frozen? ⟨X, 1, none⟩ = false := H6.out.q.lx.free 1
  have x2 : W6.cell? ⟨X, 2, none⟩ = some (.string ⟨#[]⟩) := (H6.out.q.lx.cell 2).trans rfl
  have g2 : W6.frozen? ⟨X, 2, none⟩ = false := H6.out.q.lx.free 2
  have x3 : W6.cell? ⟨X, 3, none⟩ = some (.int .i64 0) := (H6.out.q.lx.cell 3).trans rfl
  have g3 : W6.frozen? ⟨X, 3, none⟩ = false := H6.out.q.lx.free 3
  have x4 : W6.cell? ⟨X, 4, none⟩ = some (.string ⟨#[]⟩) := (H6.out.q.lx.cell 4).trans rfl
  have g4 : W6.frozen? ⟨X, 4, none⟩ = false := H6.out.q.lx.free 4
  have x5 : W6.cell? ⟨X, 5, none⟩ = some (.string ⟨#[]⟩) := (H6.out.q.lx.cell 5).trans rfl
  have g5 : W6.frozen? ⟨X, 5, none⟩ = false := H6.out.q.lx.free 5
  have x6 : W6.cell? ⟨X, 6, none⟩ = some (.int .i64 0) := (H6.out.q.lx.cell 6).trans rfl
  have g6 : W6.frozen? ⟨X, 6, none⟩ = false := H6.out.q.lx.free 6
  have y0 : W6.cell? ⟨Y, 0, none⟩ = some (.int .i64 7) := (H6.out.ly.cell 0).trans rfl
  have y1 : W6.cell? ⟨Y, 1, none⟩ = some (.string a.name) := (H6.out.ly.cell 1).trans rfl
  have y2 : W6.cell? ⟨Y, 2, none⟩ = some (.string a.key) := (H6.out.ly.cell 2).trans rfl
  have y3 : W6.cell? ⟨Y, 3, none⟩ = some (.int .i64 a.val) := (H6.out.ly.cell 3).trans rfl
  have y4 : W6.cell? ⟨Y, 4, none⟩ = some (.string ⟨#[]⟩) := (H6.out.ly.cell 4).trans rfl
  have y5 : W6.cell? ⟨Y, 5, none⟩ = some (.string ⟨#[]⟩) := (H6.out.ly.cell 5).trans rfl
  have y6 : W6.cell? ⟨Y, 6, none⟩ = some (.int .i64 0) := (H6.out.ly.cell 6).trans rfl
  go_wp2_with fail
  have hF := (((((((H6.out.setX 0 (.int .i64 7)).setX 1 (.string a.name)).setX 2 (.string a.key)).setX 3 (.int .i64 a.val)).setX 4 (.string ⟨#[]⟩)).setX 5 (.string ⟨#[]⟩)).setX 6 (.int .i64 0)).q
  generalize (((((((W6.setCell ⟨X, 0, none⟩ (.int .i64 7)).setCell ⟨X, 1, none⟩ (.string a.name)).setCell ⟨X, 2, none⟩ (.string a.key)).setCell ⟨X, 3, none⟩ (.int .i64 a.val)).setCell ⟨X, 4, none⟩ (.string ⟨#[]⟩)).setCell ⟨X, 5, none⟩ (.string ⟨#[]⟩)).setCell ⟨X, 6, none⟩ (.int .i64 0)) = WF at hF ⊢
  refine bodyPost_ret (v := .agg #[.int .i64 7, .string a.name, .string a.key, .int .i64 a.val, .string ⟨#[]⟩, .string ⟨#[]⟩, .int .i64 0]) ?_ rfl ⟨rfl, hF.p, hF.grown⟩
  have r0 := hF.lx.cell 0
  have r1 := hF.lx.cell 1
  have r2 := hF.lx.cell 2
  have r3 := hF.lx.cell 3
  have r4 := hF.lx.cell 4
  have r5 := hF.lx.cell 5
  have r6 := hF.lx.cell 6
  simp at r0 r1 r2 r3 r4 r5 r6
  simp [results, Tryz.results100, go_sem, r0, r1, r2, r3, r4, r5, r6]

set_option maxRecDepth 100000 in
set_option maxHeartbeats 2000000 in
theorem pCondNo {b G : Nat} {st s1 : RS} {r : PCond} {W : World} (h : PI b G st W) (hn : condP st = (r, s1)) {a : PTerm} {a1 : RS} (ha : termP st = (a, a1)) (hi : peekP kIS a1 = false) :
    Calls Tryz.prog 100 #[.pointer (some ⟨b, 0, none⟩)] W fun e W' => e = .returned (.agg #[.int .i64 r.op, .string r.a.name, .string r.a.key, .int .i64 r.a.val, .string r.b.name, .string r.b.key, .int .i64 r.b.val]) ∧ PI b G s1 W' ∧ W.grownBy W' (some b) := by
  have H0 := Lib.hid (PX.start h #[.int .i64 0, .string ⟨#[]⟩, .string ⟨#[]⟩, .int .i64 0, .string ⟨#[]⟩, .string ⟨#[]⟩, .int .i64 0] 87)
  have HA := Lib.hid ha
  obtain ⟨o', a2, hk⟩ : ∃ k' az, opLoopP opsR 1 a1 = (k', az) := ⟨_, _, rfl⟩
  obtain ⟨t', a3, ht⟩ : ∃ k' az, termP a2 = (k', az) := ⟨_, _, rfl⟩
  have e : ((⟨o', a, t'⟩ : PCond), a3) = (r, s1) := by rw [← hn]; unfold condP; simp only [ha, hi, hk, ht]; rfl
  injection e with e1 e3
  subst e1; subst e3
  have HI := Lib.hid hi
  have HK := Lib.hid hk
  have HT := Lib.hid ht
  clear h hn ha hi hk ht
  go_enter Tryz.func100, Tryz.ntmps100
  go_wp2_with fail
  obtain ⟨X, hX⟩ : ∃ X, X = W.heap.size := ⟨_, rfl⟩
  rw [← hX] at H0 ⊢
  clear hX
  generalize W.alloc (.cells #[.int .i64 0, .string ⟨#[]⟩, .string ⟨#[]⟩, .int .i64 0, .string ⟨#[]⟩, .string ⟨#[]⟩, .int .i64 0] 87) = W0' at H0 ⊢
  refine (term_ H0.out.p HA.out).mono ?_
  rintro e W1 ⟨rfl, h, g⟩
  have H1 := Lib.hid (H0.out.call h g)
  clear h g H0
  have H2 := Lib.hid (H1.out.more #[.int .i64 0, .string a.name, .string a.key, .int .i64 a.val, .string ⟨#[]⟩, .string ⟨#[]⟩, .int .i64 0] 87)
  clear H1
  go_wp2_with fail
  obtain ⟨Y, hY⟩ : ∃ Y, Y = W1.heap.size := ⟨_, rfl⟩; rw [← hY] at H2 ⊢; clear hY; generalize W1.alloc (.cells #[.int .i64 0, .string a.name, .string a.key, .int .i64 a.val, .string ⟨#[]⟩, .string ⟨#[]⟩, .int .i64 0] 87) = W2 at H2 ⊢
  refine (accept_ H2.out.q.p kIS false HI.out).mono ?_
  rintro e W3 ⟨rfl, h, g⟩
  have H3 := Lib.hid (H2.out.call h g)
  clear h g H2
  rw [show acceptP kIS a1 = a1 by unfold acceptP; rw [HI.out]; rfl] at H3
  go_wp2_with fail
  refine (comparison_ H3.out.q.p HK.out).mono ?_
  rintro e W4 ⟨rfl, h, g⟩
  have H4 := Lib.hid (H3.out.call h g)
  clear h g H3
  have c0 : W4.cell? ⟨Y, 0, none⟩ = some (.int .i64 0) := (H4.out.ly.cell 0).trans rfl
  have f0 : W4.frozen? ⟨Y, 0, none⟩ = false := H4.out.ly.free 0
  have H5 := Lib.hid (H4.out.setY 0 (.int .i64 o'))
  clear H4
  go_wp2_with fail
  generalize (W4.setCell ⟨Y, 0, none⟩ (.int .i64 o')) = W5 at H5 ⊢; clear c0 f0
  refine (term_ H5.out.q.p HT.out).mono ?_
  rintro e W6 ⟨rfl, h, g⟩
  have H6 := Lib.hid (H5.out.call h g)
  clear h g H5
  have c4 : W6.cell? ⟨Y, 4, none⟩ = some (.string ⟨#[]⟩) := (H6.out.ly.cell 4).trans rfl
  have f4 : W6.frozen? ⟨Y, 4, none⟩ = false := H6.out.ly.free 4
  have c5 : W6.cell? ⟨Y, 5, none⟩ = some (.string ⟨#[]⟩) := (H6.out.ly.cell 5).trans rfl
  have f5 : W6.frozen? ⟨Y, 5, none⟩ = false := H6.out.ly.free 5
  have c6 : W6.cell? ⟨Y, 6, none⟩ = some (.int .i64 0) := (H6.out.ly.cell 6).trans rfl
  have f6 : W6.frozen? ⟨Y, 6, none⟩ = false := H6.out.ly.free 6
  have H7 := Lib.hid (((H6.out.setY 4 (.string t'.name)).setY 5 (.string t'.key)).setY 6 (.int .i64 t'.val))
  clear H6
  go_upto_region 10 with fail
  generalize (((W6.setCell ⟨Y, 4, none⟩ (.string t'.name)).setCell ⟨Y, 5, none⟩ (.string t'.key)).setCell ⟨Y, 6, none⟩ (.int .i64 t'.val)) = W7 at H7 ⊢; clear c4 f4 c5 f5 c6 f6
  have x0 : W7.cell? ⟨X, 0, none⟩ = some (.int .i64 0) := (H7.out.q.lx.cell 0).trans rfl
  have g0 : W7.frozen? ⟨X, 0, none⟩ = false := H7.out.q.lx.free 0
  have x1 : W7.cell? ⟨X, 1, none⟩ = some (.string ⟨#[]⟩) := (H7.out.q.lx.cell 1).trans rfl
  have g1 : W7.frozen? ⟨X, 1, none⟩ = false := H7.out.q.lx.free 1
  have x2 : W7.cell? ⟨X, 2, none⟩ = some (.string ⟨#[]⟩) := (H7.out.q.lx.cell 2).trans rfl
  have g2 : W7.frozen? ⟨X, 2, none⟩ = false := H7.out.q.lx.free 2
  have x3 : W7.cell? ⟨X, 3, none⟩ = some (.int .i64 0) := (H7.out.q.lx.cell 3).trans rfl
  have g3 : W7.frozen? ⟨X, 3, none⟩ = false := H7.out.q.lx.free 3
  have x4 : W7.cell? ⟨X, 4, none⟩ = some (.string ⟨#[]⟩) := (H7.out.q.lx.cell 4).trans rfl
  have g4 : W7.frozen? ⟨X, 4, none⟩ = false := H7.out.q.lx.free 4
  have x5 : W7.cell? ⟨X, 5, none⟩ = some (.string ⟨#[]⟩) := (H7.out.q.lx.cell 5).trans rfl
  have g5 : W7.frozen? ⟨X, 5, none⟩ = false := H7.out.q.lx.free 5
  have x6 : W7.cell? ⟨X, 6, none⟩ = some (.int .i64 0) := (H7.out.q.lx.cell 6).trans rfl
  have g6 : W7.frozen? ⟨X, 6, none⟩ = false := H7.out.q.lx.free 6
  have y0 : W7.cell? ⟨Y, 0, none⟩ = some (.int .i64 o') := (H7.out.ly.cell 0).trans rfl
  have y1 : W7.cell? ⟨Y, 1, none⟩ = some (.string a.name) := (H7.out.ly.cell 1).trans rfl
  have y2 : W7.cell? ⟨Y, 2, none⟩ = some (.string a.key) := (H7.out.ly.cell 2).trans rfl
  have y3 : W7.cell? ⟨Y, 3, none⟩ = some (.int .i64 a.val) := (H7.out.ly.cell 3).trans rfl
  have y4 : W7.cell? ⟨Y, 4, none⟩ = some (.string t'.name) := (H7.out.ly.cell 4).trans rfl
  have y5 : W7.cell? ⟨Y, 5, none⟩ = some (.string t'.key) := (H7.out.ly.cell 5).trans rfl
  have y6 : W7.cell? ⟨Y, 6, none⟩ = some (.int .i64 t'.val) := (H7.out.ly.cell 6).trans rfl
  go_wp2_with fail
  have hF := (((((((H7.out.setX 0 (.int .i64 o')).setX 1 (.string a.name)).setX 2 (.string a.key)).setX 3 (.int .i64 a.val)).setX 4 (.string t'.name)).setX 5 (.string t'.key)).setX 6 (.int .i64 t'.val)).q
  generalize (((((((W7.setCell ⟨X, 0, none⟩ (.int .i64 o')).setCell ⟨X, 1, none⟩ (.string a.name)).setCell ⟨X, 2, none⟩ (.string a.key)).setCell ⟨X, 3, none⟩ (.int .i64 a.val)).setCell ⟨X, 4, none⟩ (.string t'.name)).setCell ⟨X, 5, none⟩ (.string t'.key)).setCell ⟨X, 6, none⟩ (.int .i64 t'.val)) = WF at hF ⊢
  refine bodyPost_ret (v := .agg #[.int .i64 o', .string a.name, .string a.key, .int .i64 a.val, .string t'.name, .string t'.key, .int .i64 t'.val]) ?_ rfl ⟨rfl, hF.p, hF.grown⟩
  have r0 := hF.lx.cell 0
  have r1 := hF.lx.cell 1
  have r2 := hF.lx.cell 2
  have r3 := hF.lx.cell 3
  have r4 := hF.lx.cell 4
  have r5 := hF.lx.cell 5
  have r6 := hF.lx.cell 6
  simp at r0 r1 r2 r3 r4 r5 r6
  simp [results, Tryz.results100, go_sem, r0, r1, r2, r3, r4, r5, r6]

theorem cond_ {b G : Nat} {st s1 : RS} {r : PCond} {W : World} (h : PI b G st W) (hn : condP st = (r, s1)) :
    Calls Tryz.prog 100 #[.pointer (some ⟨b, 0, none⟩)] W fun e W' => e = .returned (.agg #[.int .i64 r.op, .string r.a.name, .string r.a.key, .int .i64 r.a.val, .string r.b.name, .string r.b.key, .int .i64 r.b.val]) ∧ PI b G s1 W' ∧ W.grownBy W' (some b) := by
  obtain ⟨a, a1, ha⟩ : ∃ k' az, termP st = (k', az) := ⟨_, _, rfl⟩
  cases hi : peekP kIS a1 with
  | false => exact pCondNo h hn ha hi
  | true =>
    cases hm : peekP kNOT (acceptP kIS a1) with
    | true => exact pCondIsTrue h hn ha hi hm
    | false => exact pCondIsFalse h hn ha hi hm

end Go.Proofs.YtobgbmfpicmpcaaGreatDoor

/- The two readers of queries, the program's and the reference's, as plain functions: a failure stays a failure. No program in this text. -/
namespace Go.Proofs.YtobgbmfpicmpcaaGreatDoor.Pure

theorem orBad_bad {st : RS} {x : Bool} (h : st.bad = true) : (st.orBad x).bad = true := by unfold RS.orBad; simp [h]
theorem orBad_true (st : RS) : (st.orBad true).bad = true := by unfold RS.orBad; simp
theorem orBad_false (st : RS) : st.orBad false = st := by unfold RS.orBad; simp
theorem hasR_bad {s : ByteArray} {st : RS} (h : st.bad = true) : (hasR s st).bad = true := by unfold hasR; split <;> exact h
theorem hasR_keeps {s : ByteArray} {st : RS} : (hasR s st).bad = st.bad := by unfold hasR; split <;> rfl
theorem mustR_bad {s : ByteArray} {st : RS} (h : st.bad = true) : (mustR s st).bad = true := by unfold mustR; exact orBad_bad (hasR_bad h)
theorem nextR_bad {k : Int} {st : RS} (h : st.bad = true) : (nextR k st).2.bad = true := by unfold nextR; split; exact h; exact rfl
theorem nameR_bad {st : RS} (h : st.bad = true) : (nameR st).2.bad = true := by unfold nameR; exact orBad_bad (nextR_bad h)
theorem titleR_bad {st : RS} (h : st.bad = true) : (titleR st).2.bad = true := by unfold titleR; exact orBad_bad (nextR_bad h)
theorem countR_bad {lo hi : Int} {st : RS} (h : st.bad = true) : (countR lo hi st).2.bad = true := by unfold countR; exact orBad_bad (nextR_bad h)
theorem acceptP_bad {s : ByteArray} {st : RS} (h : st.bad = true) : (acceptP s st).bad = true := by unfold acceptP; split <;> exact h
theorem expectP_bad {s : ByteArray} {st : RS} (h : st.bad = true) : (expectP s st).bad = true := by unfold expectP; split; exact acceptP_bad h; exact rfl
theorem takeP_bad {k : Int} {st : RS} (h : st.bad = true) : (takeP k st).2.bad = true := by unfold takeP; split; exact h; exact rfl
theorem nameP_bad {st : RS} (h : st.bad = true) : (nameP st).2.bad = true := takeP_bad h
theorem titleP_bad {st : RS} (h : st.bad = true) : (titleP st).2.bad = true := takeP_bad h
theorem numberP_bad {lo hi : Int} {st : RS} (h : st.bad = true) : (numberP lo hi st).2.bad = true := by unfold numberP; simp only; split; exact rfl; exact takeP_bad h

theorem spotP_bad {x : PSpot} {st : RS} (h : st.bad = true) : (spotP x st).2.bad = true := by
  unfold spotP; simp only; refine expectP_bad ?_; split
  · exact titleP_bad (acceptP_bad (nameP_bad (expectP_bad h)))
  · exact nameP_bad (expectP_bad h)
theorem spotR_bad {x : PSpot} {st : RS} (h : st.bad = true) : (spotR x st).2.bad = true := by
  unfold spotR; simp only; refine mustR_bad ?_; split
  · exact titleR_bad (hasR_bad (nameR_bad (mustR_bad h)))
  · exact nameR_bad (mustR_bad h)
theorem starP_bad {st : RS} (h : st.bad = true) : (starP st).2.bad = true := by
  unfold starP; split
  · exact numberP_bad (expectP_bad (numberP_bad (acceptP_bad h)))
  · exact h
theorem starR_bad {st : RS} (h : st.bad = true) : (starR st).2.bad = true := by
  unfold starR; split
  · exact countR_bad (mustR_bad (countR_bad (hasR_bad h)))
  · exact h
theorem stepP_bad {st : RS} (h : st.bad = true) : (stepP st).2.bad = true := by unfold stepP; exact expectP_bad (starP_bad (titleP_bad h))
theorem hopP_bad {st : RS} (h : st.bad = true) : (hopP st).2.bad = true := by unfold hopP; exact spotP_bad (stepP_bad h)
theorem stepR_bad {st : RS} (h : st.bad = true) : (stepR st).2.bad = true := by unfold stepR; exact spotR_bad (mustR_bad (starR_bad (titleR_bad h)))
theorem propP_bad {st : RS} (h : st.bad = true) : (propP st).2.bad = true := by unfold propP; exact nameP_bad (expectP_bad (nameP_bad h))
theorem termP_bad {st : RS} (h : st.bad = true) : (termP st).2.bad = true := by
  unfold termP; split
  · exact numberP_bad h
  · exact propP_bad h
theorem termR_bad {st : RS} (h : st.bad = true) : (termR st).2.bad = true := by
  unfold termR; split
  · exact nextR_bad h
  · exact nameR_bad (mustR_bad (nameR_bad h))
theorem opLoopP_bad {l : List ByteArray} : ∀ {i : Int} {st : RS}, st.bad = true → (opLoopP l i st).2.bad = true := by
  induction l with
  | nil => intro i st h; rfl
  | cons m r ih => intro i st h; simp only [opLoopP]; split; exact acceptP_bad h; exact ih h
theorem opLoop_bad {l : List ByteArray} : ∀ {i : Int} {st : RS}, st.bad = true → (opLoop l i st).2.bad = true := by
  induction l with
  | nil => intro i st h; exact h
  | cons m r ih => intro i st h; simp only [opLoop]; split; exact hasR_bad h; exact ih h
theorem condP_bad {st : RS} (h : st.bad = true) : (condP st).2.bad = true := by
  unfold condP; simp only; split
  · exact expectP_bad (acceptP_bad (acceptP_bad (termP_bad h)))
  · exact termP_bad (opLoopP_bad (termP_bad h))
theorem condR_bad {st : RS} (h : st.bad = true) : (condR st).2.bad = true := by
  unfold condR; simp only; split
  · exact mustR_bad (hasR_bad (hasR_bad (termR_bad h)))
  · exact termR_bad (orBad_bad (opLoop_bad (termR_bad h)))
theorem itemP_bad {st : RS} (h : st.bad = true) : (itemP st).2.bad = true := by
  unfold itemP; split
  · exact acceptP_bad h
  · simp only; split
    · exact nameP_bad (acceptP_bad (nameP_bad h))
    · exact nameP_bad h
theorem itemR_bad {st : RS} (h : st.bad = true) : (itemR st).2.bad = true := by
  unfold itemR; split
  · exact hasR_bad h
  · simp only; split
    · exact nameR_bad (hasR_bad (nameR_bad h))
    · exact nameR_bad h
theorem pairP_bad {st : RS} (h : st.bad = true) : (pairP st).2.bad = true := by unfold pairP; exact numberP_bad (expectP_bad (nameP_bad h))
theorem listLoop_bad {α : Type} {one : RS → α × RS} {sep : ByteArray} (ho : ∀ {st : RS}, st.bad = true → (one st).2.bad = true) (n : Nat) : ∀ {out : List α} {st : RS}, st.bad = true → (listLoop one sep n out st).2.bad = true := by
  induction n with
  | zero => intro out st h; exact h
  | succ n ih => intro out st h; simp only [listLoop]; split; exact ih (ho (acceptP_bad h)); exact h
theorem listP_bad {α : Type} {one : RS → α × RS} {sep : ByteArray} {most : Nat} (ho : ∀ {st : RS}, st.bad = true → (one st).2.bad = true) {st : RS} (h : st.bad = true) : (listP one sep most st).2.bad = true := by
  unfold listP; simp only; split; exact rfl; exact listLoop_bad ho _ (ho h)
theorem spotsLoop_bad (n : Nat) : ∀ {out : List PSpot} {st : RS}, st.bad = true → (spotsLoop n out st).2.bad = true := by
  induction n with
  | zero => intro out st h; exact h
  | succ n ih =>
    intro out st h; simp only [spotsLoop]; split
    · exact ih (spotP_bad (acceptP_bad h))
    · split
      · exact ih (hopP_bad (acceptP_bad h))
      · exact h
theorem spotsP_bad {st : RS} (h : st.bad = true) : (spotsP st).2.bad = true := by
  unfold spotsP; simp only; split; exact rfl; exact spotsLoop_bad _ (spotP_bad h)
theorem pathLoop_bad (n : Nat) : ∀ {out : List PSpot} {st : RS}, st.bad = true → (pathLoop n out st).2.bad = true := by
  induction n with
  | zero => intro out st h; exact h
  | succ n ih => intro out st h; simp only [pathLoop]; split; exact ih (stepR_bad (hasR_bad h)); exact h
theorem pathR_bad {st : RS} (h : st.bad = true) : (pathR st).2.bad = true := by unfold pathR; exact pathLoop_bad _ (spotR_bad h)
theorem orderP_bad {k : Int} {st : RS} (h : st.bad = true) : (orderP k st).2.bad = true := by
  unfold orderP; split
  · exact acceptP_bad (numberP_bad (expectP_bad (acceptP_bad h)))
  · exact h
theorem orderR_bad {k : Int} {st : RS} (h : st.bad = true) : (orderR k st).2.bad = true := by
  unfold orderR; split
  · exact hasR_bad (countR_bad (mustR_bad (hasR_bad h)))
  · exact h
theorem partP_bad {s : ByteArray} {k : Int} {st : RS} (h : st.bad = true) : (partP s k st).2.bad = true := by
  unfold partP; split; exact numberP_bad (acceptP_bad h); exact h
theorem partR_bad {s : ByteArray} {k : Int} {st : RS} (h : st.bad = true) : (partR s k st).2.bad = true := by
  unfold partR; split; exact countR_bad (hasR_bad h); exact h
theorem linkP_bad {st : RS} (h : st.bad = true) : (linkP st).2.bad = true := by
  unfold linkP; exact expectP_bad (nameP_bad (expectP_bad (expectP_bad (titleP_bad (expectP_bad (expectP_bad (nameP_bad (expectP_bad h))))))))
theorem linkR_bad {st : RS} (h : (mustR kCREATE st).bad = true) : (linkR st).2.bad = true := by
  unfold linkR; exact mustR_bad (nameR_bad (mustR_bad (mustR_bad (titleR_bad (mustR_bad (mustR_bad (nameR_bad (mustR_bad h))))))))
theorem setP_bad {st : RS} (h : st.bad = true) : (setP st).2.bad = true := by unfold setP; exact termP_bad (expectP_bad (propP_bad h))
theorem setR_bad {st : RS} (h : st.bad = true) : (setR st).2.bad = true := by unfold setR; exact termR_bad (mustR_bad (nameR_bad (mustR_bad (nameR_bad h))))
theorem readP_bad {st : RS} (h : st.bad = true) : (readP st).2.bad = true := by unfold readP; exact partP_bad (partP_bad (orderP_bad (listP_bad itemP_bad h)))
theorem whereP_bad {st : RS} (h : st.bad = true) : (whereP st).2.bad = true := by
  unfold whereP; split; exact listP_bad condP_bad (acceptP_bad h); exact h
theorem actionP_bad {q : PQuery} {st : RS} (h : st.bad = true) : (actionP q st).2.bad = true := by
  unfold actionP; split
  · exact readP_bad (acceptP_bad h)
  · split
    · exact setP_bad (acceptP_bad h)
    · split
      · exact nameP_bad (acceptP_bad h)
      · split
        · exact linkP_bad (acceptP_bad h)
        · rfl

end Go.Proofs.YtobgbmfpicmpcaaGreatDoor.Pure

/- The two readers of queries, as plain functions: where neither fails they do the same, and where one fails the other does: tokens, spots, terms, conditions, items. No program in this text. -/
namespace Go.Proofs.YtobgbmfpicmpcaaGreatDoor.Pure

def lits : List ByteArray := keywords ++ [mOpen, mClose, mColon, mComma, mDot, mDots, mStar, mTo, mArrow, mBrace, mUnbrace, mEq, mNe, mLt, mLe, mGt, mGe]
/-- What is known of a token that came out of a text. -/
structure VT (t : Tok) : Prop where
  lo : t.kind = 2 → -1000000000 ≤ t.val
  hi : t.kind = 2 → t.val ≤ 1000000000
  no : t.kind = 2 → ∀ s ∈ lits, eqB t.text s = false
structure Ok (st : RS) : Prop where
  good : st.bad = false
  all : ∀ t ∈ st.rest, VT t
def AgS (p r : RS) : Prop := (p.bad = true ∧ r.bad = true) ∨ (p = r ∧ Ok p)
def Ag {α : Type} (p r : α × RS) : Prop := (p.2.bad = true ∧ r.2.bad = true) ∨ (p = r ∧ Ok p.2)

variable {st : RS}
theorem peek_eq (h : Ok st) {s : ByteArray} (hs : s ∈ lits) : peekP s st = peekR s st := by
  unfold peekP peekR
  cases hr : st.rest with
  | nil => rfl
  | cons t r =>
    have hv := h.all t (by rw [hr]; simp)
    by_cases hk : t.kind = 2
    · simp only [hv.no hk s hs]; simp
    · simp [hk]
theorem accept_eq (h : Ok st) {s : ByteArray} (hs : s ∈ lits) : acceptP s st = hasR s st := by
  unfold acceptP hasR; rw [peek_eq h hs]
theorem Ok.tail (h : Ok st) : Ok ⟨st.rest.tail, st.bad⟩ := ⟨h.good, fun t ht => h.all t (List.mem_of_mem_tail ht)⟩
theorem Ok.has (h : Ok st) (s : ByteArray) : Ok (hasR s st) := by unfold hasR; split; exact h.tail; exact h
theorem expect_ag (h : Ok st) {s : ByteArray} (hs : s ∈ lits) : AgS (expectP s st) (mustR s st) := by
  unfold expectP mustR
  rw [peek_eq h hs, accept_eq h hs]
  cases peekR s st with
  | true => exact Or.inr ⟨by simp [orBad_false], by simpa using h.has s⟩
  | false => exact Or.inl ⟨rfl, orBad_true _⟩
theorem kindP_one {t : Tok} : kindP t = 1 ↔ t.kind = 1 ∧ isName t.text = true := by
  unfold kindP kindW
  constructor
  · intro h; repeat' split at h
    all_goals first | omega | exact ⟨by assumption, by assumption⟩
  · rintro ⟨h1, h2⟩; simp [h1, h2]
theorem title_name {s : ByteArray} (h : isTitle s = true) : isName s = false := by
  unfold isTitle isName at *
  simp only [Bool.and_eq_true, decide_eq_true_eq] at h
  have : ¬ (97 ≤ bt s 0) := by omega
  simp [this]
theorem kindP_two {t : Tok} : kindP t = 2 ↔ t.kind = 1 ∧ isTitle t.text = true := by
  unfold kindP kindW
  constructor
  · intro h; repeat' split at h
    all_goals first | omega | exact ⟨by assumption, by assumption⟩
  · rintro ⟨h1, h2⟩; simp [h1, h2, title_name h2]
theorem kindP_four {t : Tok} : kindP t = 4 ↔ t.kind = 2 := by
  unfold kindP kindW
  constructor
  · intro h; repeat' split at h
    all_goals first | omega | assumption
  · intro h1; simp [h1]
theorem name_ag (h : Ok st) : Ag (nameP st) (nameR st) := by
  unfold nameP nameR takeP nextR seesP isKind
  cases hr : st.rest with
  | nil => exact Or.inl ⟨rfl, by simp [RS.orBad]⟩
  | cons t r =>
    simp only [kindP_one, decide_eq_true_eq]
    by_cases hk : t.kind = 1
    · by_cases hn : isName t.text = true
      · refine Or.inr ⟨by simp [hk, hn, orBad_false], ?_⟩
        have := h.tail
        rw [hr] at this
        simpa [hk, hn] using this
      · exact Or.inl ⟨by simp [hk, hn, failP], by simp [hk, hn, RS.orBad]⟩
    · exact Or.inl ⟨by simp [hk, failP], by simp [hk, RS.orBad]⟩
theorem title_ag (h : Ok st) : Ag (titleP st) (titleR st) := by
  unfold titleP titleR takeP nextR seesP isKind
  cases hr : st.rest with
  | nil => exact Or.inl ⟨rfl, by simp [RS.orBad]⟩
  | cons t r =>
    simp only [kindP_two, decide_eq_true_eq]
    by_cases hk : t.kind = 1
    · by_cases hn : isTitle t.text = true
      · refine Or.inr ⟨by simp [hk, hn, orBad_false], ?_⟩
        have := h.tail
        rw [hr] at this
        simpa [hk, hn] using this
      · exact Or.inl ⟨by simp [hk, hn, failP], by simp [hk, hn, RS.orBad]⟩
    · exact Or.inl ⟨by simp [hk, failP], by simp [hk, RS.orBad]⟩
theorem number_ag (h : Ok st) (lo hi : Int) : Ag (numberP lo hi st) (countR lo hi st) := by
  unfold numberP countR takeP nextR seesP isKind
  cases hr : st.rest with
  | nil =>
    exact Or.inl ⟨by simp [failP], by simp [RS.orBad]⟩
  | cons t r =>
    simp only [kindP_four, decide_eq_true_eq]
    by_cases hk : t.kind = 2
    · by_cases hn : t.val < lo ∨ hi < t.val
      · refine Or.inl ⟨by simp [hk, hn, failP], ?_⟩
        rcases hn with hn | hn <;> simp [hk, hn, RS.orBad]
      · have h1 : ¬ t.val < lo := fun e => hn (Or.inl e)
        have h2 : ¬ hi < t.val := fun e => hn (Or.inr e)
        refine Or.inr ⟨by simp [hk, h1, h2, orBad_false], ?_⟩
        have := h.tail
        rw [hr] at this
        simpa [hk, h1, h2] using this
    · refine Or.inl ⟨?_, by simp [hk, RS.orBad]⟩
      simp only [hk, if_false]; split <;> rfl

theorem spot_ag (h : Ok st) (x : PSpot) : Ag (spotP x st) (spotR x st) := by
  unfold spotP spotR
  try simp only
  rcases expect_ag h (s := mOpen) (by simp [lits, keywords]) with ⟨a, b⟩ | ⟨e, h1⟩
  · exact Or.inl ⟨by simp only; refine expectP_bad ?_; split; exact titleP_bad (acceptP_bad (nameP_bad a)); exact nameP_bad a, by simp only; refine mustR_bad ?_; split; exact titleR_bad (hasR_bad (nameR_bad b)); exact nameR_bad b⟩
  · rw [← e]
    rcases name_ag h1 with ⟨a, b⟩ | ⟨e2, h2⟩
    · exact Or.inl ⟨by simp only; refine expectP_bad ?_; split; exact titleP_bad (acceptP_bad a); exact a, by simp only; refine mustR_bad ?_; split; exact titleR_bad (hasR_bad b); exact b⟩
    · rw [← e2]
      simp only [peek_eq h2 (s := mColon) (by simp [lits, keywords]), accept_eq h2 (s := mColon) (by simp [lits, keywords])]
      cases peekR mColon (nameP (expectP mOpen st)).2 with
      | false =>
        simp only [Bool.false_eq_true, if_false]
        rcases expect_ag h2 (s := mClose) (by simp [lits, keywords]) with ⟨a, b⟩ | ⟨e3, h3⟩
        · exact Or.inl ⟨a, b⟩
        · exact Or.inr ⟨by simp [e3], h3⟩
      | true =>
        simp only [if_true]
        rcases title_ag (h2.has mColon) with ⟨a, b⟩ | ⟨e3, h3⟩
        · exact Or.inl ⟨expectP_bad a, mustR_bad b⟩
        · rw [← e3]
          rcases expect_ag h3 (s := mClose) (by simp [lits, keywords]) with ⟨a, b⟩ | ⟨e4, h4⟩
          · exact Or.inl ⟨a, b⟩
          · exact Or.inr ⟨by rw [e4], h4⟩
theorem star_ag (h : Ok st) : Ag (starP st) (starR st) := by
  unfold starP starR
  try simp only
  rw [peek_eq h (s := mStar) (by simp [lits, keywords]), accept_eq h (s := mStar) (by simp [lits, keywords])]
  cases peekR mStar st with
  | false => exact Or.inr ⟨rfl, h⟩
  | true =>
    simp only [if_true]
    rcases number_ag (h.has mStar) 0 4 with ⟨a, b⟩ | ⟨e, h1⟩
    · exact Or.inl ⟨numberP_bad (expectP_bad a), countR_bad (mustR_bad b)⟩
    · rw [← e]
      rcases expect_ag h1 (s := mDots) (by simp [lits, keywords]) with ⟨a, b⟩ | ⟨e2, h2⟩
      · exact Or.inl ⟨numberP_bad a, countR_bad b⟩
      · rw [← e2]
        rcases number_ag h2 (numberP 0 4 (hasR mStar st)).1 4 with ⟨a, b⟩ | ⟨e3, h3⟩
        · exact Or.inl ⟨a, b⟩
        · exact Or.inr ⟨by rw [e3], h3⟩
theorem hop_ag (h : Ok st) : Ag (hopP st) (stepR st) := by
  unfold hopP stepP stepR
  try simp only
  rcases title_ag h with ⟨a, b⟩ | ⟨e, h1⟩
  · exact Or.inl ⟨spotP_bad (expectP_bad (starP_bad a)), spotR_bad (mustR_bad (starR_bad b))⟩
  · rw [← e]
    rcases star_ag h1 with ⟨a, b⟩ | ⟨e2, h2⟩
    · exact Or.inl ⟨spotP_bad (expectP_bad a), spotR_bad (mustR_bad b)⟩
    · rw [← e2]
      rcases expect_ag h2 (s := mArrow) (by simp [lits, keywords]) with ⟨a, b⟩ | ⟨e3, h3⟩
      · exact Or.inl ⟨spotP_bad a, spotR_bad b⟩
      · rw [← e3]
        exact spot_ag h3 _
theorem prop_ag (h : Ok st) : Ag (propP st) (((nameR st).1, (nameR (mustR mDot (nameR st).2)).1), (nameR (mustR mDot (nameR st).2)).2) := by
  unfold propP
  try simp only
  rcases name_ag h with ⟨a, b⟩ | ⟨e, h1⟩
  · exact Or.inl ⟨nameP_bad (expectP_bad a), nameR_bad (mustR_bad b)⟩
  · rw [← e]
    rcases expect_ag h1 (s := mDot) (by simp [lits, keywords]) with ⟨a, b⟩ | ⟨e2, h2⟩
    · exact Or.inl ⟨nameP_bad a, nameR_bad b⟩
    · rw [← e2]
      rcases name_ag h2 with ⟨a, b⟩ | ⟨e3, h3⟩
      · exact Or.inl ⟨a, b⟩
      · exact Or.inr ⟨by rw [e3], h3⟩
theorem term_ag (h : Ok st) : Ag (termP st) (termR st) := by
  unfold termP termR
  try simp only
  have hs : seesP 4 st = isKind 2 st := by
    unfold seesP isKind
    cases st.rest with
    | nil => rfl
    | cons t r => simp [kindP_four]
  rw [hs]
  cases hk : isKind 2 st with
  | false =>
    simp only [Bool.false_eq_true, if_false]
    rcases prop_ag h with ⟨a, b⟩ | ⟨e, h1⟩
    · exact Or.inl ⟨a, b⟩
    · refine Or.inr ⟨?_, h1⟩
      rw [e]
  | true =>
    simp only [if_true]
    refine Or.inr ?_
    unfold numberP takeP nextR
    rw [hs, hk]
    unfold isKind at hk
    cases hr : st.rest with
    | nil => rw [hr] at hk; cases hk
    | cons t r =>
      rw [hr] at hk
      simp only [decide_eq_true_eq] at hk
      have hv := h.all t (by rw [hr]; simp)
      have h1 : ¬ t.val < -1000000000 := by have := hv.lo hk; omega
      have h2 : ¬ 1000000000 < t.val := by have := hv.hi hk; omega
      have := h.tail
      rw [hr] at this
      simp only [if_true, List.headD_cons, List.tail_cons, h1, h2, or_self, if_false]
      exact ⟨trivial, this⟩
theorem op_ag (l : List ByteArray) : ∀ (i : Int) (_ : Ok st) (_ : ∀ s ∈ l, s ∈ lits) (_ : 0 < i), Ag (opLoopP l i st) ((opLoop l i st).1, (opLoop l i st).2.orBad (decide ((opLoop l i st).1 = 0))) := by
  induction l with
  | nil => intro i h _ _; exact Or.inl ⟨rfl, by simp [opLoop, RS.orBad]⟩
  | cons m r ih =>
    intro i h hl hi
    simp only [opLoopP, opLoop]
    rw [peek_eq h (hl m (by simp)), accept_eq h (hl m (by simp))]
    by_cases hp : peekR m st = true
    · have : ¬ i = 0 := by omega
      simp only [hp, if_true]
      exact Or.inr ⟨by simp [this, orBad_false], h.has m⟩
    · simp only [hp]
      exact ih (i + 1) h (fun s hs => hl s (by simp [hs])) (by omega)
theorem cond_ag (h : Ok st) : Ag (condP st) (condR st) := by
  unfold condP condR
  try simp only
  rcases term_ag h with ⟨a, b⟩ | ⟨e, h1⟩
  · refine Or.inl ⟨?_, ?_⟩
    · split; exact expectP_bad (acceptP_bad (acceptP_bad a)); exact termP_bad (opLoopP_bad a)
    · split; exact mustR_bad (hasR_bad (hasR_bad b)); exact termR_bad (orBad_bad (opLoop_bad b))
  · rw [← e]
    simp only [peek_eq h1 (s := kIS) (by simp [lits, keywords]), accept_eq h1 (s := kIS) (by simp [lits, keywords])]
    cases peekR kIS (termP st).2 with
    | true =>
      have h2 := h1.has kIS
      simp only [if_true, peek_eq h2 (s := kNOT) (by simp [lits, keywords]), accept_eq h2 (s := kNOT) (by simp [lits, keywords])]
      rcases expect_ag (h2.has kNOT) (s := kNULL) (by simp [lits, keywords]) with ⟨a, b⟩ | ⟨e3, h3⟩
      · exact Or.inl ⟨a, b⟩
      · exact Or.inr ⟨by rw [e3], h3⟩
    | false =>
      simp only [Bool.false_eq_true, if_false]
      rcases op_ag opsR 1 h1 (by simp [opsR, lits]) (by decide) with ⟨a, b⟩ | ⟨e2, h2⟩
      · exact Or.inl ⟨termP_bad a, termR_bad b⟩
      · have e3 : (opLoop opsR 1 (termP st).2).2.orBad (decide ((opLoop opsR 1 (termP st).2).1 = 0)) = (opLoopP opsR 1 (termP st).2).2 := by rw [e2]
        have e4 : (opLoop opsR 1 (termP st).2).1 = (opLoopP opsR 1 (termP st).2).1 := by rw [e2]
        rw [e3, e4]
        rcases term_ag h2 with ⟨a, b⟩ | ⟨e5, h5⟩
        · exact Or.inl ⟨a, b⟩
        · exact Or.inr ⟨by rw [e5], h5⟩
theorem item_ag (h : Ok st) : Ag (itemP st) (itemR st) := by
  unfold itemP itemR
  try simp only
  rw [peek_eq h (s := kCOUNT) (by simp [lits, keywords]), accept_eq h (s := kCOUNT) (by simp [lits, keywords])]
  cases peekR kCOUNT st with
  | true => exact Or.inr ⟨rfl, h.has kCOUNT⟩
  | false =>
    simp only [Bool.false_eq_true, if_false]
    rcases name_ag h with ⟨a, b⟩ | ⟨e, h1⟩
    · refine Or.inl ⟨?_, ?_⟩
      · split; exact nameP_bad (acceptP_bad a); exact a
      · split; exact nameR_bad (hasR_bad b); exact b
    · rw [← e]
      rw [peek_eq h1 (s := mDot) (by simp [lits, keywords]), accept_eq h1 (s := mDot) (by simp [lits, keywords]), h1.good]
      cases peekR mDot (nameP st).2 with
      | false => exact Or.inr ⟨rfl, h1⟩
      | true =>
        simp only [Bool.not_false, Bool.and_self, if_true]
        rcases name_ag (h1.has mDot) with ⟨a, b⟩ | ⟨e2, h2⟩
        · exact Or.inl ⟨a, b⟩
        · exact Or.inr ⟨by rw [e2], h2⟩

end Go.Proofs.YtobgbmfpicmpcaaGreatDoor.Pure

/- The two readers of queries, as plain functions: lists, paths, matches, what stands behind them. No program in this text. -/
namespace Go.Proofs.YtobgbmfpicmpcaaGreatDoor.Pure
variable {st : RS}

/-- The reference's loops over a list, all in one. -/
def loopR {α : Type} (one : RS → α × RS) (sep : ByteArray) : Nat → List α → RS → List α × RS
  | 0, out, st => (out, st)
  | n + 1, out, st => if !(one st).2.bad && peekR sep (one st).2 then loopR one sep n (out ++ [(one st).1]) (hasR sep (one st).2) else (out ++ [(one st).1], (one st).2)
theorem condLoop_eq (n : Nat) : ∀ (out : List PCond) (st : RS), condLoop n out st = loopR condR kAND n out st := by
  induction n with
  | zero => intro out st; rfl
  | succ n ih => intro out st; simp only [condLoop, loopR, ih]
theorem itemLoop_eq (n : Nat) : ∀ (out : List PItem) (st : RS), st.bad = false → itemLoop n out st = loopR itemR mComma n out st := by
  induction n with
  | zero => intro out st _; rfl
  | succ n ih =>
    intro out st h
    simp only [itemLoop, loopR, h]
    by_cases hb : (itemR st).2.bad = true
    · simp [hb]
    · have hb2 : (itemR st).2.bad = false := by simpa using hb
      rw [ih _ _ (by rw [hasR_keeps]; exact hb2)]
      simp
theorem peekR_some {s : ByteArray} (h : peekR s st = true) : 0 < st.rest.length := by
  unfold peekR at h
  split at h
  · cases h
  · rename_i e; rw [e]; simp

theorem loop_ag {α : Type} {oneP oneR : RS → α × RS} {sep : ByteArray} (hs : sep ∈ lits) (ho : ∀ {st : RS}, Ok st → Ag (oneP st) (oneR st)) (hb : ∀ {st : RS}, st.bad = true → (oneP st).2.bad = true) (hl : ∀ {st : RS}, Ok st → (oneP st).2.rest.length ≤ st.rest.length) (n : Nat) :
    ∀ (m : Nat) (out : List α) (st : RS), Ok st → st.rest.length < n → (oneP st).2.rest.length ≤ m → Ag (listLoop oneP sep m (out ++ [(oneP st).1]) (oneP st).2) (loopR oneR sep n out st) := by
  induction n with
  | zero => intro m out st h h1 _; omega
  | succ n ih =>
    intro m out st h h1 h2
    simp only [loopR]
    have hl1 := hl h
    rcases ho h with ⟨a, b⟩ | ⟨e, k⟩
    · exact Or.inl ⟨listLoop_bad hb _ a, by simp [b]⟩
    · rw [← e]
      rw [k.good]
      by_cases hp : peekR sep (oneP st).2 = true
      · have h3 := peekR_some hp
        have h4 := hasR_less hp
        obtain ⟨m, rfl⟩ : ∃ m', m = m' + 1 := ⟨m - 1, by omega⟩
        simp only [listLoop, peek_eq k hs, accept_eq k hs, hp, Bool.not_false, Bool.and_self, if_true]
        have hl2 := hl (k.has sep)
        exact ih m _ _ (k.has sep) (by omega) (by omega)
      · have e2 : listLoop oneP sep m (out ++ [(oneP st).1]) (oneP st).2 = (out ++ [(oneP st).1], (oneP st).2) := by
          cases m with
          | zero => rfl
          | succ m => simp only [listLoop, peek_eq k hs, hp]; rfl
        rw [e2]
        simp only [hp]
        exact Or.inr ⟨rfl, k⟩
/-- A list, up to its bound. -/
theorem list_ag {α : Type} {oneP oneR : RS → α × RS} {sep : ByteArray} (hs : sep ∈ lits) (ho : ∀ {st : RS}, Ok st → Ag (oneP st) (oneR st)) (hb : ∀ {st : RS}, st.bad = true → (oneP st).2.bad = true) (hl : ∀ {st : RS}, Ok st → (oneP st).2.rest.length ≤ st.rest.length) (h : Ok st) {n : Nat} (hn : st.rest.length < n) :
    Ag (listP oneP sep 6 st) ((loopR oneR sep n [] st).1, (loopR oneR sep n [] st).2.orBad (decide (6 < (loopR oneR sep n [] st).1.length))) := by
  have h1 := loop_ag hs ho hb hl n _ [] st h hn (Nat.le_refl _)
  unfold listP
  simp only [List.nil_append] at h1 ⊢
  rcases h1 with ⟨a, b⟩ | ⟨e, k⟩
  · exact Or.inl ⟨by simp only; split; rfl; exact a, orBad_bad b⟩
  · rw [← e]
    by_cases h6 : 6 < (listLoop oneP sep (oneP st).2.rest.length [(oneP st).1] (oneP st).2).1.length
    · exact Or.inl ⟨by simp only [h6, if_true]; rfl, by simp only [h6, decide_true]; exact orBad_true _⟩
    · refine Or.inr ⟨by simp only [h6, if_false, decide_false, orBad_false], ?_⟩
      simp only [h6, if_false]
      exact k

theorem ag_len {α : Type} {p r : α × RS} {n : Nat} (h : Ag p r) (hp : p.2.bad = true → p.2.rest.length ≤ n) (hr : r.2.rest.length ≤ n) : p.2.rest.length ≤ n := by
  rcases h with ⟨a, _⟩ | ⟨e, _⟩
  · exact hp a
  · rw [e]; exact hr
theorem acceptP_len (s : ByteArray) (st : RS) : (acceptP s st).rest.length ≤ st.rest.length := by
  unfold acceptP; split
  · simp [List.length_tail]
  · exact Nat.le_refl _
theorem expectP_len (s : ByteArray) (st : RS) : (expectP s st).rest.length ≤ st.rest.length := by
  unfold expectP; split; exact acceptP_len s st; simp [failP]
theorem takeP_len (k : Int) (st : RS) : (takeP k st).2.rest.length ≤ st.rest.length := by
  unfold takeP; split
  · simp [List.length_tail]
  · simp [failP]
theorem nameP_len (st : RS) : (nameP st).2.rest.length ≤ st.rest.length := takeP_len 1 st
theorem titleP_len (st : RS) : (titleP st).2.rest.length ≤ st.rest.length := takeP_len 2 st
theorem numberP_len (lo hi : Int) (st : RS) : (numberP lo hi st).2.rest.length ≤ st.rest.length := by
  unfold numberP; simp only; split; simp [failP]; exact takeP_len 4 st
theorem termP_len (st : RS) : (termP st).2.rest.length ≤ st.rest.length := by
  unfold termP propP; split
  · exact numberP_len _ _ _
  · have h1 := nameP_len st; have h2 := expectP_len mDot (nameP st).2; have h3 := nameP_len (expectP mDot (nameP st).2); simp only; omega
theorem opLoopP_len (l : List ByteArray) : ∀ (i : Int) (st : RS), (opLoopP l i st).2.rest.length ≤ st.rest.length := by
  induction l with
  | nil => intro i st; simp [opLoopP, failP]
  | cons m r ih => intro i st; simp only [opLoopP]; split; exact acceptP_len m st; exact ih _ _
theorem condP_len (st : RS) : (condP st).2.rest.length ≤ st.rest.length := by
  unfold condP; simp only
  have h1 := termP_len st
  split
  · have h2 := acceptP_len kIS (termP st).2; have h3 := acceptP_len kNOT (acceptP kIS (termP st).2); have h4 := expectP_len kNULL (acceptP kNOT (acceptP kIS (termP st).2)); simp only; omega
  · have h2 := opLoopP_len opsR 1 (termP st).2; have h3 := termP_len (opLoopP opsR 1 (termP st).2).2; simp only; omega
theorem itemP_len (st : RS) : (itemP st).2.rest.length ≤ st.rest.length := by
  unfold itemP; split
  · exact acceptP_len _ _
  · simp only
    have h1 := nameP_len st
    split
    · have h2 := acceptP_len mDot (nameP st).2; have h3 := nameP_len (acceptP mDot (nameP st).2); simp only; omega
    · exact h1
theorem pairP_len (st : RS) : (pairP st).2.rest.length ≤ st.rest.length := by
  unfold pairP; simp only
  have h1 := nameP_len st; have h2 := expectP_len mColon (nameP st).2; have h3 := numberP_len (-1000000000) 1000000000 (expectP mColon (nameP st).2); omega
theorem spotP_len (x : PSpot) (st : RS) : (spotP x st).2.rest.length ≤ st.rest.length := by
  unfold spotP; simp only
  refine Nat.le_trans (expectP_len _ _) ?_
  have h1 := expectP_len mOpen st
  have h2 := nameP_len (expectP mOpen st)
  split
  · have h3 := titleP_len (acceptP mColon (nameP (expectP mOpen st)).2); have h4 := acceptP_len mColon (nameP (expectP mOpen st)).2; omega
  · simp only; omega

/-- No token is two words. -/
theorem peekR_two {a b : ByteArray} (h : peekR a st = true) (hab : a.toList ≠ b.toList) : peekR b st = false := by
  unfold peekR at *
  cases hr : st.rest with
  | nil => rfl
  | cons t r =>
    rw [hr] at h
    simp only [Bool.and_eq_true] at h
    unfold eqB at *
    have h1 : t.text.toList = a.toList := by simpa using h.2
    simp only [h1]
    simp [hab]

/-- Paths, flat and nested. -/
theorem spots_ag (k : Nat) : ∀ (st : RS), Ok st → st.rest.length ≤ k → ∀ (fp f1 f2 : Nat) (out acc : List PSpot), st.rest.length ≤ fp → st.rest.length ≤ f1 → st.rest.length ≤ f2 →
    Ag (spotsLoop fp (out ++ acc) st) (if !(pathLoop f1 acc st).2.bad && peekR mComma (pathLoop f1 acc st).2 then matchLoop f2 (out ++ (pathLoop f1 acc st).1) (hasR mComma (pathLoop f1 acc st).2) else (out ++ (pathLoop f1 acc st).1, (pathLoop f1 acc st).2)) := by
  induction k with
  | zero =>
    intro st h hk fp f1 f2 out acc _ _ _
    have hr : st.rest = [] := List.length_eq_zero_iff.1 (by omega)
    have p1 : ∀ s, peekR s st = false := fun s => by unfold peekR; rw [hr]
    have p2 : ∀ s, peekP s st = false := fun s => by unfold peekP; rw [hr]
    have e1 : pathLoop f1 acc st = (acc, st) := by cases f1 with | zero => rfl | succ n => simp [pathLoop, p1]
    have e2 : spotsLoop fp (out ++ acc) st = (out ++ acc, st) := by cases fp with | zero => rfl | succ n => simp [spotsLoop, p2]
    rw [e1, e2]
    simp only [p1, Bool.and_false]
    exact Or.inr ⟨rfl, h⟩
  | succ k ih =>
    intro st h hk fp f1 f2 out acc hp h1 h2
    by_cases ht : peekR mTo st = true
    · have hc : peekR mComma st = false := peekR_two ht (by decide +kernel)
      have h3 := peekR_some ht
      have h4 := hasR_less ht
      obtain ⟨fp, rfl⟩ : ∃ m', fp = m' + 1 := ⟨fp - 1, by omega⟩
      obtain ⟨f1, rfl⟩ : ∃ m', f1 = m' + 1 := ⟨f1 - 1, by omega⟩
      have k1 := h.has mTo
      simp only [spotsLoop, pathLoop, peek_eq h (s := mComma) (by simp [lits, keywords]), peek_eq h (s := mTo) (by simp [lits, keywords]), accept_eq h (s := mTo) (by simp [lits, keywords]), hc, ht, h.good, Bool.not_false, Bool.and_self, if_true, Bool.false_eq_true, if_false]
      rcases hop_ag k1 with ⟨a, b⟩ | ⟨e, k2⟩
      · refine Or.inl ⟨spotsLoop_bad _ a, ?_⟩
        have hb := pathLoop_bad f1 (out := acc ++ [(stepR (hasR mTo st)).1]) b
        simp [hb]
      · rw [← e]
        have hl := stepR_len (hasR mTo st)
        rw [← e] at hl
        have := ih (hopP (hasR mTo st)).2 k2 (by omega) fp f1 f2 out (acc ++ [(hopP (hasR mTo st)).1]) (by omega) (by omega) (by omega)
        rw [← List.append_assoc] at this
        exact this
    · have e1 : pathLoop f1 acc st = (acc, st) := by cases f1 with | zero => rfl | succ n => simp [pathLoop, ht]
      rw [e1]
      simp only [h.good]
      by_cases hc : peekR mComma st = true
      · have h3 := peekR_some hc
        have h4 := hasR_less hc
        obtain ⟨fp, rfl⟩ : ∃ m', fp = m' + 1 := ⟨fp - 1, by omega⟩
        obtain ⟨f2, rfl⟩ : ∃ m', f2 = m' + 1 := ⟨f2 - 1, by omega⟩
        have k1 := h.has mComma
        simp only [spotsLoop, matchLoop, peek_eq h (s := mComma) (by simp [lits, keywords]), accept_eq h (s := mComma) (by simp [lits, keywords]), hc, k1.good, Bool.not_false, Bool.and_self, if_true, Bool.false_eq_true, if_false]
        unfold pathR
        rcases spot_ag k1 spot0 with ⟨a, b⟩ | ⟨e, k2⟩
        · refine Or.inl ⟨spotsLoop_bad _ a, ?_⟩
          have hb := pathLoop_bad (spotR spot0 (hasR mComma st)).2.rest.length (out := [(spotR spot0 (hasR mComma st)).1]) b
          simp [hb]
        · rw [← e]
          have hl := spotP_len spot0 (hasR mComma st)
          exact ih (spotP spot0 (hasR mComma st)).2 k2 (by omega) fp (spotP spot0 (hasR mComma st)).2.rest.length f2 (out ++ acc) [(spotP spot0 (hasR mComma st)).1] (by omega) (Nat.le_refl _) (by omega)
      · have e2 : spotsLoop fp (out ++ acc) st = (out ++ acc, st) := by
          cases fp with
          | zero => rfl
          | succ n => simp only [spotsLoop, peek_eq h (s := mComma) (by simp [lits, keywords]), peek_eq h (s := mTo) (by simp [lits, keywords]), hc, ht]; rfl
        rw [e2]
        simp only [hc]
        exact Or.inr ⟨rfl, h⟩
/-- All paths of a match, ahead of their bound. -/
theorem paths_ag (h : Ok st) {n : Nat} (hn : st.rest.length < n) : Ag (spotsLoop (spotP spot0 st).2.rest.length [(spotP spot0 st).1] (spotP spot0 st).2) (matchLoop n [] st) := by
  obtain ⟨n, rfl⟩ : ∃ m', n = m' + 1 := ⟨n - 1, by omega⟩
  simp only [matchLoop, h.good]
  unfold pathR
  rcases spot_ag h spot0 with ⟨a, b⟩ | ⟨e, k2⟩
  · refine Or.inl ⟨spotsLoop_bad _ a, ?_⟩
    have hb := pathLoop_bad (spotR spot0 st).2.rest.length (out := [(spotR spot0 st).1]) b
    simp [hb]
  · rw [← e]
    have hl := spotP_len spot0 st
    exact spots_ag _ (spotP spot0 st).2 k2 (Nat.le_refl _) _ (spotP spot0 st).2.rest.length n [] [(spotP spot0 st).1] (Nat.le_refl _) (Nat.le_refl _) (by omega)

end Go.Proofs.YtobgbmfpicmpcaaGreatDoor.Pure

