/- The reference's reader: what stands behind a match. -/
import Derived.Lib.QuietBelow
import Derived.Deep.QuietTactic
import Derived.BigQuiet
import Derived.WalkSmall
import Derived.Laws.Strings
import Derived.Lib.Hide
import Derived.Test.YtobgbmfpicmpcaaGreatDoorC07
namespace Go.Proofs.YtobgbmfpicmpcaaGreatDoor
open Go.RowKit

set_option maxRecDepth 100000 in
set_option maxHeartbeats 9000000 in
theorem behindRead {b x : Nat} {lv vs vc : Value} {sp : List PSpot} {cd : List PCond} {ts : List Tok} {st : RS} {W0 W : World} (h : QAt W0 b lv ts st x (qC query0 vs vc (.slice none 0 0) (.slice none 0 0)) ⟨vs, sp, vc, cd, (.slice none 0 0), [], (.slice none 0 0), []⟩ W) (hr : peekR kRETURN st = true) :
    Calls Tryz.prog 42 #[.pointer (some ⟨b, 0, none⟩), .pointer (some ⟨x, 0, none⟩)] W fun e W' => e = .returned (.tuple #[]) ∧ ∃ vi, QAt W0 b lv ts (behindR { query0 with spots := sp, conds := cd } st).2 x (qC (behindR { query0 with spots := sp, conds := cd } st).1 vs vc vi (.slice none 0 0)) ⟨vs, sp, vc, cd, vi, (behindR { query0 with spots := sp, conds := cd } st).1.items, (.slice none 0 0), []⟩ W' := by
  have Phr := Lib.hid hr
  clear hr
  have HI := Lib.hid h
  clear h
  go_enter Tryz.func42, Tryz.ntmps42
  go_wp2_with fail
  refine (has HI.out.ri kRETURN true Phr.out).mono ?_
  rintro e P1 ⟨rfl, h, g⟩
  obtain ⟨s0, hs0⟩ : ∃ s0, hasR kRETURN st = s0 := ⟨_, rfl⟩
  rw [hs0] at h
  have E0 := Lib.hid hs0
  have H0 := Lib.hid (HI.out.call h g)
  clear h g HI hs0
  have c0 : P1.cell? ⟨x, 0, none⟩ = some (.int .i64 0) := (H0.out.lq.cell 0).trans rfl
  have f0 : P1.frozen? ⟨x, 0, none⟩ = false := H0.out.lq.free 0
  have HK : Hid (QAt W0 b lv ts s0 x (qC { query0 with kind := 1 } vs vc (.slice none 0 0) (.slice none 0 0)) ⟨vs, sp, vc, cd, (.slice none 0 0), [], (.slice none 0 0), []⟩ (P1.setCell ⟨x, 0, none⟩ (.int .i64 1))) := H0.out.set 0 (.int .i64 1)
  clear H0
  go_wp2_with fail
  generalize P1.setCell ⟨x, 0, none⟩ (.int .i64 1) = Pk at HK ⊢; clear c0 f0
  refine (items HK.out).mono ?_
  rintro e Q1 ⟨rfl, vi, hq⟩
  have HQ := Lib.hid hq
  clear hq HK
  go_wp2_with fail
  go_end0
  refine ⟨rfl, vi, ?_⟩
  unfold behindR
  simp only [Phr.out, E0.out, if_true]
  exact HQ.out

set_option maxRecDepth 100000 in
set_option maxHeartbeats 9000000 in
theorem behindSet {b x : Nat} {lv vs vc : Value} {sp : List PSpot} {cd : List PCond} {ts : List Tok} {st : RS} {W0 W : World} (h : QAt W0 b lv ts st x (qC query0 vs vc (.slice none 0 0) (.slice none 0 0)) ⟨vs, sp, vc, cd, (.slice none 0 0), [], (.slice none 0 0), []⟩ W) (hr : peekR kRETURN st = false) (hs : peekR kSET st = true) :
    Calls Tryz.prog 42 #[.pointer (some ⟨b, 0, none⟩), .pointer (some ⟨x, 0, none⟩)] W fun e W' => e = .returned (.tuple #[]) ∧ ∃ vi, QAt W0 b lv ts (behindR { query0 with spots := sp, conds := cd } st).2 x (qC (behindR { query0 with spots := sp, conds := cd } st).1 vs vc vi (.slice none 0 0)) ⟨vs, sp, vc, cd, vi, (behindR { query0 with spots := sp, conds := cd } st).1.items, (.slice none 0 0), []⟩ W' := by
  have Phr := Lib.hid hr
  have Phs := Lib.hid hs
  clear hr hs
  have HI := Lib.hid h
  clear h
  go_enter Tryz.func42, Tryz.ntmps42
  go_wp2_with fail
  refine (has HI.out.ri kRETURN false Phr.out).mono ?_
  rintro e P1 ⟨rfl, h, g⟩
  rw [hasR_not Phr.out] at h
  have H0 := Lib.hid (HI.out.call h g)
  clear h g HI
  go_wp2_with fail
  refine (has H0.out.ri kSET true Phs.out).mono ?_
  rintro e P2 ⟨rfl, h, g⟩
  obtain ⟨s0, hs0⟩ : ∃ s0, hasR kSET st = s0 := ⟨_, rfl⟩
  rw [hs0] at h
  have E0 := Lib.hid hs0
  have H1 := Lib.hid (H0.out.call h g)
  clear h g H0 hs0
  have c0 : P2.cell? ⟨x, 0, none⟩ = some (.int .i64 0) := (H1.out.lq.cell 0).trans rfl
  have f0 : P2.frozen? ⟨x, 0, none⟩ = false := H1.out.lq.free 0
  have HK : Hid (QAt W0 b lv ts s0 x (qC { query0 with kind := 2 } vs vc (.slice none 0 0) (.slice none 0 0)) ⟨vs, sp, vc, cd, (.slice none 0 0), [], (.slice none 0 0), []⟩ (P2.setCell ⟨x, 0, none⟩ (.int .i64 2))) := H1.out.set 0 (.int .i64 2)
  clear H1
  obtain ⟨vqs1, qs1, hqs1⟩ : ∃ n sz, nameR s0 = (n, sz) := ⟨_, _, rfl⟩
  have Eqs1 := Lib.hid hqs1
  clear hqs1
  go_wp2_with fail
  generalize P2.setCell ⟨x, 0, none⟩ (.int .i64 2) = Pk at HK ⊢; clear c0 f0
  refine (nameIs HK.out.ri Eqs1.out).mono ?_
  rintro e Q1 ⟨rfl, h, g⟩
  have Ha := HK.out.call h g
  have cc : Q1.cell? ⟨x, 8, none⟩ = some (.string ⟨#[]⟩) := (Ha.lq.cell 8).trans rfl
  have cf : Q1.frozen? ⟨x, 8, none⟩ = false := Ha.lq.free 8
  have Hqs1 : Hid (QAt W0 b lv ts qs1 x (qC { query0 with kind := 2, name := vqs1 } vs vc (.slice none 0 0) (.slice none 0 0)) ⟨vs, sp, vc, cd, (.slice none 0 0), [], (.slice none 0 0), []⟩ (Q1.setCell ⟨x, 8, none⟩ (.string vqs1))) := Ha.set 8 (.string vqs1)
  clear h g Ha HK
  obtain ⟨qs2, hqs2⟩ : ∃ sz, mustR mDot qs1 = sz := ⟨_, rfl⟩
  have Eqs2 := Lib.hid hqs2
  go_wp2_with fail
  generalize Q1.setCell ⟨x, 8, none⟩ (.string vqs1) = Q1x at Hqs1 ⊢; clear cc cf
  refine (must Hqs1.out.ri mDot).mono ?_
  rintro e Q2 ⟨rfl, h, g⟩
  rw [hqs2] at h
  have Hqs2 : Hid (QAt W0 b lv ts qs2 x (qC { query0 with kind := 2, name := vqs1 } vs vc (.slice none 0 0) (.slice none 0 0)) ⟨vs, sp, vc, cd, (.slice none 0 0), [], (.slice none 0 0), []⟩ Q2) := Hqs1.out.call h g
  clear h g hqs2 Hqs1
  obtain ⟨vqs3, qs3, hqs3⟩ : ∃ n sz, nameR qs2 = (n, sz) := ⟨_, _, rfl⟩
  have Eqs3 := Lib.hid hqs3
  clear hqs3
  go_wp2_with fail
  refine (nameIs Hqs2.out.ri Eqs3.out).mono ?_
  rintro e Q3 ⟨rfl, h, g⟩
  have Ha := Hqs2.out.call h g
  have cc : Q3.cell? ⟨x, 9, none⟩ = some (.string ⟨#[]⟩) := (Ha.lq.cell 9).trans rfl
  have cf : Q3.frozen? ⟨x, 9, none⟩ = false := Ha.lq.free 9
  have Hqs3 : Hid (QAt W0 b lv ts qs3 x (qC { query0 with kind := 2, name := vqs1, key := vqs3 } vs vc (.slice none 0 0) (.slice none 0 0)) ⟨vs, sp, vc, cd, (.slice none 0 0), [], (.slice none 0 0), []⟩ (Q3.setCell ⟨x, 9, none⟩ (.string vqs3))) := Ha.set 9 (.string vqs3)
  clear h g Ha Hqs2
  obtain ⟨qs4, hqs4⟩ : ∃ sz, mustR mEq qs3 = sz := ⟨_, rfl⟩
  have Eqs4 := Lib.hid hqs4
  go_wp2_with fail
  generalize Q3.setCell ⟨x, 9, none⟩ (.string vqs3) = Q3x at Hqs3 ⊢; clear cc cf
  refine (must Hqs3.out.ri mEq).mono ?_
  rintro e Q4 ⟨rfl, h, g⟩
  rw [hqs4] at h
  have Hqs4 : Hid (QAt W0 b lv ts qs4 x (qC { query0 with kind := 2, name := vqs1, key := vqs3 } vs vc (.slice none 0 0) (.slice none 0 0)) ⟨vs, sp, vc, cd, (.slice none 0 0), [], (.slice none 0 0), []⟩ Q4) := Hqs3.out.call h g
  clear h g hqs4 Hqs3
  obtain ⟨vqs5, qs5, hqs5⟩ : ∃ n sz, termR qs4 = (n, sz) := ⟨_, _, rfl⟩
  have Eqs5 := Lib.hid hqs5
  clear hqs5
  go_wp2_with fail
  refine (termIs Hqs4.out.ri Eqs5.out).mono ?_
  rintro e Q5 ⟨rfl, h, g⟩
  have Ha := Hqs4.out.call h g
  have c10 : Q5.cell? ⟨x, 10, none⟩ = some (.string ⟨#[]⟩) := (Ha.lq.cell 10).trans rfl
  have f10 : Q5.frozen? ⟨x, 10, none⟩ = false := Ha.lq.free 10
  have c11 : Q5.cell? ⟨x, 11, none⟩ = some (.string ⟨#[]⟩) := (Ha.lq.cell 11).trans rfl
  have f11 : Q5.frozen? ⟨x, 11, none⟩ = false := Ha.lq.free 11
  have c12 : Q5.cell? ⟨x, 12, none⟩ = some (.int .i64 0) := (Ha.lq.cell 12).trans rfl
  have f12 : Q5.frozen? ⟨x, 12, none⟩ = false := Ha.lq.free 12
  have Hqs5 : Hid (QAt W0 b lv ts qs5 x (qC { query0 with kind := 2, name := vqs1, key := vqs3, value := vqs5 } vs vc (.slice none 0 0) (.slice none 0 0)) ⟨vs, sp, vc, cd, (.slice none 0 0), [], (.slice none 0 0), []⟩ (((Q5.setCell ⟨x, 10, none⟩ (.string vqs5.name)).setCell ⟨x, 11, none⟩ (.string vqs5.key)).setCell ⟨x, 12, none⟩ (.int .i64 vqs5.val))) := ((Ha.set 10 (.string vqs5.name)).set 11 (.string vqs5.key)).set 12 (.int .i64 vqs5.val)
  clear h g Ha Hqs4
  go_wp2_with fail
  go_end0
  refine ⟨rfl, .slice none 0 0, ?_⟩
  have e : behindR { query0 with spots := sp, conds := cd } st = ({ query0 with spots := sp, conds := cd, kind := 2, name := vqs1, key := vqs3, value := vqs5 }, qs5) := by
    unfold behindR setR
    simp only [Phr.out, Phs.out, E0.out, Eqs1.out, Eqs2.out, Eqs3.out, Eqs4.out, Eqs5.out, Bool.false_eq_true, if_false, if_true]
  rw [e]
  exact Hqs5.out

set_option maxRecDepth 100000 in
set_option maxHeartbeats 9000000 in
theorem behindDel {b x : Nat} {lv vs vc : Value} {sp : List PSpot} {cd : List PCond} {ts : List Tok} {st : RS} {W0 W : World} (h : QAt W0 b lv ts st x (qC query0 vs vc (.slice none 0 0) (.slice none 0 0)) ⟨vs, sp, vc, cd, (.slice none 0 0), [], (.slice none 0 0), []⟩ W) (hr : peekR kRETURN st = false) (hs : peekR kSET st = false) (hd : peekR kDELETE st = true) :
    Calls Tryz.prog 42 #[.pointer (some ⟨b, 0, none⟩), .pointer (some ⟨x, 0, none⟩)] W fun e W' => e = .returned (.tuple #[]) ∧ ∃ vi, QAt W0 b lv ts (behindR { query0 with spots := sp, conds := cd } st).2 x (qC (behindR { query0 with spots := sp, conds := cd } st).1 vs vc vi (.slice none 0 0)) ⟨vs, sp, vc, cd, vi, (behindR { query0 with spots := sp, conds := cd } st).1.items, (.slice none 0 0), []⟩ W' := by
  have Phr := Lib.hid hr
  have Phs := Lib.hid hs
  have Phd := Lib.hid hd
  clear hr hs hd
  have HI := Lib.hid h
  clear h
  go_enter Tryz.func42, Tryz.ntmps42
  go_wp2_with fail
  refine (has HI.out.ri kRETURN false Phr.out).mono ?_
  rintro e P1 ⟨rfl, h, g⟩
  rw [hasR_not Phr.out] at h
  have H0 := Lib.hid (HI.out.call h g)
  clear h g HI
  go_wp2_with fail
  refine (has H0.out.ri kSET false Phs.out).mono ?_
  rintro e P2 ⟨rfl, h, g⟩
  rw [hasR_not Phs.out] at h
  have H1 := Lib.hid (H0.out.call h g)
  clear h g H0
  go_wp2_with fail
  refine (has H1.out.ri kDELETE true Phd.out).mono ?_
  rintro e P3 ⟨rfl, h, g⟩
  obtain ⟨s0, hs0⟩ : ∃ s0, hasR kDELETE st = s0 := ⟨_, rfl⟩
  rw [hs0] at h
  have E0 := Lib.hid hs0
  have H2 := Lib.hid (H1.out.call h g)
  clear h g H1 hs0
  have c0 : P3.cell? ⟨x, 0, none⟩ = some (.int .i64 0) := (H2.out.lq.cell 0).trans rfl
  have f0 : P3.frozen? ⟨x, 0, none⟩ = false := H2.out.lq.free 0
  have HK : Hid (QAt W0 b lv ts s0 x (qC { query0 with kind := 3 } vs vc (.slice none 0 0) (.slice none 0 0)) ⟨vs, sp, vc, cd, (.slice none 0 0), [], (.slice none 0 0), []⟩ (P3.setCell ⟨x, 0, none⟩ (.int .i64 3))) := H2.out.set 0 (.int .i64 3)
  clear H2
  obtain ⟨vqs1, qs1, hqs1⟩ : ∃ n sz, nameR s0 = (n, sz) := ⟨_, _, rfl⟩
  have Eqs1 := Lib.hid hqs1
  clear hqs1
  go_wp2_with fail
  generalize P3.setCell ⟨x, 0, none⟩ (.int .i64 3) = Pk at HK ⊢; clear c0 f0
  refine (nameIs HK.out.ri Eqs1.out).mono ?_
  rintro e Q1 ⟨rfl, h, g⟩
  have Ha := HK.out.call h g
  have cc : Q1.cell? ⟨x, 8, none⟩ = some (.string ⟨#[]⟩) := (Ha.lq.cell 8).trans rfl
  have cf : Q1.frozen? ⟨x, 8, none⟩ = false := Ha.lq.free 8
  have Hqs1 : Hid (QAt W0 b lv ts qs1 x (qC { query0 with kind := 3, name := vqs1 } vs vc (.slice none 0 0) (.slice none 0 0)) ⟨vs, sp, vc, cd, (.slice none 0 0), [], (.slice none 0 0), []⟩ (Q1.setCell ⟨x, 8, none⟩ (.string vqs1))) := Ha.set 8 (.string vqs1)
  clear h g Ha HK
  go_wp2_with fail
  go_end0
  refine ⟨rfl, .slice none 0 0, ?_⟩
  have e : behindR { query0 with spots := sp, conds := cd } st = ({ query0 with spots := sp, conds := cd, kind := 3, name := vqs1 }, qs1) := by
    unfold behindR 
    simp only [Phr.out, Phs.out, Phd.out, E0.out, Eqs1.out, Bool.false_eq_true, if_false, if_true]
  rw [e]
  exact Hqs1.out

set_option maxRecDepth 100000 in
set_option maxHeartbeats 9000000 in
theorem behindLink {b x : Nat} {lv vs vc : Value} {sp : List PSpot} {cd : List PCond} {ts : List Tok} {st : RS} {W0 W : World} (h : QAt W0 b lv ts st x (qC query0 vs vc (.slice none 0 0) (.slice none 0 0)) ⟨vs, sp, vc, cd, (.slice none 0 0), [], (.slice none 0 0), []⟩ W) (hr : peekR kRETURN st = false) (hs : peekR kSET st = false) (hd : peekR kDELETE st = false) :
    Calls Tryz.prog 42 #[.pointer (some ⟨b, 0, none⟩), .pointer (some ⟨x, 0, none⟩)] W fun e W' => e = .returned (.tuple #[]) ∧ ∃ vi, QAt W0 b lv ts (behindR { query0 with spots := sp, conds := cd } st).2 x (qC (behindR { query0 with spots := sp, conds := cd } st).1 vs vc vi (.slice none 0 0)) ⟨vs, sp, vc, cd, vi, (behindR { query0 with spots := sp, conds := cd } st).1.items, (.slice none 0 0), []⟩ W' := by
  have Phr := Lib.hid hr
  have Phs := Lib.hid hs
  have Phd := Lib.hid hd
  clear hr hs hd
  have HI := Lib.hid h
  clear h
  go_enter Tryz.func42, Tryz.ntmps42
  go_wp2_with fail
  refine (has HI.out.ri kRETURN false Phr.out).mono ?_
  rintro e P1 ⟨rfl, h, g⟩
  rw [hasR_not Phr.out] at h
  have H0 := Lib.hid (HI.out.call h g)
  clear h g HI
  go_wp2_with fail
  refine (has H0.out.ri kSET false Phs.out).mono ?_
  rintro e P2 ⟨rfl, h, g⟩
  rw [hasR_not Phs.out] at h
  have H1 := Lib.hid (H0.out.call h g)
  clear h g H0
  go_wp2_with fail
  refine (has H1.out.ri kDELETE false Phd.out).mono ?_
  rintro e P3 ⟨rfl, h, g⟩
  rw [hasR_not Phd.out] at h
  have H2 := Lib.hid (H1.out.call h g)
  clear h g H1
  have c0 : P3.cell? ⟨x, 0, none⟩ = some (.int .i64 0) := (H2.out.lq.cell 0).trans rfl
  have f0 : P3.frozen? ⟨x, 0, none⟩ = false := H2.out.lq.free 0
  have HK : Hid (QAt W0 b lv ts st x (qC { query0 with kind := 4 } vs vc (.slice none 0 0) (.slice none 0 0)) ⟨vs, sp, vc, cd, (.slice none 0 0), [], (.slice none 0 0), []⟩ (P3.setCell ⟨x, 0, none⟩ (.int .i64 4))) := H2.out.set 0 (.int .i64 4)
  clear H2
  obtain ⟨qs1, hqs1⟩ : ∃ sz, mustR kCREATE st = sz := ⟨_, rfl⟩
  have Eqs1 := Lib.hid hqs1
  go_wp2_with fail
  generalize P3.setCell ⟨x, 0, none⟩ (.int .i64 4) = Pk at HK ⊢; clear c0 f0
  refine (must HK.out.ri kCREATE).mono ?_
  rintro e Q1 ⟨rfl, h, g⟩
  rw [hqs1] at h
  have Hqs1 : Hid (QAt W0 b lv ts qs1 x (qC { query0 with kind := 4 } vs vc (.slice none 0 0) (.slice none 0 0)) ⟨vs, sp, vc, cd, (.slice none 0 0), [], (.slice none 0 0), []⟩ Q1) := HK.out.call h g
  clear h g hqs1 HK
  obtain ⟨qs2, hqs2⟩ : ∃ sz, mustR mOpen qs1 = sz := ⟨_, rfl⟩
  have Eqs2 := Lib.hid hqs2
  go_wp2_with fail
  refine (must Hqs1.out.ri mOpen).mono ?_
  rintro e Q2 ⟨rfl, h, g⟩
  rw [hqs2] at h
  have Hqs2 : Hid (QAt W0 b lv ts qs2 x (qC { query0 with kind := 4 } vs vc (.slice none 0 0) (.slice none 0 0)) ⟨vs, sp, vc, cd, (.slice none 0 0), [], (.slice none 0 0), []⟩ Q2) := Hqs1.out.call h g
  clear h g hqs2 Hqs1
  obtain ⟨vqs3, qs3, hqs3⟩ : ∃ n sz, nameR qs2 = (n, sz) := ⟨_, _, rfl⟩
  have Eqs3 := Lib.hid hqs3
  clear hqs3
  go_wp2_with fail
  refine (nameIs Hqs2.out.ri Eqs3.out).mono ?_
  rintro e Q3 ⟨rfl, h, g⟩
  have Ha := Hqs2.out.call h g
  have cc : Q3.cell? ⟨x, 8, none⟩ = some (.string ⟨#[]⟩) := (Ha.lq.cell 8).trans rfl
  have cf : Q3.frozen? ⟨x, 8, none⟩ = false := Ha.lq.free 8
  have Hqs3 : Hid (QAt W0 b lv ts qs3 x (qC { query0 with kind := 4, name := vqs3 } vs vc (.slice none 0 0) (.slice none 0 0)) ⟨vs, sp, vc, cd, (.slice none 0 0), [], (.slice none 0 0), []⟩ (Q3.setCell ⟨x, 8, none⟩ (.string vqs3))) := Ha.set 8 (.string vqs3)
  clear h g Ha Hqs2
  obtain ⟨qs4, hqs4⟩ : ∃ sz, mustR mClose qs3 = sz := ⟨_, rfl⟩
  have Eqs4 := Lib.hid hqs4
  go_wp2_with fail
  generalize Q3.setCell ⟨x, 8, none⟩ (.string vqs3) = Q3x at Hqs3 ⊢; clear cc cf
  refine (must Hqs3.out.ri mClose).mono ?_
  rintro e Q4 ⟨rfl, h, g⟩
  rw [hqs4] at h
  have Hqs4 : Hid (QAt W0 b lv ts qs4 x (qC { query0 with kind := 4, name := vqs3 } vs vc (.slice none 0 0) (.slice none 0 0)) ⟨vs, sp, vc, cd, (.slice none 0 0), [], (.slice none 0 0), []⟩ Q4) := Hqs3.out.call h g
  clear h g hqs4 Hqs3
  obtain ⟨qs5, hqs5⟩ : ∃ sz, mustR mTo qs4 = sz := ⟨_, rfl⟩
  have Eqs5 := Lib.hid hqs5
  go_wp2_with fail
  refine (must Hqs4.out.ri mTo).mono ?_
  rintro e Q5 ⟨rfl, h, g⟩
  rw [hqs5] at h
  have Hqs5 : Hid (QAt W0 b lv ts qs5 x (qC { query0 with kind := 4, name := vqs3 } vs vc (.slice none 0 0) (.slice none 0 0)) ⟨vs, sp, vc, cd, (.slice none 0 0), [], (.slice none 0 0), []⟩ Q5) := Hqs4.out.call h g
  clear h g hqs5 Hqs4
  obtain ⟨vqs6, qs6, hqs6⟩ : ∃ n sz, titleR qs5 = (n, sz) := ⟨_, _, rfl⟩
  have Eqs6 := Lib.hid hqs6
  clear hqs6
  go_wp2_with fail
  refine (titleIs Hqs5.out.ri Eqs6.out).mono ?_
  rintro e Q6 ⟨rfl, h, g⟩
  have Ha := Hqs5.out.call h g
  have cc : Q6.cell? ⟨x, 13, none⟩ = some (.string ⟨#[]⟩) := (Ha.lq.cell 13).trans rfl
  have cf : Q6.frozen? ⟨x, 13, none⟩ = false := Ha.lq.free 13
  have Hqs6 : Hid (QAt W0 b lv ts qs6 x (qC { query0 with kind := 4, name := vqs3, type := vqs6 } vs vc (.slice none 0 0) (.slice none 0 0)) ⟨vs, sp, vc, cd, (.slice none 0 0), [], (.slice none 0 0), []⟩ (Q6.setCell ⟨x, 13, none⟩ (.string vqs6))) := Ha.set 13 (.string vqs6)
  clear h g Ha Hqs5
  obtain ⟨qs7, hqs7⟩ : ∃ sz, mustR mArrow qs6 = sz := ⟨_, rfl⟩
  have Eqs7 := Lib.hid hqs7
  go_wp2_with fail
  generalize Q6.setCell ⟨x, 13, none⟩ (.string vqs6) = Q6x at Hqs6 ⊢; clear cc cf
  refine (must Hqs6.out.ri mArrow).mono ?_
  rintro e Q7 ⟨rfl, h, g⟩
  rw [hqs7] at h
  have Hqs7 : Hid (QAt W0 b lv ts qs7 x (qC { query0 with kind := 4, name := vqs3, type := vqs6 } vs vc (.slice none 0 0) (.slice none 0 0)) ⟨vs, sp, vc, cd, (.slice none 0 0), [], (.slice none 0 0), []⟩ Q7) := Hqs6.out.call h g
  clear h g hqs7 Hqs6
  obtain ⟨qs8, hqs8⟩ : ∃ sz, mustR mOpen qs7 = sz := ⟨_, rfl⟩
  have Eqs8 := Lib.hid hqs8
  go_wp2_with fail
  refine (must Hqs7.out.ri mOpen).mono ?_
  rintro e Q8 ⟨rfl, h, g⟩
  rw [hqs8] at h
  have Hqs8 : Hid (QAt W0 b lv ts qs8 x (qC { query0 with kind := 4, name := vqs3, type := vqs6 } vs vc (.slice none 0 0) (.slice none 0 0)) ⟨vs, sp, vc, cd, (.slice none 0 0), [], (.slice none 0 0), []⟩ Q8) := Hqs7.out.call h g
  clear h g hqs8 Hqs7
  obtain ⟨vqs9, qs9, hqs9⟩ : ∃ n sz, nameR qs8 = (n, sz) := ⟨_, _, rfl⟩
  have Eqs9 := Lib.hid hqs9
  clear hqs9
  go_wp2_with fail
  refine (nameIs Hqs8.out.ri Eqs9.out).mono ?_
  rintro e Q9 ⟨rfl, h, g⟩
  have Ha := Hqs8.out.call h g
  have cc : Q9.cell? ⟨x, 14, none⟩ = some (.string ⟨#[]⟩) := (Ha.lq.cell 14).trans rfl
  have cf : Q9.frozen? ⟨x, 14, none⟩ = false := Ha.lq.free 14
  have Hqs9 : Hid (QAt W0 b lv ts qs9 x (qC { query0 with kind := 4, name := vqs3, type := vqs6, «to» := vqs9 } vs vc (.slice none 0 0) (.slice none 0 0)) ⟨vs, sp, vc, cd, (.slice none 0 0), [], (.slice none 0 0), []⟩ (Q9.setCell ⟨x, 14, none⟩ (.string vqs9))) := Ha.set 14 (.string vqs9)
  clear h g Ha Hqs8
  obtain ⟨qs10, hqs10⟩ : ∃ sz, mustR mClose qs9 = sz := ⟨_, rfl⟩
  have Eqs10 := Lib.hid hqs10
  go_wp2_with fail
  generalize Q9.setCell ⟨x, 14, none⟩ (.string vqs9) = Q9x at Hqs9 ⊢; clear cc cf
  refine (must Hqs9.out.ri mClose).mono ?_
  rintro e Q10 ⟨rfl, h, g⟩
  rw [hqs10] at h
  have Hqs10 : Hid (QAt W0 b lv ts qs10 x (qC { query0 with kind := 4, name := vqs3, type := vqs6, «to» := vqs9 } vs vc (.slice none 0 0) (.slice none 0 0)) ⟨vs, sp, vc, cd, (.slice none 0 0), [], (.slice none 0 0), []⟩ Q10) := Hqs9.out.call h g
  clear h g hqs10 Hqs9
  go_wp2_with fail
  go_end0
  refine ⟨rfl, .slice none 0 0, ?_⟩
  have e : behindR { query0 with spots := sp, conds := cd } st = ({ query0 with spots := sp, conds := cd, kind := 4, name := vqs3, type := vqs6, «to» := vqs9 }, qs10) := by
    unfold behindR linkR
    simp only [Phr.out, Phs.out, Phd.out, Eqs1.out, Eqs2.out, Eqs3.out, Eqs4.out, Eqs5.out, Eqs6.out, Eqs7.out, Eqs8.out, Eqs9.out, Eqs10.out, Bool.false_eq_true, if_false]
  rw [e]
  exact Hqs10.out

theorem behind {b x : Nat} {lv vs vc : Value} {sp : List PSpot} {cd : List PCond} {ts : List Tok} {st : RS} {W0 W : World} (h : QAt W0 b lv ts st x (qC query0 vs vc (.slice none 0 0) (.slice none 0 0)) ⟨vs, sp, vc, cd, (.slice none 0 0), [], (.slice none 0 0), []⟩ W) :
    Calls Tryz.prog 42 #[.pointer (some ⟨b, 0, none⟩), .pointer (some ⟨x, 0, none⟩)] W fun e W' => e = .returned (.tuple #[]) ∧ ∃ vi, QAt W0 b lv ts (behindR { query0 with spots := sp, conds := cd } st).2 x (qC (behindR { query0 with spots := sp, conds := cd } st).1 vs vc vi (.slice none 0 0)) ⟨vs, sp, vc, cd, vi, (behindR { query0 with spots := sp, conds := cd } st).1.items, (.slice none 0 0), []⟩ W' := by
  cases hr : peekR kRETURN st with
  | true => exact behindRead h hr
  | false =>
    cases hs : peekR kSET st with
    | true => exact behindSet h hr hs
    | false =>
      cases hd : peekR kDELETE st with
      | true => exact behindDel h hr hs hd
      | false => exact behindLink h hr hs hd

end Go.Proofs.YtobgbmfpicmpcaaGreatDoor

/- The reference's scope: does each variable stand for something? -/
namespace Go.Proofs.YtobgbmfpicmpcaaGreatDoor
open Go.RowKit Go.Sort
theorem str_one {a : ByteArray} : ∀ u ∈ [Value.string a], u.oneCell' = true := by
  intro u hu
  simp at hu
  subst hu; rfl
theorem str_three {a b c : ByteArray} : ∀ u ∈ [Value.string a, .string b, .string c], u.oneCell' = true := by
  intro u hu
  simp at hu
  rcases hu with rfl | rfl | rfl <;> rfl

set_option maxRecDepth 100000 in
set_option maxHeartbeats 9000000 in
theorem scope_ {B : Nat} {q : PQuery} {vs vc vi vp : Value} {W : World} (hrs : W.ownsRow B 85 5 vs q.spots.length (spotCells q.spots)) (hrc : W.ownsRow B 87 7 vc q.conds.length (condCells q.conds)) (hrt : W.ownsRow B 89 2 vi q.items.length (itemCells q.items)) (hl1 : q.spots.length ≤ 3000) (hl2 : q.conds.length ≤ 3000) (hl3 : q.items.length ≤ 3000) :
    Calls Tryz.prog 43 #[.agg (qC q vs vc vi vp)] W fun e W' => e = .returned (.bool (scopedR q)) ∧ Below W.heap.size W W' := by
  obtain ⟨i1, hj, hy0, hy1, hy2⟩ := info_parts Tryz.infoString
  obtain ⟨aos, cas, rfl, hcas⟩ := row_slice (l := q.spots) hrs
  obtain ⟨aoc, cac, rfl, hcac⟩ := row_slice (l := q.conds) hrc
  obtain ⟨aoi, cai, rfl, hcai⟩ := row_slice (l := q.items) hrt
  have g0 := grown_alloc W (.cells (qC q (.slice aos q.spots.length cas) (.slice aoc q.conds.length cac) (.slice aoi q.items.length cai) vp) 29) none
  have H0 : Hid (SAt W B W.heap.size (qC q (.slice aos q.spots.length cas) (.slice aoc q.conds.length cac) (.slice aoi q.items.length cai) vp) q (.slice aos q.spots.length cas) (.slice aoc q.conds.length cac) (.slice aoi q.items.length cai) (.slice none 0 0) [] (W.alloc (.cells (qC q (.slice aos q.spots.length cas) (.slice aoc q.conds.length cac) (.slice aoi q.items.length cai) vp) 29))) :=
    ⟨Below.alloc (Below.refl _ _) (Nat.le_refl _) _, Loc.new W _ _, Nat.le_refl _, kept_none hrs g0, kept_none hrc g0, kept_none hrt g0, World.ownsRow_nil _ _ _ _⟩
  clear hrs hrc hrt g0
  go_enter Tryz.func43, Tryz.ntmps43
  go_upto_block 0 with fail
  obtain ⟨X, hX⟩ : ∃ X, X = W.heap.size := ⟨_, rfl⟩
  rw [← hX] at H0 ⊢
  generalize W.alloc (.cells (qC q (.slice aos q.spots.length cas) (.slice aoc q.conds.length cac) (.slice aoi q.items.length cai) vp) 29) = W1 at H0 ⊢
  have hXW : W.heap.size ≤ X := by omega
  clear hX
  go_cut [3, 4] (fun v _ w => SAt W B X (qC q (.slice aos q.spots.length cas) (.slice aoc q.conds.length cac) (.slice aoi q.items.length cai) vp) q (.slice aos q.spots.length cas) (.slice aoc q.conds.length cac) (.slice aoi q.items.length cai) v (condNames q.conds) w)
  case first =>
    go_wp2_with fail
    go_loopg [3, 4] q.conds.length (fun m v iv w => ∃ k : Nat, iv = .int .i64 (k : Int) ∧ k + m = q.conds.length ∧ SAt W B X (qC q (.slice aos q.spots.length cas) (.slice aoc q.conds.length cac) (.slice aoi q.items.length cai) vp) q (.slice aos q.spots.length cas) (.slice aoc q.conds.length cac) (.slice aoi q.items.length cai) v (condNames (q.conds.take k)) w)
    case atStart => exact ⟨0, rfl, by omega, H0.out⟩
    case round =>
      obtain ⟨k, rfl, hk, hq⟩ := hrel
      have HQ := Lib.hid hq
      have c2 : wr.cell? ⟨X, 2, none⟩ = some (.slice aoc q.conds.length cac) := (hq.lq.cell 2).trans rfl
      by_cases hlt : k < q.conds.length
      · obtain ⟨g, rfl, hcell⟩ := row_at (l := q.conds) fCond (fun _ => rfl) hq.rc hlt
        have p1 : wr.cell? ⟨g, k * 7 + 1, none⟩ = some (.string q.conds[k].a.name) := hcell 1 (by decide)
        have p4 : wr.cell? ⟨g, k * 7 + 4, none⟩ = some (.string q.conds[k].b.name) := hcell 4 (by decide)
        have hki : (k : Int) < (q.conds.length : Int) := by omega
        obtain ⟨na, hna⟩ : ∃ na, q.conds[k].a.name = na := ⟨_, rfl⟩
        obtain ⟨nb, hnb⟩ : ∃ nb, q.conds[k].b.name = nb := ⟨_, rfl⟩
        have HNX : Hid (condNames (q.conds.take (k + 1)) = condNames (q.conds.take k) ++ [na, nb]) := by show _ = _; rw [condNames_next hlt, hna, hnb]
        rw [hna] at p1
        rw [hnb] at p4
        have hnl := condNames_len (q.conds.take k)
        rw [List.length_take_of_le (by omega)] at hnl
        clear hcell hna hnb hq
        obtain ⟨ns, hns⟩ : ∃ ns, condNames (q.conds.take k) = ns := ⟨_, rfl⟩
        rw [hns] at HQ HNX hnl
        have hnb : ns.length ≤ 6000 := by omega
        clear hns hlt hnl
        go_upto_region 5 with fail
        have HD : Hid (SAt W B X (qC q (.slice aos q.spots.length cas) (.slice (some ⟨g, 0, none⟩) q.conds.length cac) (.slice aoi q.items.length cai) vp) q (.slice aos q.spots.length cas) (.slice (some ⟨g, 0, none⟩) q.conds.length cac) (.slice aoi q.items.length cai) u3 ns ((wr.alloc (.cells #[.string na, .string nb] 9)).drew)) := (HQ.out.alloc _).drew 1
        go_region_law (refine step_append_lies _ rfl _ _ 56 rfl W.heap.size 9 i1 (.string ⟨#[]⟩) 1 16 Tryz.underlying56 hj hy0 hy1 hy2 rfl (by decide) u3 _ _ (by simp [Act.eval]) HD.out.rl ⟨wr.heap.size, 0, none⟩ 2 2 [.string na, .string nb] (by simp [Act.eval]) rfl (World.news_of_block (heap_alloc_new wr _)) two_one (by omega) (by unfold maxLen; omega) (by omega) HD.out.low.size _ rfl ?_; intro g2 cap2 w5 hown hgrow _ _; have H5 := Lib.hid (HD.out.more (l := [na, nb]) hgrow (by rw [strs_append, List.length_append]; exact hown)); clear hown hgrow)
        all_goals
          go_wp2_with fail
          go_roundg (gk - 1)
          case measure => omega
          case rel => exact ⟨k + 1, by simp, by omega, by rw [HNX.out]; exact H5.out⟩
      · have hki : ¬ (k : Int) < (q.conds.length : Int) := by omega
        have hk2 : k = q.conds.length := by omega
        go_wp2_with fail
        go_meet
        case rel =>
          rw [hk2, List.take_length] at HQ
          exact HQ.out
  case rest =>
    clear H0
    have H1 := Lib.hid hcut
    have hn0 := condNames_len q.conds
    obtain ⟨n0, hns0⟩ : ∃ n0, condNames q.conds = n0 := ⟨_, rfl⟩
    rw [hns0] at H1 hn0
    have HN0 := Lib.hid hns0
    have hn0b : n0.length ≤ 6000 := by omega
    clear hcut hns0 hn0
    go_upto_block 2 with fail
    go_cut [3, 5] (fun v _ w => SAt W B X (qC q (.slice aos q.spots.length cas) (.slice aoc q.conds.length cac) (.slice aoi q.items.length cai) vp) q (.slice aos q.spots.length cas) (.slice aoc q.conds.length cac) (.slice aoi q.items.length cai) v (n0 ++ itemNames q.items) w)
    case first =>
      go_wp2_with fail
      go_loopg [3, 5] q.items.length (fun m v iv w => ∃ k : Nat, iv = .int .i64 (k : Int) ∧ k + m = q.items.length ∧ SAt W B X (qC q (.slice aos q.spots.length cas) (.slice aoc q.conds.length cac) (.slice aoi q.items.length cai) vp) q (.slice aos q.spots.length cas) (.slice aoc q.conds.length cac) (.slice aoi q.items.length cai) v (n0 ++ itemNames (q.items.take k)) w)
      case atStart => exact ⟨0, rfl, by omega, by rw [show itemNames (q.items.take 0) = [] from rfl, List.append_nil]; exact H1.out⟩
      case round =>
        obtain ⟨k, rfl, hk, hq⟩ := hrel
        have HQ := Lib.hid hq
        have c3 : wr.cell? ⟨X, 3, none⟩ = some (.slice aoi q.items.length cai) := (hq.lq.cell 3).trans rfl
        clear H1
        by_cases hlt : k < q.items.length
        · obtain ⟨g, rfl, hcell⟩ := row_at (l := q.items) fItem (fun _ => rfl) hq.rt hlt
          have p0 : wr.cell? ⟨g, k * 2, none⟩ = some (.string q.items[k].name) := hcell 0 (by decide)
          have hki : (k : Int) < (q.items.length : Int) := by omega
          obtain ⟨na, hna⟩ : ∃ na, q.items[k].name = na := ⟨_, rfl⟩
          have HNX : Hid (n0 ++ itemNames (q.items.take (k + 1)) = (n0 ++ itemNames (q.items.take k)) ++ [na]) := by show _ = _; rw [itemNames_next hlt, hna, List.append_assoc]
          rw [hna] at p0
          have hnl := itemNames_len (q.items.take k)
          rw [List.length_take_of_le (by omega)] at hnl
          have hnb : (n0 ++ itemNames (q.items.take k)).length ≤ 9000 := by rw [List.length_append]; omega
          clear hcell hna hq hnl
          obtain ⟨ns, hns⟩ : ∃ ns, n0 ++ itemNames (q.items.take k) = ns := ⟨_, rfl⟩
          rw [hns] at HQ HNX hnb
          clear hns hlt
          have HD : Hid (SAt W B X (qC q (.slice aos q.spots.length cas) (.slice aoc q.conds.length cac) (.slice (some ⟨g, 0, none⟩) q.items.length cai) vp) q (.slice aos q.spots.length cas) (.slice aoc q.conds.length cac) (.slice (some ⟨g, 0, none⟩) q.items.length cai) u3 ns (wr.alloc (.cells #[.string na] 9))) := HQ.out.alloc _
          go_wp2_with (at_builtin; go_must (refine wpList_append_lies _ rfl _ _ 56 rfl W.heap.size 9 i1 (.string ⟨#[]⟩) 1 16 Tryz.underlying56 hj hy0 hy1 hy2 rfl (by decide) u3 _ _ rfl HD.out.rl _ 1 1 [.string na] rfl rfl (World.news_of_block (heap_alloc_new wr _)) str_one (by omega) (by unfold maxLen; omega) (by omega) HD.out.low.size _ rfl ?_; intro g2 cap2 w5 hown hgrow _ _; have H5 := Lib.hid (HD.out.more (l := [na]) hgrow (by rw [strs_append, List.length_append]; exact hown)); clear hown hgrow))
          go_roundg (gk - 1)
          case measure => omega
          case rel => exact ⟨k + 1, by simp, by omega, by rw [HNX.out]; exact H5.out⟩
        · have hki : ¬ (k : Int) < (q.items.length : Int) := by omega
          have hk2 : k = q.items.length := by omega
          go_wp2_with fail
          go_meet
          case rel =>
            rw [hk2, List.take_length] at HQ
            exact HQ.out
    case rest =>
      clear H1
      have hn1 := itemNames_len q.items
      have H2 := Lib.hid hcut
      have hn1b : (n0 ++ itemNames q.items).length ≤ 9000 := by rw [List.length_append]; omega
      obtain ⟨n1, hns1⟩ : ∃ n1, n0 ++ itemNames q.items = n1 := ⟨_, rfl⟩
      rw [hns1] at H2 hn1b
      have HN1 := Lib.hid hns1
      clear hcut hns1 hn1
      go_upto_region 10 with fail
      go_cut [55] (fun v w => v = .bool (decide (2 ≤ q.kind ∧ q.kind ≤ 4)) ∧ SAt W B X (qC q (.slice aos q.spots.length cas) (.slice aoc q.conds.length cac) (.slice aoi q.items.length cai) vp) q (.slice aos q.spots.length cas) (.slice aoc q.conds.length cac) (.slice aoi q.items.length cai) u3 n1 w)
      case first =>
        have c0 : wc.cell? ⟨X, 0, none⟩ = some (.int .i64 q.kind) := (H2.out.lq.cell 0).trans rfl
        by_cases h2 : (2 : Int) ≤ q.kind
        · by_cases h4 : q.kind ≤ (4 : Int)
          · have HD : Hid (decide (2 ≤ q.kind ∧ q.kind ≤ 4) = true) := decide_eq_true ⟨h2, h4⟩
            go_wp2_with fail
            go_meet
            case rel => exact ⟨by rw [HD.out], H2.out⟩
          · have HD : Hid (decide (2 ≤ q.kind ∧ q.kind ≤ 4) = false) := decide_eq_false (fun e => h4 e.2)
            go_wp2_with fail
            go_meet
            case rel => exact ⟨by rw [HD.out], H2.out⟩
        · have HD : Hid (decide (2 ≤ q.kind ∧ q.kind ≤ 4) = false) := decide_eq_false (fun e => h2 e.1)
          go_wp2_with fail
          go_meet
          case rel => exact ⟨by rw [HD.out], H2.out⟩
      case rest =>
        obtain ⟨rfl, hq⟩ := hcut
        have H3 := Lib.hid hq
        clear hq H2
        obtain ⟨kd, hkd⟩ : ∃ kd, decide (2 ≤ q.kind ∧ q.kind ≤ 4) = kd := ⟨_, rfl⟩
        have HKD := Lib.hid hkd
        rw [hkd]
        clear hkd
        go_upto_if 55 with fail
        go_cut [3] (fun v w => SAt W B X (qC q (.slice aos q.spots.length cas) (.slice aoc q.conds.length cac) (.slice aoi q.items.length cai) vp) q (.slice aos q.spots.length cas) (.slice aoc q.conds.length cac) (.slice aoi q.items.length cai) v (n1 ++ if kd then [q.name, q.to, q.value.name] else []) w)
        case first =>
          cases kd with
          | false =>
            go_wp2_with fail
            go_meet
            case rel => exact (by rw [show (n1 ++ if false = true then [q.name, q.to, q.value.name] else []) = n1 from List.append_nil _]; exact H3.out)
          | true =>
            have c8 : wc.cell? ⟨X, 8, none⟩ = some (.string q.name) := (H3.out.lq.cell 8).trans rfl
            have c14 : wc.cell? ⟨X, 14, none⟩ = some (.string q.to) := (H3.out.lq.cell 14).trans rfl
            have c10 : wc.cell? ⟨X, 10, none⟩ = some (.string q.value.name) := (H3.out.lq.cell 10).trans rfl
            have HD : Hid (SAt W B X (qC q (.slice aos q.spots.length cas) (.slice aoc q.conds.length cac) (.slice aoi q.items.length cai) vp) q (.slice aos q.spots.length cas) (.slice aoc q.conds.length cac) (.slice aoi q.items.length cai) u3 n1 (wc.alloc (.cells #[.string q.name, .string q.to, .string q.value.name] 9))) := H3.out.alloc _
            go_wp2_with (at_builtin; go_must (refine wpList_append_lies _ rfl _ _ 56 rfl W.heap.size 9 i1 (.string ⟨#[]⟩) 1 16 Tryz.underlying56 hj hy0 hy1 hy2 rfl (by decide) u3 _ _ rfl HD.out.rl _ 3 3 [.string q.name, .string q.to, .string q.value.name] rfl rfl (World.news_of_block (heap_alloc_new wc _)) str_three (by omega) (by unfold maxLen; omega) (by omega) HD.out.low.size _ rfl ?_; intro g2 cap2 w5 hown hgrow _ _; have H5 := Lib.hid (HD.out.more (l := [q.name, q.to, q.value.name]) hgrow (by rw [strs_append, List.length_append]; exact hown)); clear hown hgrow))
            go_meet
            case rel => exact H5.out
        case rest =>
          have H4 := Lib.hid hcut
          obtain ⟨n2, hns2⟩ : ∃ n2, (n1 ++ if kd then [q.name, q.to, q.value.name] else []) = n2 := ⟨_, rfl⟩
          have hn2b : (n1 ++ if kd then [q.name, q.to, q.value.name] else []).length ≤ 9003 := by rw [List.length_append]; split <;> simp <;> omega
          rw [hns2] at H4 hn2b
          have HN2 : Hid (namesR q = n2) := by
            show _ = _
            unfold namesR
            rw [← hns2, ← HN1.out, ← HN0.out, ← HKD.out]
            unfold condNames itemNames
            by_cases hk : 2 ≤ q.kind ∧ q.kind ≤ 4 <;> simp [hk]
          clear hcut hns2 H3
          obtain ⟨al, cl, hu3, hcl⟩ := row_slice (l := n2) H4.out.rl
          subst hu3
          go_upto_block 4 with fail
          go_wp2_with fail
          go_loopg [6] n2.length (fun m iv w => ∃ k : Nat, iv = .int .i64 (k : Int) ∧ k + m = n2.length ∧ SAt W B X (qC q (.slice aos q.spots.length cas) (.slice aoc q.conds.length cac) (.slice aoi q.items.length cai) vp) q (.slice aos q.spots.length cas) (.slice aoc q.conds.length cac) (.slice aoi q.items.length cai) (.slice al n2.length cl) n2 w ∧ (n2.take k).all (fun n => n.toList.isEmpty || boundR q.spots n) = true)
          case atStart => exact ⟨0, rfl, by omega, H4.out, rfl⟩
          case round =>
            obtain ⟨k, rfl, hk, hq, hall⟩ := hrel
            have HQ := Lib.hid hq
            have HALL := Lib.hid hall
            clear H4 hall
            by_cases hlt : k < n2.length
            · obtain ⟨g, rfl, hcell⟩ := row_at (l := n2) (fun s => [.string s]) (fun _ => rfl) (by rw [← strs_flat]; exact hq.rl) hlt
              have p0 : wr.cell? ⟨g, k, none⟩ = some (.string n2[k]) := by have := hcell 0 (by decide); simpa using this
              have hki : (k : Int) < (n2.length : Int) := by omega
              obtain ⟨nm, hnm⟩ : ∃ nm, n2[k] = nm := ⟨_, rfl⟩
              have HNX : Hid ((n2.take (k + 1)).all (fun n => n.toList.isEmpty || boundR q.spots n) = (nm.toList.isEmpty || boundR q.spots nm)) := by
                show _ = _
                rw [show n2.take (k + 1) = n2.take k ++ [n2[k]] by rw [List.take_add_one, List.getElem?_eq_getElem hlt]; rfl, List.all_append, HALL.out, hnm]
                simp
              have HNO : Hid ((nm.toList.isEmpty || boundR q.spots nm) = false → n2.all (fun n => n.toList.isEmpty || boundR q.spots n) = false) := by
                intro e
                rw [List.all_eq_false]
                exact ⟨n2[k], List.getElem_mem hlt, by rw [hnm, e]; simp⟩
              rw [hnm] at p0
              clear hcell hnm hlt hq
              cases he : nm.toList.isEmpty with
              | true =>
                go_upto_region 15 with fail
                go_quiet (fail)
                have H5 := Lib.hid (HQ.out.drew nq)
                go_wp2_with fail
                go_roundg (gk - 1)
                case measure => omega
                case rel => exact ⟨k + 1, by simp, by omega, H5.out, by rw [HNX.out, he]; rfl⟩
              | false =>
                have d0 := cell_regrown (show wr.cell? ⟨X, 0, none⟩ = some (.int .i64 q.kind) from (HQ.out.lq.cell 0).trans rfl)
                have d1 := cell_regrown (show wr.cell? ⟨X, 1, none⟩ = some (.slice aos q.spots.length cas) from (HQ.out.lq.cell 1).trans rfl)
                have d2 := cell_regrown (show wr.cell? ⟨X, 2, none⟩ = some (.slice aoc q.conds.length cac) from (HQ.out.lq.cell 2).trans rfl)
                have d3 := cell_regrown (show wr.cell? ⟨X, 3, none⟩ = some (.slice aoi q.items.length cai) from (HQ.out.lq.cell 3).trans rfl)
                have d4 := cell_regrown (show wr.cell? ⟨X, 4, none⟩ = some (.int .i64 q.order) from (HQ.out.lq.cell 4).trans rfl)
                have d5 := cell_regrown (show wr.cell? ⟨X, 5, none⟩ = some (.bool q.down) from (HQ.out.lq.cell 5).trans rfl)
                have d6 := cell_regrown (show wr.cell? ⟨X, 6, none⟩ = some (.int .i64 q.skip) from (HQ.out.lq.cell 6).trans rfl)
                have d7 := cell_regrown (show wr.cell? ⟨X, 7, none⟩ = some (.int .i64 q.limit) from (HQ.out.lq.cell 7).trans rfl)
                have d8 := cell_regrown (show wr.cell? ⟨X, 8, none⟩ = some (.string q.name) from (HQ.out.lq.cell 8).trans rfl)
                have d9 := cell_regrown (show wr.cell? ⟨X, 9, none⟩ = some (.string q.key) from (HQ.out.lq.cell 9).trans rfl)
                have d10 := cell_regrown (show wr.cell? ⟨X, 10, none⟩ = some (.string q.value.name) from (HQ.out.lq.cell 10).trans rfl)
                have d11 := cell_regrown (show wr.cell? ⟨X, 11, none⟩ = some (.string q.value.key) from (HQ.out.lq.cell 11).trans rfl)
                have d12 := cell_regrown (show wr.cell? ⟨X, 12, none⟩ = some (.int .i64 q.value.val) from (HQ.out.lq.cell 12).trans rfl)
                have d13 := cell_regrown (show wr.cell? ⟨X, 13, none⟩ = some (.string q.type) from (HQ.out.lq.cell 13).trans rfl)
                have d14 := cell_regrown (show wr.cell? ⟨X, 14, none⟩ = some (.string q.to) from (HQ.out.lq.cell 14).trans rfl)
                have d15 := cell_regrown (show wr.cell? ⟨X, 15, none⟩ = some (.string q.label) from (HQ.out.lq.cell 15).trans rfl)
                have d16 := cell_regrown (show wr.cell? ⟨X, 16, none⟩ = some (vp) from (HQ.out.lq.cell 16).trans rfl)
                have e0 := cell_regrown p0
                have cB : ∀ d os, Calls Tryz.prog 92 #[.agg #[.int .i64 q.kind, .slice aos q.spots.length cas, .slice aoc q.conds.length cac, .slice aoi q.items.length cai, .int .i64 q.order, .bool q.down, .int .i64 q.skip, .int .i64 q.limit, .string q.name, .string q.key, .string q.value.name, .string q.value.key, .int .i64 q.value.val, .string q.type, .string q.to, .string q.label, vp], .string nm] (grow (redrawn wr d) os) fun e w'' => e = .returned (.bool (boundR q.spots nm)) ∧ ∃ p : Regrown, w'' = grow (redrawn wr p.d) p.os := fun d os => Calls.regrown_of (bound (q := q) (HQ.out.later (below_regrown wr d os)).rs (by omega))
                go_upto_region 15 with fail
                refine wp_region_quiet_below (by kernel_rfl) (by kernel_rfl) ?_
                repeat (quiet_step (exact cB _ _))
                refine wpQuiet_nil ?_
                intro W5 hw5
                have H5 : Hid (SAt W B X (qC q (.slice aos q.spots.length cas) (.slice aoc q.conds.length cac) (.slice aoi q.items.length cai) vp) q (.slice aos q.spots.length cas) (.slice aoc q.conds.length cac) (.slice aoi q.items.length cai) (.slice (some ⟨g, 0, none⟩) n2.length cl) n2 W5) := by
                  obtain ⟨⟨dq, osq⟩, rfl⟩ := hw5
                  exact HQ.out.later (below_regrown wr dq osq)
                clear hw5 cB e0 d0 d1 d2 d3 d4 d5 d6 d7 d8 d9 d10 d11 d12 d13 d14 d15 d16
                obtain ⟨bd, hbd⟩ : ∃ bd, boundR q.spots nm = bd := ⟨_, rfl⟩
                have HBD := Lib.hid hbd
                rw [hbd]
                clear hbd
                cases bd with
                | true =>
                  go_wp2_with fail
                  go_roundg (gk - 1)
                  case measure => omega
                  case rel => exact ⟨k + 1, by simp, by omega, H5.out, by rw [HNX.out, HBD.out]; simp⟩
                | false =>
                  have HR : Hid (scopedR q = false) := by
                    show _ = _
                    unfold scopedR
                    rw [HN2.out, HNO.out (by rw [he, HBD.out]; rfl)]
                    rfl
                  go_wp2_with fail
                  refine bodyPost_ret (v := .bool false) ?_ rfl ⟨?_, H5.out.low⟩
                  · simp [results, Tryz.results43, go_sem]
                  · rw [HR.out]
            · have hki : ¬ (k : Int) < (n2.length : Int) := by omega
              have hk2 : k = n2.length := by omega
              have c8 : wr.cell? ⟨X, 8, none⟩ = some (.string q.name) := (HQ.out.lq.cell 8).trans rfl
              have c10 : wr.cell? ⟨X, 10, none⟩ = some (.string q.value.name) := (HQ.out.lq.cell 10).trans rfl
              have HSC : Hid (scopedR q = (q.value.name.toList.isEmpty || (q.value.name.toList == q.name.toList))) := by
                show _ = _
                have := HALL.out
                rw [hk2, List.take_length] at this
                unfold scopedR
                rw [HN2.out, this]
                rfl
              clear hq
              cases he : q.value.name.toList.isEmpty with
              | true =>
                go_wp2_with fail
                refine bodyPost_ret (v := .bool true) ?_ rfl ⟨?_, HQ.out.low⟩
                · simp [results, Tryz.results43, go_sem]
                · rw [HSC.out, he]; rfl
              | false =>
                cases hf : (q.value.name.toList == q.name.toList) with
                | true =>
                  go_wp2_with fail
                  refine bodyPost_ret (v := .bool true) ?_ rfl ⟨?_, HQ.out.low⟩
                  · simp [results, Tryz.results43, go_sem]
                  · rw [HSC.out, he, hf]; rfl
                | false =>
                  go_wp2_with fail
                  refine bodyPost_ret (v := .bool false) ?_ rfl ⟨?_, HQ.out.low⟩
                  · simp [results, Tryz.results43, go_sem]
                  · rw [HSC.out, he, hf]; rfl

end Go.Proofs.YtobgbmfpicmpcaaGreatDoor

/- The reference's 'number' answers the plain specification's value of a text of digits, with or without a sign. -/
namespace Go.Proofs.YtobgbmfpicmpcaaGreatDoor
open Go.RowKit

/-- Behind the loop: what 'number' answers, by the value n of all digits. -/
def numEnd (o : Option Int) : Value := .tuple #[.int .i64 (o.getD 0), .bool o.isSome]

set_option maxHeartbeats 1000000 in
theorem refNumberPlain (s : ByteArray) (w : World) (hs : s.size ≤ maxLen) (h0 : 0 < s.size) (hd : ∀ j, j < s.size → 48 ≤ bt s j ∧ bt s j ≤ 57) :
    Calls Tryz.prog 80 #[.string s] w fun e w' => e = .returned (numEnd (numL s.data.toList)) ∧ w' = w := by
  unfold maxLen at hs
  have HD : Hid (∀ j, j < s.size → 48 ≤ bt s j ∧ bt s j ≤ 57) := hd
  have hb0 := hd 0 h0
  rw [← bt_in h0] at hb0
  clear hd
  go_enter Tryz.func80, Tryz.ntmps80
  go_wp2
  go_loop [5, 6] (fun n i => ∃ k : Nat, k ≤ s.size ∧ i = .int .i64 k ∧ n = .int .i64 (dn s 0 k) ∧ 0 ≤ dn s 0 k ∧ dn s 0 k ≤ 1000000000) (fun _ i => s.size - (intOf i).toNat)
  case atStart => exact ⟨0, Nat.zero_le _, rfl, rfl, by simp [dn], by simp [dn]⟩
  case round =>
    obtain ⟨k, hk, rfl, rfl, hn0, hn1⟩ := hrel
    by_cases hlt : k < s.size
    · have hbk := HD.out k hlt
      have HS : Hid (dn s 0 (k + 1) = 10 * dn s 0 k + (((s[k]'hlt).toNat : Int) - 48)) := by
        show dn s 0 (k + 1) = _
        rw [dn, Nat.zero_add, bt_in hlt]
      rw [← bt_in hlt] at hbk
      by_cases hbig : 1000000000 < 10 * dn s 0 k + ((s[k]'hlt).toNat : Int) - 48
      · have HN : Hid (numL s.data.toList = none) := by
          have hd := HD.out
          refine numL_plain_bad h0 (by rw [← bt_in h0]; omega) (Or.inr ?_)
          have := dn_mono s 0 (fun j _ => hd j) (k + 1) (by omega)
          rw [HS.out, List.drop_zero] at this
          omega
        go_wp2
        go_ret2
        exact ⟨by rw [HN.out]; rfl, rfl⟩
      · go_wp2
        go_round
        case rel => exact ⟨k + 1, by omega, by go_num, by rw [HS.out]; go_num, by rw [HS.out]; omega, by rw [HS.out]; omega⟩
        case measure => simp [intOf]; omega
    · have hks : k = s.size := by omega
      have HW : Hid (dn s 0 k = (digs 0 s.data.toList : Nat)) := by
        have := dn_whole s 0 (fun j _ => HD.out j) (by omega)
        rw [List.drop_zero, Nat.sub_zero, ← hks] at this
        exact this
      clear hks
      by_cases h48 : ((s[0]'h0).toNat : Int) = 48
      · by_cases h1 : 1 < s.size
        · have HN : Hid (numL s.data.toList = none) := numL_plain_bad h0 (by rw [← bt_in h0]; omega) (Or.inl ⟨by rw [← bt_in h0]; omega, h1⟩)
          have h48' : (((s[0]'h0).toNat : Int) == 48) = true := by simp [h48]
          clear h48
          go_wp2
          go_ret2
          exact ⟨by rw [HN.out]; rfl, rfl⟩
        · have HN : Hid (numL s.data.toList = some (dn s 0 k)) := by
            rw [HW.out]
            exact numL_plain_ok h0 (by rw [← bt_in h0]; omega) (by omega) (by have := HW.out; omega)
          have h48' : (((s[0]'h0).toNat : Int) == 48) = true := by simp [h48]
          clear h48
          go_wp2
          go_ret2
          exact ⟨by rw [HN.out]; rfl, rfl⟩
      · have HN : Hid (numL s.data.toList = some (dn s 0 k)) := by
            rw [HW.out]
            exact numL_plain_ok h0 (by rw [← bt_in h0]; omega) (by rw [← bt_in h0]; omega) (by have := HW.out; omega)
        have h48' : (((s[0]'h0).toNat : Int) == 48) = false := by simp [h48]
        clear h48
        go_wp2
        go_ret2
        exact ⟨by rw [HN.out]; rfl, rfl⟩

set_option maxHeartbeats 1000000 in
theorem refNumberSign (s : ByteArray) (w : World) (hs : s.size ≤ maxLen) (h0 : 0 < s.size) (h1 : 1 < s.size) (h45 : bt s 0 = 45) (hd : ∀ j, 1 ≤ j → j < s.size → 48 ≤ bt s j ∧ bt s j ≤ 57) :
    Calls Tryz.prog 80 #[.string s] w fun e w' => e = .returned (numEnd (numL s.data.toList)) ∧ w' = w := by
  unfold maxLen at hs
  have HD : Hid (∀ j, 1 ≤ j → j < s.size → 48 ≤ bt s j ∧ bt s j ≤ 57) := hd
  have H45 : Hid (bt s 0 = 45) := h45
  have hb0 : (((s[0]'h0).toNat : Int) == 45) = true := by rw [bt_in h0, h45]; rfl
  have hb1 := hd 1 (by omega) h1
  rw [← bt_in h1] at hb1
  clear hd h45
  go_enter Tryz.func80, Tryz.ntmps80
  go_wp2
  go_loop [5, 6] (fun n i => ∃ k : Nat, 1 + k ≤ s.size ∧ i = .int .i64 ((1 + k : Nat) : Int) ∧ n = .int .i64 (dn s 1 k) ∧ 0 ≤ dn s 1 k ∧ dn s 1 k ≤ 1000000000) (fun _ i => s.size - (intOf i).toNat)
  case atStart => exact ⟨0, by omega, rfl, rfl, by simp [dn], by simp [dn]⟩
  case round =>
    obtain ⟨k, hk, rfl, rfl, hn0, hn1⟩ := hrel
    by_cases hlt : 1 + k < s.size
    · have hbk := HD.out (1 + k) (by omega) hlt
      have HS : Hid (dn s 1 (k + 1) = 10 * dn s 1 k + (((s[1 + k]'hlt).toNat : Int) - 48)) := by
        show dn s 1 (k + 1) = _
        rw [dn, bt_in hlt]
      rw [← bt_in hlt] at hbk
      by_cases hbig : 1000000000 < 10 * dn s 1 k + ((s[1 + k]'hlt).toNat : Int) - 48
      · have HN : Hid (numL s.data.toList = none) := by
          have hd := HD.out
          refine numL_sign_bad h1 H45.out (Or.inr ?_)
          have := dn_mono s 1 hd (k + 1) (by omega)
          rw [HS.out] at this
          omega
        go_wp2
        go_ret2
        exact ⟨by rw [HN.out]; rfl, rfl⟩
      · go_wp2
        go_round
        case rel => exact ⟨k + 1, by omega, by go_num, by rw [HS.out]; go_num, by rw [HS.out]; omega, by rw [HS.out]; omega⟩
        case measure => simp [intOf]; omega
    · have HW : Hid (dn s 1 k = (digs 0 (s.data.toList.drop 1) : Nat)) := by
        have hks : k = s.size - 1 := by omega
        have := dn_whole s 1 HD.out (by omega)
        rw [← hks] at this
        exact this
      by_cases h48 : ((s[1]'h1).toNat : Int) = 48
      · have HN : Hid (numL s.data.toList = none) := numL_sign_bad h1 H45.out (Or.inl (by rw [← bt_in h1]; omega))
        have h48' : (((s[1]'h1).toNat : Int) == 48) = true := by simp [h48]
        by_cases h2 : 2 < s.size
        · clear h48
          go_wp2
          go_ret2
          exact ⟨by rw [HN.out]; rfl, rfl⟩
        · have hk0 : (dn s 1 k == 0) = true := by
            have : k = 1 := by omega
            subst this
            simp only [dn]
            rw [← bt_in h1, h48]; rfl
          clear h48
          go_wp2
          go_ret2
          exact ⟨by rw [HN.out]; rfl, rfl⟩
      · have HN : Hid (numL s.data.toList = some (-(dn s 1 k))) := by
            rw [HW.out]
            exact numL_sign_ok h1 H45.out (by rw [← bt_in h1]; omega) (by have := HW.out; omega)
        have h48' : (((s[1]'h1).toNat : Int) == 48) = false := by simp [h48]
        have hk0 : (dn s 1 k == 0) = false := by
          have h2 : dn s 1 1 ≤ dn s 1 k := by
            rw [HW.out]; exact dn_mono s 1 HD.out 1 (by omega)
          have h3 : dn s 1 1 = 10 * 0 + (bt s (1 + 0) - 48) := by simp only [dn]
          rw [Nat.add_zero, ← bt_in h1] at h3
          simp; omega
        clear h48
        go_wp2
        go_ret2
        exact ⟨by rw [HN.out]; rfl, rfl⟩

end Go.Proofs.YtobgbmfpicmpcaaGreatDoor

/- The reference's 'mark' answers the longest mark at the front of a text, or nothing; it makes memory and changes none. -/
namespace Go.Proofs.YtobgbmfpicmpcaaGreatDoor
open Go.RowKit

theorem ret_str {a b : ByteArray} (h : a = b) : Ending.returned (.string a) = .returned (.string b) := by rw [h]
theorem empty_extract (s : ByteArray) : s.extract 0 0 = ⟨#[]⟩ :=
  ext_bt (by rw [size_extract' _ _ _ (Nat.zero_le _)]; rfl) (fun j hj => by rw [size_extract' _ _ _ (Nat.zero_le _)] at hj; omega)
theorem fits_of_eq {s m : ByteArray} (h1 : m.size ≤ s.size) (h2 : ((s.extract 0 m.size).toList == m.toList) = true) : fits s m := by
  refine ⟨h1, ?_⟩
  rw [ByteArray.toList_eq, ByteArray.toList_eq] at h2
  exact ByteArray.ext (Array.toList_inj.1 (by simpa using h2))
theorem not_fits_of_ne {s m : ByteArray} (h2 : ((s.extract 0 m.size).toList == m.toList) = false) : ¬ fits s m := by
  rintro ⟨-, h⟩
  rw [h] at h2
  simp at h2

theorem mark_cells (w : World) (j : Nat) (hj : j < 17) : (w.alloc (.cells #[Value.string { data := #[93, 45, 62] }, Value.string { data := #[45, 91] }, Value.string { data := #[46, 46] }, Value.string { data := #[60, 61] }, Value.string { data := #[62, 61] }, Value.string { data := #[60, 62] }, Value.string { data := #[40] }, Value.string { data := #[41] }, Value.string { data := #[58] }, Value.string { data := #[44] }, Value.string { data := #[46] }, Value.string { data := #[61] }, Value.string { data := #[60] }, Value.string { data := #[62] }, Value.string { data := #[42] }, Value.string { data := #[123] }, Value.string { data := #[125] }] 9)).cell? ⟨w.heap.size, j, none⟩ = some (.string (markAt j)) := by
  rcases (show j = 0 ∨ j = 1 ∨ j = 2 ∨ j = 3 ∨ j = 4 ∨ j = 5 ∨ j = 6 ∨ j = 7 ∨ j = 8 ∨ j = 9 ∨ j = 10 ∨ j = 11 ∨ j = 12 ∨ j = 13 ∨ j = 14 ∨ j = 15 ∨ j = 16 by omega) with rfl | rfl | rfl | rfl | rfl | rfl | rfl | rfl | rfl | rfl | rfl | rfl | rfl | rfl | rfl | rfl | rfl
  all_goals (simp [markTexts, markAt])

set_option maxHeartbeats 1000000 in
theorem refMark (s : ByteArray) (w : World) :
    Calls Tryz.prog 81 #[.string s] w fun e w' => e = .returned (.string (s.extract 0 (markLen s 0))) ∧ Below w.heap.size w w' := by
  go_enter Tryz.func81, Tryz.ntmps81
  go_wp2
  go_loopw [4] (fun i wr => ∃ k : Nat, k ≤ 17 ∧ i = .int .i64 k ∧ (∀ j, j < 17 → wr.cell? ⟨w.heap.size, j, none⟩ = some (.string (markAt j))) ∧ Below w.heap.size w wr ∧ ∀ j, j < k → ¬ fits s (markAt j)) (fun i _ => 17 - (intOf i).toNat)
  case atStart => exact ⟨0, by omega, rfl, mark_cells w, (Below.refl _ _).alloc (Nat.le_refl _) _, fun j hj => absurd hj (by omega)⟩
  case round =>
    obtain ⟨k, hk, rfl, hc, hB, hno⟩ := hrel
    have HC : Hid (∀ j, j < 17 → wr.cell? ⟨w.heap.size, j, none⟩ = some (.string (markAt j))) := hc
    have HB : Hid (Below w.heap.size w wr) := hB
    have HN : Hid (∀ j, j < k → ¬ fits s (markAt j)) := hno
    clear hc hB hno
    by_cases hlt : k < 17
    · obtain ⟨m, hm⟩ : ∃ m, m = markAt k := ⟨_, rfl⟩
      have hck : wr.cell? ⟨w.heap.size, k, none⟩ = some (.string m) := by rw [hm]; exact HC.out k hlt
      have HM : Hid (m = markAt k) := hm
      clear hm
      have HF : Hid (¬ fits s m → ∀ j, j < k + 1 → ¬ fits s (markAt j)) := by
        intro hn j hj
        by_cases e : j = k
        · subst e; rw [← HM.out]; exact hn
        · exact HN.out j (by omega)
      by_cases hle : m.size ≤ s.size
      · go_wp2
        go_quiet (fail)
        go_wp2
        · go_ret
          have h2 : ((s.extract 0 m.size).toList == m.toList) = true := by assumption
          have hf := fits_of_eq hle h2
          rw [HM.out] at hf
          exact ⟨ret_str (by rw [HM.out]; exact (mark_found hlt hf HN.out).1), below_drewN HB.out _⟩
        · go_roundw
          case rel =>
            have h2 : ((s.extract 0 m.size).toList == m.toList) = false := by assumption
            exact ⟨k + 1, by omega, by go_num, HC.out, below_drewN HB.out _, HF.out (not_fits_of_ne h2)⟩
          case measure => simp [intOf]; omega
      · have hd : decide ((m.size : Int) ≤ (s.size : Int)) = false := by simpa using hle
        go_wp2
        go_quiet (fail)
        go_wp2
        go_roundw
        case rel => exact ⟨k + 1, by omega, by go_num, HC.out, below_drewN HB.out _, HF.out (fun hf => hle hf.1)⟩
        case measure => simp [intOf]; omega
    · have HZ : Hid (markLen s 0 = 0) := mark_none (fun j hj => HN.out j (by omega))
      go_wp2
      go_ret
      exact ⟨ret_str (by rw [HZ.out]; exact (empty_extract s).symm), HB.out⟩

end Go.Proofs.YtobgbmfpicmpcaaGreatDoor

/- The reference's Tokens answers the plain specification's tokens in memory of its own. -/
namespace Go.Proofs.YtobgbmfpicmpcaaGreatDoor
open Go.RowKit

theorem refNumber (t : ByteArray) (w : World) (hs : t.size ≤ maxLen) (h : Numeral t) :
    Calls Tryz.prog 80 #[.string t] w fun e w' => e = .returned (numEnd (numL t.data.toList)) ∧ w' = w := by
  rcases h with ⟨h0, hd⟩ | ⟨h1, h45, hd⟩
  · exact refNumberPlain t w hs h0 hd
  · exact refNumberSign t w hs (by omega) h1 h45 hd
theorem refNumberSome (t : ByteArray) (w : World) (v : Int) (hs : t.size ≤ maxLen) (h : Numeral t) (hv : numL t.data.toList = some v) :
    Calls Tryz.prog 80 #[.string t] w fun e w' => e = .returned (.tuple #[.int .i64 v, .bool true]) ∧ w' = w := by
  have := refNumber t w hs h
  rw [hv] at this; exact this
theorem refNumberNone (t : ByteArray) (w : World) (hs : t.size ≤ maxLen) (h : Numeral t) (hv : numL t.data.toList = none) :
    Calls Tryz.prog 80 #[.string t] w fun e w' => e = .returned (.tuple #[.int .i64 0, .bool false]) ∧ w' = w := by
  have := refNumber t w hs h
  rw [hv] at this; exact this

theorem refMarkAt (s : ByteArray) (k : Nat) (h : k < s.size) (w : World) :
    Calls Tryz.prog 81 #[.string (s.extract k s.size)] w fun e w' => e = .returned (.string (s.extract k (k + markLen s k))) ∧ Below w.heap.size w w' := by
  have := refMark (s.extract k s.size) w
  rw [mark_text s k h] at this; exact this

set_option maxRecDepth 100000 in
set_option maxHeartbeats 2000000 in
theorem refTokens (s : ByteArray) (w : World) (h2000 : s.size ≤ 2000) :
    Calls Tryz.prog 37 #[.string s] w (TokPost s w) := by
  obtain ⟨i0, hi, hz0, hz1, hz2⟩ := info_parts Tryz.info27
  go_enter Tryz.func37, Tryz.ntmps37
  go_wp2
  go_loopw [4, 5] (fun v i wr => ∃ k acc, k ≤ s.size ∧ i = .int .i64 (k : Nat) ∧ Sofar s k acc ∧ acc.length ≤ k ∧ Below w.heap.size w wr ∧ wr.ownsRow w.heap.size 153 3 v acc.length (tokCells acc)) (fun _ i _ => s.size - (intOf i).toNat)
  case atStart => exact ⟨0, [], by omega, rfl, sofar_start s, by simp, Below.refl _ _, World.ownsRow_nil _ _ _ _⟩
  case round =>
    obtain ⟨k, acc, hk, rfl, hsf, hal, hB, hown⟩ := hrel
    have HSF : Hid (Sofar s k acc) := hsf
    have HB : Hid (Below w.heap.size w wr) := hB
    have hsz := hB.size
    clear hsf hB
    by_cases hlt : k < s.size
    · by_cases h32 : ((s[k]'hlt).toNat : Int) = 32
      · have hb : (((s[k]'hlt).toNat : Int) == 32) = true := by simp [h32]
        have HBL : Hid (bt s k = 32) := by rw [← bt_in hlt]; exact h32
        clear h32
        go_wp2
        go_roundw
        case rel => exact ⟨k + 1, acc, by omega, by go_num, HSF.out.blank hlt HBL.out, by omega, HB.out, hown⟩
        case measure => simp [intOf]; omega
      · have hb : (((s[k]'hlt).toNat : Int) == 32) = false := by simp [h32]
        have HNB : Hid (bt s k ≠ 32) := by rw [← bt_in hlt]; exact h32
        clear h32
        by_cases hl : letB ((s[k]'hlt).toNat : Int) = true
        · go_wp2_with (go_at_call 78; refine (refLetter _ _).mono ?_; rintro e w' ⟨rfl, rfl⟩)
          rename_i w1
          go_loop [7] (fun i => ∃ e : Nat, k ≤ e ∧ e ≤ s.size ∧ i = .int .i64 e ∧ span alnB s e = span alnB s k) (fun i => s.size - (intOf i).toNat)
          case atStart => exact ⟨k, Nat.le_refl _, by omega, rfl, rfl⟩
          case round =>
            obtain ⟨e, he1, he2, rfl, hsp⟩ := hrel
            have HSP : Hid (span alnB s e = span alnB s k) := hsp
            clear hsp
            by_cases hgo : ∃ h : e < s.size, letB ((s[e]'h).toNat : Int) = true ∨ digB ((s[e]'h).toNat : Int) = true
            · obtain ⟨het, hgo⟩ := hgo
              have HST : Hid (span alnB s (e + 1) = span alnB s k) := span_step het (by unfold alnB; rcases hgo with h | h <;> rw [h] <;> simp) HSP.out
              by_cases hel : letB ((s[e]'het).toNat : Int) = true
              · clear hgo
                go_wp2_with (go_at_call 78; refine (refLetter _ _).mono ?_; rintro e w' ⟨rfl, rfl⟩)
                go_round
                case rel => exact ⟨e + 1, by omega, by omega, by go_num, HST.out⟩
                case measure => simp [intOf]; omega
              · have hed : digB ((s[e]'het).toNat : Int) = true := by rcases hgo with h | h; exact absurd h hel; exact h
                have hel' : letB ((s[e]'het).toNat : Int) = false := by simpa using hel
                clear hgo hel
                go_wp2_with (first | (go_at_call 78; refine (refLetter _ _).mono ?_; rintro e w' ⟨rfl, rfl⟩) | (go_at_call 79; refine (refDigit _ _).mono ?_; rintro e w' ⟨rfl, rfl⟩))
                go_round
                case rel => exact ⟨e + 1, by omega, by omega, by go_num, HST.out⟩
                case measure => simp [intOf]; omega
            · have HE : Hid (span alnB s k = e) := span_here (fun h => by
                unfold alnB
                cases h1 : letB ((s[e]'h).toNat : Int) with
                | true => exact absurd ⟨h, Or.inl h1⟩ hgo
                | false => cases h2 : digB ((s[e]'h).toNat : Int) with
                  | true => exact absurd ⟨h, Or.inr h2⟩ hgo
                  | false => rfl) HSP.out
              have hend : ∀ h : e < s.size, letB ((s[e]'h).toNat : Int) = false ∧ digB ((s[e]'h).toNat : Int) = false := by
                intro h
                refine ⟨?_, ?_⟩
                · cases h1 : letB ((s[e]'h).toNat : Int) with
                  | true => exact absurd ⟨_, Or.inl h1⟩ hgo
                  | false => rfl
                · cases h1 : digB ((s[e]'h).toNat : Int) with
                  | true => exact absurd ⟨_, Or.inr h1⟩ hgo
                  | false => rfl
              have HEND : Hid (∀ h : e < s.size, letB ((s[e]'h).toNat : Int) = false ∧ digB ((s[e]'h).toNat : Int) = false) := hend
              clear hgo hend
              have hdone : (∃ h : e < s.size, letB ((s[e]'h).toNat : Int) = false ∧ digB ((s[e]'h).toNat : Int) = false) ∨ ¬ e < s.size := by
                by_cases h : e < s.size
                · exact Or.inl ⟨h, HEND.out h⟩
                · exact Or.inr h
              by_cases h8 : 8 < e - k
              · have HONE : Hid (one s k = none) := one_word_bad hlt hl HE.out h8
                rcases hdone with ⟨het, hx1, hx2⟩ | het
                all_goals
                  go_wp2_with (first | (go_at_call 78; refine (refLetter _ _).mono ?_; rintro e w' ⟨rfl, rfl⟩) | (go_at_call 79; refine (refDigit _ _).mono ?_; rintro e w' ⟨rfl, rfl⟩))
                  go_ret2
                  exact ⟨HB.out, Or.inl ⟨toks_none h2000 (HSF.out.bad hlt HNB.out HONE.out), rfl⟩⟩
              · have HONE : Hid (one s k = some (e, ⟨1, s.extract k e, 0⟩)) := one_word hlt hl HE.out (by omega)
                have hne : k < e := (one_next HONE.out hlt).1
                rcases hdone with ⟨het, hx1, hx2⟩ | het
                all_goals
                  go_wp2_with (first | (go_at_call 78; refine (refLetter _ _).mono ?_; rintro e w' ⟨rfl, rfl⟩) | (go_at_call 79; refine (refDigit _ _).mono ?_; rintro e w' ⟨rfl, rfl⟩) | (at_builtin; refine wpList_append_own _ rfl _ _ 71 rfl w.heap.size 153 i0 (.agg #[.int .i64 0, .string ⟨#[]⟩, .int .i64 0]) 3 32 Tryz.underlying71 hi hz0 hz1 hz2 rfl (by decide) _ _ _ rfl (hown.alloc _) _ 1 1 [.int .i64 1, .string (s.extract k e), .int .i64 0] rfl rfl three_cells three_one (by unfold maxLen; omega) (by omega) (by simp; omega) ?_; intro v' w2 hown' hgrow _))
                  have R := rel_append HB.out (Nat.le_refl _) hown hown' hgrow
                  clear hown' hgrow hown
                  go_wp2
                  go_roundw
                  case rel => exact ⟨e, _, by omega, by go_num, HSF.out.tok hlt HNB.out HONE.out, by simp; omega, R.1, R.2⟩
                  case measure => simp [intOf]; omega
        · have hl0 : letB ((s[k]'hlt).toNat : Int) = false := by simpa using hl
          have HL : Hid (letB (bt s k) = false) := by rw [← bt_in hlt]; exact hl0
          clear hl
          by_cases hnb : NumBegin s k
          · have HNB2 : Hid (NumBegin s k) := hnb
            have hsplit : digB ((s[k]'hlt).toNat : Int) = true ∨ (digB ((s[k]'hlt).toNat : Int) = false ∧ (((s[k]'hlt).toNat : Int) == 45) = true ∧ ∃ h : k + 1 < s.size, digB ((s[k + 1]'h).toNat : Int) = true) := by
              rw [bt_in hlt]
              rcases hnb with h | ⟨h1, h2⟩
              · exact Or.inl h
              · have h3 : k + 1 < s.size := bt_lt (by have := of_digB h2; omega)
                refine Or.inr ⟨digB_no (by omega), by rw [h1]; rfl, h3, ?_⟩
                rw [bt_in h3]; exact h2
            clear hnb
            rcases hsplit with hd | ⟨hd, h45, hk1, hd1⟩
            all_goals
              go_wp2_with (first | (go_at_call 78; refine (refLetter _ _).mono ?_; rintro e w' ⟨rfl, rfl⟩) | (go_at_call 79; refine (refDigit _ _).mono ?_; rintro e w' ⟨rfl, rfl⟩))
              go_loop [7] (fun i => ∃ e : Nat, k + 1 ≤ e ∧ e ≤ s.size ∧ i = .int .i64 e ∧ span digB s e = span digB s (k + 1)) (fun i => s.size - (intOf i).toNat)
              case atStart => exact ⟨k + 1, Nat.le_refl _, by omega, by go_num, rfl⟩
              case round =>
                obtain ⟨e, he1, he2, rfl, hsp⟩ := hrel
                have HSP : Hid (span digB s e = span digB s (k + 1)) := hsp
                clear hsp
                by_cases hgo : ∃ h : e < s.size, digB ((s[e]'h).toNat : Int) = true
                · obtain ⟨het, hgo⟩ := hgo
                  have HST : Hid (span digB s (e + 1) = span digB s (k + 1)) := span_step het hgo HSP.out
                  go_wp2_with (first | (go_at_call 78; refine (refLetter _ _).mono ?_; rintro e w' ⟨rfl, rfl⟩) | (go_at_call 79; refine (refDigit _ _).mono ?_; rintro e w' ⟨rfl, rfl⟩))
                  go_round
                  case rel => exact ⟨e + 1, by omega, by omega, by go_num, HST.out⟩
                  case measure => simp [intOf]; omega
                · have HE : Hid (span digB s (k + 1) = e) := span_here (fun h => by
                    cases h1 : digB ((s[e]'h).toNat : Int) with
                    | true => exact absurd ⟨h, h1⟩ hgo
                    | false => rfl) HSP.out
                  have hdone : (∃ h : e < s.size, digB ((s[e]'h).toNat : Int) = false) ∨ ¬ e < s.size := by
                    by_cases h : e < s.size
                    · left; refine ⟨h, ?_⟩
                      cases h1 : digB ((s[e]'h).toNat : Int) with
                      | true => exact absurd ⟨h, h1⟩ hgo
                      | false => rfl
                    · exact Or.inr h
                  clear hgo
                  have HNUM : Hid (Numeral (s.extract k e)) := numeral_of hlt HNB2.out HE.out
                  have hxz := size_extract' s k e he2
                  have HXZ : Hid ((s.extract k e).size ≤ maxLen) := by show _ ≤ maxLen; rw [hxz]; unfold maxLen; omega
                  clear hxz
                  cases hv : numL (s.extract k e).data.toList with
                  | none =>
                    have HV : Hid (numL (s.extract k e).data.toList = none) := hv
                    clear hv
                    have HONE : Hid (one s k = none) := one_num_bad HL.out HNB2.out HE.out HV.out
                    rcases hdone with ⟨het, hx1⟩ | het
                    all_goals
                      go_wp2_with (first | (go_at_call 78; refine (refLetter _ _).mono ?_; rintro e w' ⟨rfl, rfl⟩) | (go_at_call 79; refine (refDigit _ _).mono ?_; rintro e w' ⟨rfl, rfl⟩) | (go_at_call 80; refine (refNumberNone _ _ HXZ.out HNUM.out HV.out).mono ?_; rintro e w' ⟨rfl, rfl⟩))
                      go_ret2
                      exact ⟨HB.out, Or.inl ⟨toks_none h2000 (HSF.out.bad hlt HNB.out HONE.out), rfl⟩⟩
                  | some v =>
                    have HV : Hid (numL (s.extract k e).data.toList = some v) := hv
                    clear hv
                    have HONE : Hid (one s k = some (e, ⟨2, s.extract k e, v⟩)) := one_num HL.out HNB2.out HE.out HV.out
                    rcases hdone with ⟨het, hx1⟩ | het
                    all_goals
                      go_wp2_with (first | (go_at_call 78; refine (refLetter _ _).mono ?_; rintro e w' ⟨rfl, rfl⟩) | (go_at_call 79; refine (refDigit _ _).mono ?_; rintro e w' ⟨rfl, rfl⟩) | (go_at_call 80; refine (refNumberSome _ _ v HXZ.out HNUM.out HV.out).mono ?_; rintro e w' ⟨rfl, rfl⟩) | (at_builtin; refine wpList_append_own _ rfl _ _ 71 rfl w.heap.size 153 i0 (.agg #[.int .i64 0, .string ⟨#[]⟩, .int .i64 0]) 3 32 Tryz.underlying71 hi hz0 hz1 hz2 rfl (by decide) _ _ _ rfl (hown.alloc _) _ 1 1 [.int .i64 2, .string (s.extract k e), .int .i64 v] rfl rfl three_cells three_one (by unfold maxLen; omega) (by omega) (by simp; omega) ?_; intro v' w2 hown' hgrow _))
                      have R := rel_append HB.out (Nat.le_refl _) hown hown' hgrow
                      clear hown' hgrow hown
                      go_wp2
                      go_roundw
                      case rel => exact ⟨e, _, by omega, by go_num, HSF.out.tok hlt HNB.out HONE.out, by simp; omega, R.1, R.2⟩
                      case measure => simp [intOf]; omega
          · have HNB2 : Hid (¬ NumBegin s k) := hnb
            have hsplit : digB ((s[k]'hlt).toNat : Int) = false ∧ ((((s[k]'hlt).toNat : Int) == 45) = false ∨ ((((s[k]'hlt).toNat : Int) == 45) = true ∧ ((∃ h : k + 1 < s.size, digB ((s[k + 1]'h).toNat : Int) = false) ∨ ¬ k + 1 < s.size))) := by
              have h0 : digB ((s[k]'hlt).toNat : Int) = false := by
                cases h1 : digB ((s[k]'hlt).toNat : Int) with
                | true => exact absurd (Or.inl (by rw [← bt_in hlt]; exact h1)) hnb
                | false => rfl
              refine ⟨h0, ?_⟩
              by_cases h45 : ((s[k]'hlt).toNat : Int) = 45
              · refine Or.inr ⟨by rw [h45]; rfl, ?_⟩
                by_cases h1 : k + 1 < s.size
                · left; refine ⟨h1, ?_⟩
                  cases h2 : digB ((s[k + 1]'h1).toNat : Int) with
                  | true => exact absurd (Or.inr ⟨by rw [← bt_in hlt]; exact h45, by rw [← bt_in h1]; exact h2⟩) hnb
                  | false => rfl
                · exact Or.inr h1
              · exact Or.inl (by simpa using h45)
            clear hnb
            have hml := markLen_le hlt
            have HZM : Hid ((s.extract k (k + markLen s k)).size = markLen s k) := by show _ = _; rw [size_extract' s k _ hml]; omega
            obtain ⟨hd, hsplit⟩ := hsplit
            by_cases hm0 : markLen s k = 0
            · have HONE : Hid (one s k = none) := one_mark_bad HL.out HNB2.out hm0
              rcases hsplit with h45 | ⟨h45, ⟨h1, hd1⟩ | h1⟩
              all_goals
                go_wp2_with (first | (go_at_call 78; refine (refLetter _ _).mono ?_; rintro e w' ⟨rfl, rfl⟩) | (go_at_call 79; refine (refDigit _ _).mono ?_; rintro e w' ⟨rfl, rfl⟩) | (go_at_call 81; refine (refMarkAt s k hlt _).mono ?_; rintro e w2 ⟨rfl, hb2⟩))
                go_ret2
                exact ⟨HB.out.trans (hb2.mono hsz), Or.inl ⟨toks_none h2000 (HSF.out.bad hlt HNB.out HONE.out), rfl⟩⟩
            · have HONE : Hid (one s k = some (k + markLen s k, ⟨3, s.extract k (k + markLen s k), 0⟩)) := one_mark HL.out HNB2.out (by omega)
              obtain ⟨n, hn⟩ : ∃ n, n = markLen s k := ⟨_, rfl⟩
              rw [← hn] at hml HZM HONE hm0
              obtain ⟨m, hm⟩ : ∃ m, m = s.extract k (k + n) := ⟨_, rfl⟩
              rw [← hm] at HZM HONE
              have hmz : m.size ≤ n ∧ n ≤ m.size := by have := HZM.out; omega
              have hme : m.toList.isEmpty = false := by
                rw [ByteArray.toList_eq]
                cases hx : m.data.toList with
                | nil =>
                  have := len_toList m
                  rw [hx, List.length_nil] at this
                  omega
                | cons _ _ => rfl
              have hM : ∀ W : World, Calls Tryz.prog 81 #[.string (s.extract k s.size)] W fun e w' => e = .returned (.string m) ∧ Below W.heap.size W w' := fun W => by rw [hm, hn]; exact refMarkAt s k hlt W
              have HMC := Lib.hid hM
              clear hM hm hn
              rcases hsplit with h45 | ⟨h45, ⟨h1, hd1⟩ | h1⟩
              all_goals
                go_wp2_with (first | (go_at_call 78; refine (refLetter _ _).mono ?_; rintro e w' ⟨rfl, rfl⟩) | (go_at_call 79; refine (refDigit _ _).mono ?_; rintro e w' ⟨rfl, rfl⟩) | (go_at_call 81; refine (HMC.out _).mono ?_; rintro e w2 ⟨rfl, hb2⟩; have hb2s := hb2.size) | (at_builtin; refine wpList_append_own _ rfl _ _ 71 rfl w.heap.size 153 i0 (.agg #[.int .i64 0, .string ⟨#[]⟩, .int .i64 0]) 3 32 Tryz.underlying71 hi hz0 hz1 hz2 rfl (by decide) _ _ _ rfl ((own_below hown hb2).alloc _) _ 1 1 [.int .i64 3, .string m, .int .i64 0] rfl rfl three_cells three_one (by unfold maxLen; omega) (by omega) (by simp; omega) ?_; intro v' w3 hown' hgrow _))
                have R := rel_append (HB.out.trans (hb2.mono hsz)) (Nat.le_refl _) (own_below hown hb2) hown' hgrow
                clear hown' hgrow hown hb2
                go_wp2
                go_roundw
                case rel => exact ⟨k + n, _, by omega, by go_num, HSF.out.tok hlt HNB.out HONE.out, by simp; omega, R.1, R.2⟩
                case measure => simp [intOf]; omega
    · go_wp2
      go_ret2
      exact ⟨HB.out, Or.inr ⟨acc, _, toks_some h2000 (HSF.out.fin hlt), rfl, hown⟩⟩

set_option maxRecDepth 100000 in
set_option maxHeartbeats 1000000 in
theorem refTokensLong (s : ByteArray) (w : World) (hs : s.size ≤ maxLen) (h2000 : 2000 < s.size) :
    Calls Tryz.prog 37 #[.string s] w (TokPost s w) := by
  unfold maxLen at hs
  go_enter Tryz.func37, Tryz.ntmps37
  go_wp2
  go_ret2
  exact ⟨Below.refl _ _, Or.inl ⟨by unfold toks; rw [if_pos h2000], rfl⟩⟩

/-- The reference's Tokens, of every text. -/
theorem refTokensAny (s : ByteArray) (w : World) (hs : s.size ≤ maxLen) : Calls Tryz.prog 37 #[.string s] w (TokPost s w) := by
  by_cases h : s.size ≤ 2000
  · exact refTokens s w h
  · exact refTokensLong s w hs (by omega)

end Go.Proofs.YtobgbmfpicmpcaaGreatDoor

/- The reference's Parse. -/
namespace Go.Proofs.YtobgbmfpicmpcaaGreatDoor
open Go.RowKit

/-- The four rows of a query's answer. -/
structure QRows (B : Nat) (q : PQuery) (vs vc vi vp : Value) (w : World) : Prop where
  rs : w.ownsRow B 85 5 vs q.spots.length (spotCells q.spots)
  rc : w.ownsRow B 87 7 vc q.conds.length (condCells q.conds)
  rt : w.ownsRow B 89 2 vi q.items.length (itemCells q.items)
  rp : w.ownsRow B 91 2 vp q.pairs.length (pairCells q.pairs)
def ParsePost (r : PQuery × Int) (W : World) (e : Ending) (W' : World) : Prop :=
  Below W.heap.size W W' ∧ ∃ vs vc vi vp, e = .returned (.tuple #[.agg (qC r.1 vs vc vi vp), .int .i64 r.2]) ∧ QRows W.heap.size r.1 vs vc vi vp W'
theorem QRows.none (B : Nat) (w : World) : QRows B query0 (.slice none 0 0) (.slice none 0 0) (.slice none 0 0) (.slice none 0 0) w :=
  ⟨World.ownsRow_nil _ _ _ _, World.ownsRow_nil _ _ _ _, World.ownsRow_nil _ _ _ _, World.ownsRow_nil _ _ _ _⟩
theorem row_weaken {w : World} {B B' k n : Nat} {T : TypeId} {v : Value} {xs : List Value} (h : w.ownsRow B T k v n xs) (hb : B' ≤ B) : w.ownsRow B' T k v n xs := by
  refine ⟨h.1, ?_⟩
  rcases h.2 with e | ⟨g, cap, cur, e, hbg, r⟩
  · exact Or.inl e
  · exact Or.inr ⟨g, cap, cur, e, Nat.le_trans hb hbg, r⟩
theorem size_alloc (w : World) (o : Obj) : (w.alloc o).heap.size = w.heap.size + 1 := by simp
/-- The reader and the query, new. -/
theorem QAt.start {W W1 : World} {B : Nat} {lv : Value} {ts : List Tok} (hb : Below W.heap.size W W1) (ho : W1.ownsRow B 153 3 lv ts.length (tokCells ts)) (hl : ts.length ≤ 2000) :
    QAt W W1.heap.size lv ts ⟨ts, false⟩ (W1.heap.size + 1) (qC query0 (.slice none 0 0) (.slice none 0 0) (.slice none 0 0) (.slice none 0 0)) ⟨(.slice none 0 0), [], (.slice none 0 0), [], (.slice none 0 0), [], (.slice none 0 0), []⟩ ((W1.alloc (.cells #[lv, .int .i64 0, .bool false] 76)).alloc (.cells #[.int .i64 0, .slice none 0 0, .slice none 0 0, .slice none 0 0, .int .i64 0, .bool false, .int .i64 0, .int .i64 0, .string ⟨#[]⟩, .string ⟨#[]⟩, .string ⟨#[]⟩, .string ⟨#[]⟩, .int .i64 0, .string ⟨#[]⟩, .string ⟨#[]⟩, .string ⟨#[]⟩, .slice none 0 0] 29)) := by
  have g1 := grown_alloc W1 (.cells #[lv, .int .i64 0, .bool false] 76) (some W1.heap.size)
  have g2 := grown_alloc (W1.alloc (.cells #[lv, .int .i64 0, .bool false] 76)) (.cells #[.int .i64 0, .slice none 0 0, .slice none 0 0, .slice none 0 0, .int .i64 0, .bool false, .int .i64 0, .int .i64 0, .string ⟨#[]⟩, .string ⟨#[]⟩, .string ⟨#[]⟩, .string ⟨#[]⟩, .int .i64 0, .string ⟨#[]⟩, .string ⟨#[]⟩, .string ⟨#[]⟩, .slice none 0 0] 29) (some W1.heap.size)
  have hs := size_alloc W1 (.cells #[lv, .int .i64 0, .bool false] 76)
  have hl0 : Loc (W1.alloc (.cells #[lv, .int .i64 0, .bool false] 76)) W1.heap.size #[lv, .int .i64 ((ts.length - ts.length : Nat) : Int), .bool false] 76 := by rw [Nat.sub_self]; exact Loc.new _ _ _
  refine ⟨⟨hl0.alloc _, ⟨[], rfl⟩, ⟨_, kept_none (kept_none ho (grown_alloc _ _ none)) (grown_alloc _ _ none)⟩, hl⟩, ?_, grown_trans (grown_trans (grown_below hb _) g1) g2, by have := hb.size; omega, World.ownsRow_nil _ _ _ _, World.ownsRow_nil _ _ _ _, World.ownsRow_nil _ _ _ _, World.ownsRow_nil _ _ _ _⟩
  rw [← hs]
  exact Loc.new _ _ _
/-- What was there at the beginning is as it was. -/
theorem below_of {W Wz w : World} {b : Nat} (h0 : Below W.heap.size W Wz) (h : Wz.grownBy w (some b)) (hb : W.heap.size ≤ b) : Below W.heap.size W w :=
  ⟨h.os.trans h0.os, h.tape.trans h0.tape, h.output.trans h0.output, Nat.le_trans h0.size h.size, fun k hk => (h.block k (Nat.lt_of_lt_of_le hk h0.size) (by intro e; injection e with e; omega)).trans (h0.block k hk)⟩
theorem matchR_small {st : RS} (h : (matchR st).2.bad = false) : (matchR st).1.1.length ≤ 6 ∧ (matchR st).1.2.length ≤ 6 := by
  unfold matchR at h ⊢
  simp only [RS.orBad, Bool.or_eq_false_iff, decide_eq_false_iff_not] at h
  exact ⟨by simpa using h.2.1, by simpa using h.2.2⟩
theorem itemsR_small {st : RS} (h : (itemsR st).2.bad = false) : (itemsR st).1.items.length ≤ 6 := by
  unfold itemsR at h ⊢
  simp only [RS.orBad, Bool.or_eq_false_iff, decide_eq_false_iff_not] at h
  simpa using h.2
theorem query_small {st : RS} (h : (queryR st).2.bad = false) : (queryR st).1.spots.length ≤ 6 ∧ (queryR st).1.conds.length ≤ 6 ∧ (queryR st).1.items.length ≤ 6 := by
  unfold queryR at h ⊢
  by_cases h1 : peekR kCREATE st = true
  · simp [h1, query0]
  · by_cases h2 : peekR kCALL st = true
    · simp [h1, h2, query0]
    · simp only [h1, h2, if_false, Bool.false_eq_true] at h ⊢
      by_cases hb : (matchR st).2.bad = true
      · simp [hb] at h
      · have hb2 : (matchR st).2.bad = false := by simpa using hb
        obtain ⟨a, b⟩ := matchR_small hb2
        simp only [hb2, Bool.false_eq_true, if_false] at h ⊢
        unfold behindR at h ⊢
        by_cases h3 : peekR kRETURN (matchR st).2 = true
        · simp only [h3, if_true] at h ⊢
          exact ⟨a, b, itemsR_small h⟩
        · by_cases h4 : peekR kSET (matchR st).2 = true
          · simp [h3, h4, query0, a, b]
          · by_cases h5 : peekR kDELETE (matchR st).2 = true
            · simp [h3, h4, h5, query0, a, b]
            · simp [h3, h4, h5, query0, a, b]
theorem behindR_keeps (q : PQuery) (st : RS) : (behindR q st).1.spots = q.spots ∧ (behindR q st).1.conds = q.conds ∧ (behindR q st).1.pairs = q.pairs := by
  unfold behindR
  split
  · exact ⟨rfl, rfl, rfl⟩
  · split
    · exact ⟨rfl, rfl, rfl⟩
    · split <;> exact ⟨rfl, rfl, rfl⟩
theorem toks_len {s : ByteArray} {ts : List Tok} (h : toks s = some ts) : ts.length ≤ 2000 := by
  unfold toks at h
  split at h
  · cases h
  · have := run_length s s.size 0 ts (by omega) h
    omega

end Go.Proofs.YtobgbmfpicmpcaaGreatDoor

/- The program's parser beside the query that it fills; a link. -/
namespace Go.Proofs.YtobgbmfpicmpcaaGreatDoor
open Go.RowKit

structure PQ (W0 : World) (b G : Nat) (st : RS) (x : Nat) (q : PQuery) (vs vc vi vp : Value) (w : World) : Prop where
  p : PI b G st w
  lx : Loc w x (qC q vs vc vi vp) 29
  nx : W0.heap.size ≤ x
  grown : W0.grownBy w (some b)
  rows : QRows W0.heap.size q vs vc vi vp w
  gw : G < W0.heap.size
  bw : b < W0.heap.size
section
variable {W0 w w' : World} {b G x : Nat} {st st' : RS} {q q' : PQuery} {vs vc vi vp : Value}
theorem PQ.xb (h : PQ W0 b G st x q vs vc vi vp w) : x ≠ b := by have := h.nx; have := h.bw; omega
theorem PQ.xg (h : PQ W0 b G st x q vs vc vi vp w) : x ≠ G := by have := h.nx; have := h.gw; omega
theorem rows_far {B b : Nat} (h : QRows B q vs vc vi vp w) (hb : b < B) (g : w.grownBy w' (some b)) : QRows B q vs vc vi vp w' :=
  ⟨h.rs.kept g (Or.inr fun e => by have := (h.rs.lt b e).1; omega), h.rc.kept g (Or.inr fun e => by have := (h.rc.lt b e).1; omega), h.rt.kept g (Or.inr fun e => by have := (h.rt.lt b e).1; omega), h.rp.kept g (Or.inr fun e => by have := (h.rp.lt b e).1; omega)⟩
theorem rows_loc {B y : Nat} {cs : Array Value} (h : QRows B q vs vc vi vp w) (hl : Loc w y cs 29) (g : w.grownBy w' (some y)) : QRows B q vs vc vi vp w' :=
  ⟨h.rs.kept g (Or.inr (row_loc h.rs hl (by decide))), h.rc.kept g (Or.inr (row_loc h.rc hl (by decide))), h.rt.kept g (Or.inr (row_loc h.rt hl (by decide))), h.rp.kept g (Or.inr (row_loc h.rp hl (by decide)))⟩
theorem PQ.call (h : PQ W0 b G st x q vs vc vi vp w) (h1 : PI b G st' w') (g1 : w.grownBy w' (some b)) : PQ W0 b G st' x q vs vc vi vp w' :=
  ⟨h1, h.lx.grown g1 (by intro e; injection e with e; exact h.xb e), h.nx, grown_trans h.grown g1, rows_far h.rows h.bw g1, h.gw, h.bw⟩
/-- A field of the query that is no list is stored. -/
theorem PQ.set (h : PQ W0 b G st x q vs vc vi vp w) (j : Nat) (u : Value) (e : (qC q vs vc vi vp).setIfInBounds j u = qC q' vs vc vi vp) (e1 : q'.spots = q.spots) (e2 : q'.conds = q.conds) (e3 : q'.items = q.items) (e4 : q'.pairs = q.pairs) : PQ W0 b G st x q' vs vc vi vp (w.setCell ⟨x, j, none⟩ u) := by
  have g := grown_set w x j u
  have hr := rows_loc h.rows h.lx g
  refine ⟨h.p.kept g (by intro e; injection e with e; exact h.xb e.symm) (by intro e; injection e with e; exact h.xg e.symm), ?_, h.nx, grown_own h.grown h.nx j u, ?_, h.gw, h.bw⟩
  · rw [← e]; exact h.lx.set j u
  · exact ⟨by rw [e1]; exact hr.rs, by rw [e2]; exact hr.rc, by rw [e3]; exact hr.rt, by rw [e4]; exact hr.rp⟩
end

set_option maxRecDepth 100000 in
set_option maxHeartbeats 4000000 in
theorem link_ {W0 W : World} {b G x : Nat} {st : RS} {q : PQuery} {vs vc vi vp : Value} (h : PQ W0 b G st x q vs vc vi vp W) :
    Calls Tryz.prog 167 #[.pointer (some ⟨b, 0, none⟩), .pointer (some ⟨x, 0, none⟩)] W fun e W' => e = .returned (.tuple #[]) ∧ PQ W0 b G (linkP st).2 x { q with name := (linkP st).1.1, type := (linkP st).1.2.1, «to» := (linkP st).1.2.2 } vs vc vi vp W' := by
  have HI := Lib.hid h
  clear h
  go_enter Tryz.func167, Tryz.ntmps167
  obtain ⟨qs1, hqs1⟩ : ∃ sz, expectP mOpen st = sz := ⟨_, rfl⟩
  have Eqs1 := Lib.hid hqs1
  go_wp2_with fail
  refine (expect_ HI.out.p mOpen).mono ?_
  rintro e Q1 ⟨rfl, h, g⟩
  rw [hqs1] at h
  have Hqs1 : Hid (PQ W0 b G qs1 x q vs vc vi vp Q1) := HI.out.call h g
  clear h g hqs1 HI
  obtain ⟨vqs2, qs2, hqs2⟩ : ∃ n sz, nameP qs1 = (n, sz) := ⟨_, _, rfl⟩
  have Eqs2 := Lib.hid hqs2
  clear hqs2
  go_wp2_with fail
  refine (name_ Hqs1.out.p Eqs2.out).mono ?_
  rintro e Q2 ⟨rfl, h, g⟩
  have Ha := Hqs1.out.call h g
  have cc : Q2.cell? ⟨x, 8, none⟩ = some (.string q.name) := (Ha.lx.cell 8).trans rfl
  have cf : Q2.frozen? ⟨x, 8, none⟩ = false := Ha.lx.free 8
  have Hqs2 : Hid (PQ W0 b G qs2 x { q with name := vqs2 } vs vc vi vp (Q2.setCell ⟨x, 8, none⟩ (.string vqs2))) := Ha.set 8 (.string vqs2) rfl rfl rfl rfl rfl
  clear h g Ha Hqs1
  obtain ⟨qs3, hqs3⟩ : ∃ sz, expectP mClose qs2 = sz := ⟨_, rfl⟩
  have Eqs3 := Lib.hid hqs3
  go_wp2_with fail
  generalize Q2.setCell ⟨x, 8, none⟩ (.string vqs2) = Q2x at Hqs2 ⊢; clear cc cf
  refine (expect_ Hqs2.out.p mClose).mono ?_
  rintro e Q3 ⟨rfl, h, g⟩
  rw [hqs3] at h
  have Hqs3 : Hid (PQ W0 b G qs3 x { q with name := vqs2 } vs vc vi vp Q3) := Hqs2.out.call h g
  clear h g hqs3 Hqs2
  obtain ⟨qs4, hqs4⟩ : ∃ sz, expectP mTo qs3 = sz := ⟨_, rfl⟩
  have Eqs4 := Lib.hid hqs4
  go_wp2_with fail
  refine (expect_ Hqs3.out.p mTo).mono ?_
  rintro e Q4 ⟨rfl, h, g⟩
  rw [hqs4] at h
  have Hqs4 : Hid (PQ W0 b G qs4 x { q with name := vqs2 } vs vc vi vp Q4) := Hqs3.out.call h g
  clear h g hqs4 Hqs3
  obtain ⟨vqs5, qs5, hqs5⟩ : ∃ n sz, titleP qs4 = (n, sz) := ⟨_, _, rfl⟩
  have Eqs5 := Lib.hid hqs5
  clear hqs5
  go_wp2_with fail
  refine (title_ Hqs4.out.p Eqs5.out).mono ?_
  rintro e Q5 ⟨rfl, h, g⟩
  have Ha := Hqs4.out.call h g
  have cc : Q5.cell? ⟨x, 13, none⟩ = some (.string q.type) := (Ha.lx.cell 13).trans rfl
  have cf : Q5.frozen? ⟨x, 13, none⟩ = false := Ha.lx.free 13
  have Hqs5 : Hid (PQ W0 b G qs5 x { q with name := vqs2, type := vqs5 } vs vc vi vp (Q5.setCell ⟨x, 13, none⟩ (.string vqs5))) := Ha.set 13 (.string vqs5) rfl rfl rfl rfl rfl
  clear h g Ha Hqs4
  obtain ⟨qs6, hqs6⟩ : ∃ sz, expectP mArrow qs5 = sz := ⟨_, rfl⟩
  have Eqs6 := Lib.hid hqs6
  go_wp2_with fail
  generalize Q5.setCell ⟨x, 13, none⟩ (.string vqs5) = Q5x at Hqs5 ⊢; clear cc cf
  refine (expect_ Hqs5.out.p mArrow).mono ?_
  rintro e Q6 ⟨rfl, h, g⟩
  rw [hqs6] at h
  have Hqs6 : Hid (PQ W0 b G qs6 x { q with name := vqs2, type := vqs5 } vs vc vi vp Q6) := Hqs5.out.call h g
  clear h g hqs6 Hqs5
  obtain ⟨qs7, hqs7⟩ : ∃ sz, expectP mOpen qs6 = sz := ⟨_, rfl⟩
  have Eqs7 := Lib.hid hqs7
  go_wp2_with fail
  refine (expect_ Hqs6.out.p mOpen).mono ?_
  rintro e Q7 ⟨rfl, h, g⟩
  rw [hqs7] at h
  have Hqs7 : Hid (PQ W0 b G qs7 x { q with name := vqs2, type := vqs5 } vs vc vi vp Q7) := Hqs6.out.call h g
  clear h g hqs7 Hqs6
  obtain ⟨vqs8, qs8, hqs8⟩ : ∃ n sz, nameP qs7 = (n, sz) := ⟨_, _, rfl⟩
  have Eqs8 := Lib.hid hqs8
  clear hqs8
  go_wp2_with fail
  refine (name_ Hqs7.out.p Eqs8.out).mono ?_
  rintro e Q8 ⟨rfl, h, g⟩
  have Ha := Hqs7.out.call h g
  have cc : Q8.cell? ⟨x, 14, none⟩ = some (.string q.«to») := (Ha.lx.cell 14).trans rfl
  have cf : Q8.frozen? ⟨x, 14, none⟩ = false := Ha.lx.free 14
  have Hqs8 : Hid (PQ W0 b G qs8 x { q with name := vqs2, type := vqs5, «to» := vqs8 } vs vc vi vp (Q8.setCell ⟨x, 14, none⟩ (.string vqs8))) := Ha.set 14 (.string vqs8) rfl rfl rfl rfl rfl
  clear h g Ha Hqs7
  obtain ⟨qs9, hqs9⟩ : ∃ sz, expectP mClose qs8 = sz := ⟨_, rfl⟩
  have Eqs9 := Lib.hid hqs9
  go_wp2_with fail
  generalize Q8.setCell ⟨x, 14, none⟩ (.string vqs8) = Q8x at Hqs8 ⊢; clear cc cf
  refine (expect_ Hqs8.out.p mClose).mono ?_
  rintro e Q9 ⟨rfl, h, g⟩
  rw [hqs9] at h
  have Hqs9 : Hid (PQ W0 b G qs9 x { q with name := vqs2, type := vqs5, «to» := vqs8 } vs vc vi vp Q9) := Hqs8.out.call h g
  clear h g hqs9 Hqs8
  go_wp2_with fail
  go_end0
  refine ⟨rfl, ?_⟩
  have e : linkP st = ((vqs2, vqs5, vqs8), qs9) := by
    unfold linkP
    simp only [Eqs1.out, Eqs2.out, Eqs3.out, Eqs4.out, Eqs5.out, Eqs6.out, Eqs7.out, Eqs8.out, Eqs9.out]
  rw [e]
  exact Hqs9.out

end Go.Proofs.YtobgbmfpicmpcaaGreatDoor

