/- The program's small steps over the text: 'goesOn' with each class of bytes, and 'takes': each answers whether the next byte is of the class, and goes one place on if so. -/
import Derived.Test.YtobgbmfpicmpcaaDoorInv
import Derived.Deep.QuietTactic
import Derived.BigQuiet
namespace Go.Proofs.YtobgbmfpicmpcaaDoor
open Go.RowKit

set_option maxHeartbeats 400000 in
theorem takes1 (c d : Int) (p : Nat) (w : World) (hp : w.cell? ⟨p, 0, none⟩ = some (.int .u8 d)) : Calls Tryd.prog 17 #[.int .u8 c, .pointer (some ⟨p, 0, none⟩)] w fun e w' => e = .returned (.bool (c == d)) ∧ w' = w := by
  go_enter Tryd.func17, Tryd.ntmps17
  go_wp2
  go_ret
  exact ⟨rfl, rfl⟩

theorem lt_of_class {p : Int → Bool} {s : ByteArray} {a : Nat} (hp : p (bt s a) = true) (hno : p (-1) = false) : a < s.size := by
  by_cases h : a < s.size
  · exact h
  · rw [bt_out h, hno] at hp; cases hp
theorem letB_end : letB (-1) = false := letB_no (by omega)
theorem digB_end : digB (-1) = false := digB_no (by omega)

set_option maxRecDepth 100000 in
set_option maxHeartbeats 1000000 in
theorem goesLetterYes {w0 W : World} {b : Nat} {s : ByteArray} {f : Int} {a : Nat} {acc : List Tok} (hinv : Inv w0 b s f (a : Nat) acc W) (hs : s.size ≤ 2000) (hp : letB (bt s a) = true) :
    Calls Tryd.prog 16 #[.pointer (some ⟨b, 0, none⟩), .func (.func 19) #[] #[]] W fun e W' => e = .returned (.bool true) ∧ Inv w0 b s f ((a + 1 : Nat) : Int) acc W' := by
  have hlt : a < s.size := lt_of_class hp letB_end
  rw [← bt_in hlt] at hp
  have HI : Hid (Inv w0 b s f (a : Nat) acc W) := hinv
  obtain ⟨lv, hx, ho⟩ := hinv.cut
  obtain ⟨c0, c1, c2, c3⟩ := hx.cells
  have f2 := hx.free 2
  clear hinv hx ho c1 c3
  have hne : ((a : Int) == (s.size : Int)) = false := by simp; omega
  go_enter Tryd.func16, Tryd.ntmps16
  go_wp2
  go_quiet ((go_at_call 19; exact Calls.quiet_of_same (isLetter _ _)))
  go_wp2
  go_ret
  exact ⟨rfl, (HI.out.drew nq).setAt _⟩
set_option maxRecDepth 100000 in
set_option maxHeartbeats 1000000 in
theorem goesLetterNo {w0 W : World} {b : Nat} {s : ByteArray} {f : Int} {a : Nat} {acc : List Tok} (hinv : Inv w0 b s f (a : Nat) acc W) (ha : a ≤ s.size) (hp : letB (bt s a) = false) :
    Calls Tryd.prog 16 #[.pointer (some ⟨b, 0, none⟩), .func (.func 19) #[] #[]] W fun e W' => e = .returned (.bool false) ∧ Inv w0 b s f (a : Nat) acc W' := by
  have HI : Hid (Inv w0 b s f (a : Nat) acc W) := hinv
  obtain ⟨lv, hx, ho⟩ := hinv.cut
  obtain ⟨c0, c1, c2, c3⟩ := hx.cells
  clear hinv hx ho c1 c3
  by_cases hlt : a < s.size
  · rw [← bt_in hlt] at hp
    have hne : ((a : Int) == (s.size : Int)) = false := by simp; omega
    go_enter Tryd.func16, Tryd.ntmps16
    go_wp2
    go_quiet ((go_at_call 19; exact Calls.quiet_of_same (isLetter _ _)))
    go_wp2
    go_ret
    exact ⟨rfl, HI.out.drew nq⟩
  · clear hp
    have hne : ((a : Int) == (s.size : Int)) = true := by simp; omega
    go_enter Tryd.func16, Tryd.ntmps16
    go_wp2
    go_quiet ((go_at_call 19; exact Calls.quiet_of_same (isLetter _ _)))
    go_wp2
    go_ret
    exact ⟨rfl, HI.out.drew nq⟩
set_option maxRecDepth 100000 in
set_option maxHeartbeats 1000000 in
theorem goesDigitYes {w0 W : World} {b : Nat} {s : ByteArray} {f : Int} {a : Nat} {acc : List Tok} (hinv : Inv w0 b s f (a : Nat) acc W) (hs : s.size ≤ 2000) (hp : digB (bt s a) = true) :
    Calls Tryd.prog 16 #[.pointer (some ⟨b, 0, none⟩), .func (.func 20) #[] #[]] W fun e W' => e = .returned (.bool true) ∧ Inv w0 b s f ((a + 1 : Nat) : Int) acc W' := by
  have hlt : a < s.size := lt_of_class hp digB_end
  rw [← bt_in hlt] at hp
  have HI : Hid (Inv w0 b s f (a : Nat) acc W) := hinv
  obtain ⟨lv, hx, ho⟩ := hinv.cut
  obtain ⟨c0, c1, c2, c3⟩ := hx.cells
  have f2 := hx.free 2
  clear hinv hx ho c1 c3
  have hne : ((a : Int) == (s.size : Int)) = false := by simp; omega
  go_enter Tryd.func16, Tryd.ntmps16
  go_wp2
  go_quiet ((go_at_call 20; exact Calls.quiet_of_same (isDigit _ _)))
  go_wp2
  go_ret
  exact ⟨rfl, (HI.out.drew nq).setAt _⟩
set_option maxRecDepth 100000 in
set_option maxHeartbeats 1000000 in
theorem goesDigitNo {w0 W : World} {b : Nat} {s : ByteArray} {f : Int} {a : Nat} {acc : List Tok} (hinv : Inv w0 b s f (a : Nat) acc W) (ha : a ≤ s.size) (hp : digB (bt s a) = false) :
    Calls Tryd.prog 16 #[.pointer (some ⟨b, 0, none⟩), .func (.func 20) #[] #[]] W fun e W' => e = .returned (.bool false) ∧ Inv w0 b s f (a : Nat) acc W' := by
  have HI : Hid (Inv w0 b s f (a : Nat) acc W) := hinv
  obtain ⟨lv, hx, ho⟩ := hinv.cut
  obtain ⟨c0, c1, c2, c3⟩ := hx.cells
  clear hinv hx ho c1 c3
  by_cases hlt : a < s.size
  · rw [← bt_in hlt] at hp
    have hne : ((a : Int) == (s.size : Int)) = false := by simp; omega
    go_enter Tryd.func16, Tryd.ntmps16
    go_wp2
    go_quiet ((go_at_call 20; exact Calls.quiet_of_same (isDigit _ _)))
    go_wp2
    go_ret
    exact ⟨rfl, HI.out.drew nq⟩
  · clear hp
    have hne : ((a : Int) == (s.size : Int)) = true := by simp; omega
    go_enter Tryd.func16, Tryd.ntmps16
    go_wp2
    go_quiet ((go_at_call 20; exact Calls.quiet_of_same (isDigit _ _)))
    go_wp2
    go_ret
    exact ⟨rfl, HI.out.drew nq⟩
set_option maxRecDepth 100000 in
set_option maxHeartbeats 1000000 in
theorem goesByteYes {w0 W : World} {b : Nat} {s : ByteArray} {f : Int} {a : Nat} {acc : List Tok} {d : Int} {q : Nat} (hd : 0 ≤ d) (hq : W.cell? ⟨q, 0, none⟩ = some (.int .u8 d)) (hinv : Inv w0 b s f (a : Nat) acc W) (hs : s.size ≤ 2000) (hp : ((bt s a) == d) = true) :
    Calls Tryd.prog 16 #[.pointer (some ⟨b, 0, none⟩), .func (.func 17) #[] #[.pointer (some ⟨q, 0, none⟩)]] W fun e W' => e = .returned (.bool true) ∧ Inv w0 b s f ((a + 1 : Nat) : Int) acc W' := by
  have hlt : a < s.size := lt_of_class (p := fun x => x == d) hp (by simp; omega)
  rw [← bt_in hlt] at hp
  have HI : Hid (Inv w0 b s f (a : Nat) acc W) := hinv
  obtain ⟨lv, hx, ho⟩ := hinv.cut
  obtain ⟨c0, c1, c2, c3⟩ := hx.cells
  have f2 := hx.free 2
  clear hinv hx ho c1 c3
  have hne : ((a : Int) == (s.size : Int)) = false := by simp; omega
  go_enter Tryd.func16, Tryd.ntmps16
  go_wp2
  go_quiet ((go_at_call 17; exact Calls.quiet_of_same (takes1 _ _ _ _ hq)))
  go_wp2
  go_ret
  exact ⟨rfl, (HI.out.drew nq).setAt _⟩
set_option maxRecDepth 100000 in
set_option maxHeartbeats 1000000 in
theorem goesByteNo {w0 W : World} {b : Nat} {s : ByteArray} {f : Int} {a : Nat} {acc : List Tok} {d : Int} {q : Nat} (hq : W.cell? ⟨q, 0, none⟩ = some (.int .u8 d)) (hinv : Inv w0 b s f (a : Nat) acc W) (ha : a ≤ s.size) (hp : ((bt s a) == d) = false) :
    Calls Tryd.prog 16 #[.pointer (some ⟨b, 0, none⟩), .func (.func 17) #[] #[.pointer (some ⟨q, 0, none⟩)]] W fun e W' => e = .returned (.bool false) ∧ Inv w0 b s f (a : Nat) acc W' := by
  have HI : Hid (Inv w0 b s f (a : Nat) acc W) := hinv
  obtain ⟨lv, hx, ho⟩ := hinv.cut
  obtain ⟨c0, c1, c2, c3⟩ := hx.cells
  clear hinv hx ho c1 c3
  by_cases hlt : a < s.size
  · rw [← bt_in hlt] at hp
    have hne : ((a : Int) == (s.size : Int)) = false := by simp; omega
    go_enter Tryd.func16, Tryd.ntmps16
    go_wp2
    go_quiet ((go_at_call 17; exact Calls.quiet_of_same (takes1 _ _ _ _ hq)))
    go_wp2
    go_ret
    exact ⟨rfl, HI.out.drew nq⟩
  · clear hp
    have hne : ((a : Int) == (s.size : Int)) = true := by simp; omega
    go_enter Tryd.func16, Tryd.ntmps16
    go_wp2
    go_quiet ((go_at_call 17; exact Calls.quiet_of_same (takes1 _ _ _ _ hq)))
    go_wp2
    go_ret
    exact ⟨rfl, HI.out.drew nq⟩

set_option maxHeartbeats 400000 in
theorem takesYes {w0 W : World} {b : Nat} {s : ByteArray} {f : Int} {a : Nat} {acc : List Tok} {d : Int} (hd : 0 ≤ d) (hinv : Inv w0 b s f (a : Nat) acc W) (hs : s.size ≤ 2000) (hp : (bt s a == d) = true) :
    Calls Tryd.prog 14 #[.pointer (some ⟨b, 0, none⟩), .int .u8 d] W fun e W' => e = .returned (.bool true) ∧ Inv w0 b s f ((a + 1 : Nat) : Int) acc W' := by
  have HI : Hid (Inv w0 b s f (a : Nat) acc W) := hinv
  have HP : Hid ((bt s a == d) = true) := hp
  clear hinv hp
  go_enter Tryd.func14, Tryd.ntmps14
  go_wp2_with (go_at_call 16; refine (goesByteYes hd (by simp) (HI.out.alloc _) hs HP.out).mono ?_; rintro e W' ⟨rfl, h1⟩)
  go_ret
  exact ⟨rfl, h1⟩
set_option maxHeartbeats 400000 in
theorem takesNo {w0 W : World} {b : Nat} {s : ByteArray} {f : Int} {a : Nat} {acc : List Tok} {d : Int} (hinv : Inv w0 b s f (a : Nat) acc W) (ha : a ≤ s.size) (hp : (bt s a == d) = false) :
    Calls Tryd.prog 14 #[.pointer (some ⟨b, 0, none⟩), .int .u8 d] W fun e W' => e = .returned (.bool false) ∧ Inv w0 b s f (a : Nat) acc W' := by
  have HI : Hid (Inv w0 b s f (a : Nat) acc W) := hinv
  have HP : Hid ((bt s a == d) = false) := hp
  clear hinv hp
  go_enter Tryd.func14, Tryd.ntmps14
  go_wp2_with (go_at_call 16; refine (goesByteNo (by simp) (HI.out.alloc _) ha HP.out).mono ?_; rintro e W' ⟨rfl, h1⟩)
  go_ret
  exact ⟨rfl, h1⟩

end Go.Proofs.YtobgbmfpicmpcaaDoor
