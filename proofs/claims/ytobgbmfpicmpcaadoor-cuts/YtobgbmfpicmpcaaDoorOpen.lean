/- The program's 'opening': in which state a token's first byte puts the machine. -/
import Derived.Test.YtobgbmfpicmpcaaDoorSmall
namespace Go.Proofs.YtobgbmfpicmpcaaDoor
open Go.RowKit

def openN (c : Int) : Int :=
  if c = 45 then 3 else if c = 93 then 4 else if c = 46 then 5 else if c = 60 then 6 else if c = 62 then 7
  else if c = 40 ∨ c = 41 ∨ c = 58 ∨ c = 44 ∨ c = 61 ∨ c = 42 ∨ c = 123 ∨ c = 125 then 8
  else if letB c then 1 else if digB c then 2 else 0

set_option maxRecDepth 100000 in
set_option maxHeartbeats 1000000 in
theorem opening (c : Int) (w : World) : Calls Tryd.prog 18 #[.int .u8 c] w fun e w' => e = .returned (.int .i64 (openN c)) ∧ w' = w := by
  by_cases hs : c = 45 ∨ c = 93 ∨ c = 46 ∨ c = 60 ∨ c = 62 ∨ c = 40 ∨ c = 41 ∨ c = 58 ∨ c = 44 ∨ c = 61 ∨ c = 42 ∨ c = 123 ∨ c = 125
  · rcases hs with rfl | rfl | rfl | rfl | rfl | rfl | rfl | rfl | rfl | rfl | rfl | rfl | rfl
    all_goals
      go_enter Tryd.func18, Tryd.ntmps18
      go_wp2
      go_ret
      exact ⟨rfl, rfl⟩
  · have ho : openN c = if letB c then 1 else if digB c then 2 else 0 := by
      unfold openN
      rw [if_neg (by omega), if_neg (by omega), if_neg (by omega), if_neg (by omega), if_neg (by omega), if_neg (by omega)]
    have h1 : (c == 45) = false := by simp; omega
    have h2 : (c == 93) = false := by simp; omega
    have h3 : (c == 46) = false := by simp; omega
    have h4 : (c == 60) = false := by simp; omega
    have h5 : (c == 62) = false := by simp; omega
    have h6 : (c == 40) = false := by simp; omega
    have h7 : (c == 41) = false := by simp; omega
    have h8 : (c == 58) = false := by simp; omega
    have h9 : (c == 44) = false := by simp; omega
    have h10 : (c == 61) = false := by simp; omega
    have h11 : (c == 42) = false := by simp; omega
    have h12 : (c == 123) = false := by simp; omega
    have h13 : (c == 125) = false := by simp; omega
    clear hs
    cases hl : letB c with
    | true =>
      rw [hl] at ho
      rw [ho]
      clear ho
      go_enter Tryd.func18, Tryd.ntmps18
      go_wp2_with (first | (go_at_call 19; refine (isLetter _ _).mono ?_; rintro e w' ⟨rfl, rfl⟩) | (go_at_call 20; refine (isDigit _ _).mono ?_; rintro e w' ⟨rfl, rfl⟩))
      go_ret
      exact ⟨rfl, rfl⟩
    | false =>
      rw [hl] at ho
      cases hd : digB c with
      | true =>
        rw [hd] at ho
        rw [ho]
        clear ho
        go_enter Tryd.func18, Tryd.ntmps18
        go_wp2_with (first | (go_at_call 19; refine (isLetter _ _).mono ?_; rintro e w' ⟨rfl, rfl⟩) | (go_at_call 20; refine (isDigit _ _).mono ?_; rintro e w' ⟨rfl, rfl⟩))
        go_ret
        exact ⟨rfl, rfl⟩
      | false =>
        rw [hd] at ho
        rw [ho]
        clear ho
        go_enter Tryd.func18, Tryd.ntmps18
        go_wp2_with (first | (go_at_call 19; refine (isLetter _ _).mono ?_; rintro e w' ⟨rfl, rfl⟩) | (go_at_call 20; refine (isDigit _ _).mono ?_; rintro e w' ⟨rfl, rfl⟩))
        go_ret
        exact ⟨rfl, rfl⟩

end Go.Proofs.YtobgbmfpicmpcaaDoor
