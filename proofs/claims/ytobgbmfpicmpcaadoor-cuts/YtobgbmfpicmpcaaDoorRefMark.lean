/- The reference's 'mark' answers the longest mark at the front of a text, or nothing; it makes memory and changes none. -/
import Derived.Test.YtobgbmfpicmpcaaDoorSmall
import Derived.Test.YtobgbmfpicmpcaaDoorMath3
import Derived.Deep.QuietTactic
import Derived.BigQuiet
import Derived.WalkSmall
import Derived.Laws.Strings
namespace Go.Proofs.YtobgbmfpicmpcaaDoor
open Go.RowKit

theorem ret_str {a b : ByteArray} (h : a = b) : Ending.returned (.string a) = .returned (.string b) := by rw [h]
theorem empty_extract (s : ByteArray) : s.extract 0 0 = ⟨#[]⟩ :=
  ext_bt (by rw [size_extract' _ _ _ (Nat.zero_le _)]; rfl) (fun j hj => by rw [size_extract' _ _ _ (Nat.zero_le _)] at hj; omega)
theorem fits_of_eq {s m : ByteArray} (h1 : m.size ≤ s.size) (h2 : ((s.extract 0 m.size).toList == m.toList) = true) : fits s m := by
  refine ⟨h1, ?_⟩
  rw [ByteArray.toList_eq, ByteArray.toList_eq] at h2
  exact ByteArray.ext (Array.toList_inj.1 (by simpa using h2))
theorem not_fits_of_ne {s m : ByteArray} (h2 : ((s.extract 0 m.size).toList == m.toList) = false) : ¬ fits s m := by
  rintro ⟨-, h⟩
  rw [h] at h2
  simp at h2

theorem mark_cells (w : World) (j : Nat) (hj : j < 17) : (w.alloc (.cells #[Value.string { data := #[93, 45, 62] }, Value.string { data := #[45, 91] }, Value.string { data := #[46, 46] }, Value.string { data := #[60, 61] }, Value.string { data := #[62, 61] }, Value.string { data := #[60, 62] }, Value.string { data := #[40] }, Value.string { data := #[41] }, Value.string { data := #[58] }, Value.string { data := #[44] }, Value.string { data := #[46] }, Value.string { data := #[61] }, Value.string { data := #[60] }, Value.string { data := #[62] }, Value.string { data := #[42] }, Value.string { data := #[123] }, Value.string { data := #[125] }] 9)).cell? ⟨w.heap.size, j, none⟩ = some (.string (markAt j)) := by
  rcases (show j = 0 ∨ j = 1 ∨ j = 2 ∨ j = 3 ∨ j = 4 ∨ j = 5 ∨ j = 6 ∨ j = 7 ∨ j = 8 ∨ j = 9 ∨ j = 10 ∨ j = 11 ∨ j = 12 ∨ j = 13 ∨ j = 14 ∨ j = 15 ∨ j = 16 by omega) with rfl | rfl | rfl | rfl | rfl | rfl | rfl | rfl | rfl | rfl | rfl | rfl | rfl | rfl | rfl | rfl | rfl
  all_goals (simp [markTexts, markAt])

set_option maxHeartbeats 1000000 in
theorem refMark (s : ByteArray) (w : World) :
    Calls Tryd.prog 13 #[.string s] w fun e w' => e = .returned (.string (s.extract 0 (markLen s 0))) ∧ Below w.heap.size w w' := by
  go_enter Tryd.func13, Tryd.ntmps13
  go_wp2
  go_loopw [4] (fun i wr => ∃ k : Nat, k ≤ 17 ∧ i = .int .i64 k ∧ (∀ j, j < 17 → wr.cell? ⟨w.heap.size, j, none⟩ = some (.string (markAt j))) ∧ Below w.heap.size w wr ∧ ∀ j, j < k → ¬ fits s (markAt j)) (fun i _ => 17 - (intOf i).toNat)
  case atStart => exact ⟨0, by omega, rfl, mark_cells w, (Below.refl _ _).alloc (Nat.le_refl _) _, fun j hj => absurd hj (by omega)⟩
  case round =>
    obtain ⟨k, hk, rfl, hc, hB, hno⟩ := hrel
    have HC : Hid (∀ j, j < 17 → wr.cell? ⟨w.heap.size, j, none⟩ = some (.string (markAt j))) := hc
    have HB : Hid (Below w.heap.size w wr) := hB
    have HN : Hid (∀ j, j < k → ¬ fits s (markAt j)) := hno
    clear hc hB hno
    by_cases hlt : k < 17
    · obtain ⟨m, hm⟩ : ∃ m, m = markAt k := ⟨_, rfl⟩
      have hck : wr.cell? ⟨w.heap.size, k, none⟩ = some (.string m) := by rw [hm]; exact HC.out k hlt
      have HM : Hid (m = markAt k) := hm
      clear hm
      have HF : Hid (¬ fits s m → ∀ j, j < k + 1 → ¬ fits s (markAt j)) := by
        intro hn j hj
        by_cases e : j = k
        · subst e; rw [← HM.out]; exact hn
        · exact HN.out j (by omega)
      by_cases hle : m.size ≤ s.size
      · go_wp2
        go_quiet (fail)
        go_wp2
        · go_ret
          have h2 : ((s.extract 0 m.size).toList == m.toList) = true := by assumption
          have hf := fits_of_eq hle h2
          rw [HM.out] at hf
          exact ⟨ret_str (by rw [HM.out]; exact (mark_found hlt hf HN.out).1), below_drewN HB.out _⟩
        · go_roundw
          case rel =>
            have h2 : ((s.extract 0 m.size).toList == m.toList) = false := by assumption
            exact ⟨k + 1, by omega, by go_num, HC.out, below_drewN HB.out _, HF.out (not_fits_of_ne h2)⟩
          case measure => simp [intOf]; omega
      · have hd : decide ((m.size : Int) ≤ (s.size : Int)) = false := by simpa using hle
        go_wp2
        go_quiet (fail)
        go_wp2
        go_roundw
        case rel => exact ⟨k + 1, by omega, by go_num, HC.out, below_drewN HB.out _, HF.out (fun hf => hle hf.1)⟩
        case measure => simp [intOf]; omega
    · have HZ : Hid (markLen s 0 = 0) := mark_none (fun j hj => HN.out j (by omega))
      go_wp2
      go_ret
      exact ⟨ret_str (by rw [HZ.out]; exact (empty_extract s).symm), HB.out⟩

end Go.Proofs.YtobgbmfpicmpcaaDoor
