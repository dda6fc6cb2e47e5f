/- The reference's 'number' answers the plain specification's value of a text of digits, with or without a sign. -/
import Derived.Test.YtobgbmfpicmpcaaDoorSmall
import Derived.Test.YtobgbmfpicmpcaaDoorMath2
namespace Go.Proofs.YtobgbmfpicmpcaaDoor
open Go.RowKit

/-- Behind the loop: what 'number' answers, by the value n of all digits. -/
def numEnd (o : Option Int) : Value := .tuple #[.int .i64 (o.getD 0), .bool o.isSome]

set_option maxHeartbeats 1000000 in
theorem refNumberPlain (s : ByteArray) (w : World) (hs : s.size ≤ maxLen) (h0 : 0 < s.size) (hd : ∀ j, j < s.size → 48 ≤ bt s j ∧ bt s j ≤ 57) :
    Calls Tryd.prog 12 #[.string s] w fun e w' => e = .returned (numEnd (numL s.data.toList)) ∧ w' = w := by
  unfold maxLen at hs
  have HD : Hid (∀ j, j < s.size → 48 ≤ bt s j ∧ bt s j ≤ 57) := hd
  have hb0 := hd 0 h0
  rw [← bt_in h0] at hb0
  clear hd
  go_enter Tryd.func12, Tryd.ntmps12
  go_wp2
  go_loop [5, 6] (fun n i => ∃ k : Nat, k ≤ s.size ∧ i = .int .i64 k ∧ n = .int .i64 (dn s 0 k) ∧ 0 ≤ dn s 0 k ∧ dn s 0 k ≤ 1000000000) (fun _ i => s.size - (intOf i).toNat)
  case atStart => exact ⟨0, Nat.zero_le _, rfl, rfl, by simp [dn], by simp [dn]⟩
  case round =>
    obtain ⟨k, hk, rfl, rfl, hn0, hn1⟩ := hrel
    by_cases hlt : k < s.size
    · have hbk := HD.out k hlt
      have HS : Hid (dn s 0 (k + 1) = 10 * dn s 0 k + (((s[k]'hlt).toNat : Int) - 48)) := by
        show dn s 0 (k + 1) = _
        rw [dn, Nat.zero_add, bt_in hlt]
      rw [← bt_in hlt] at hbk
      by_cases hbig : 1000000000 < 10 * dn s 0 k + ((s[k]'hlt).toNat : Int) - 48
      · have HN : Hid (numL s.data.toList = none) := by
          have hd := HD.out
          refine numL_plain_bad h0 (by rw [← bt_in h0]; omega) (Or.inr ?_)
          have := dn_mono s 0 (fun j _ => hd j) (k + 1) (by omega)
          rw [HS.out, List.drop_zero] at this
          omega
        go_wp2
        go_ret2
        exact ⟨by rw [HN.out]; rfl, rfl⟩
      · go_wp2
        go_round
        case rel => exact ⟨k + 1, by omega, by go_num, by rw [HS.out]; go_num, by rw [HS.out]; omega, by rw [HS.out]; omega⟩
        case measure => simp [intOf]; omega
    · have hks : k = s.size := by omega
      have HW : Hid (dn s 0 k = (digs 0 s.data.toList : Nat)) := by
        have := dn_whole s 0 (fun j _ => HD.out j) (by omega)
        rw [List.drop_zero, Nat.sub_zero, ← hks] at this
        exact this
      clear hks
      by_cases h48 : ((s[0]'h0).toNat : Int) = 48
      · by_cases h1 : 1 < s.size
        · have HN : Hid (numL s.data.toList = none) := numL_plain_bad h0 (by rw [← bt_in h0]; omega) (Or.inl ⟨by rw [← bt_in h0]; omega, h1⟩)
          have h48' : (((s[0]'h0).toNat : Int) == 48) = true := by simp [h48]
          clear h48
          go_wp2
          go_ret2
          exact ⟨by rw [HN.out]; rfl, rfl⟩
        · have HN : Hid (numL s.data.toList = some (dn s 0 k)) := by
            rw [HW.out]
            exact numL_plain_ok h0 (by rw [← bt_in h0]; omega) (by omega) (by have := HW.out; omega)
          have h48' : (((s[0]'h0).toNat : Int) == 48) = true := by simp [h48]
          clear h48
          go_wp2
          go_ret2
          exact ⟨by rw [HN.out]; rfl, rfl⟩
      · have HN : Hid (numL s.data.toList = some (dn s 0 k)) := by
            rw [HW.out]
            exact numL_plain_ok h0 (by rw [← bt_in h0]; omega) (by rw [← bt_in h0]; omega) (by have := HW.out; omega)
        have h48' : (((s[0]'h0).toNat : Int) == 48) = false := by simp [h48]
        clear h48
        go_wp2
        go_ret2
        exact ⟨by rw [HN.out]; rfl, rfl⟩

set_option maxHeartbeats 1000000 in
theorem refNumberSign (s : ByteArray) (w : World) (hs : s.size ≤ maxLen) (h0 : 0 < s.size) (h1 : 1 < s.size) (h45 : bt s 0 = 45) (hd : ∀ j, 1 ≤ j → j < s.size → 48 ≤ bt s j ∧ bt s j ≤ 57) :
    Calls Tryd.prog 12 #[.string s] w fun e w' => e = .returned (numEnd (numL s.data.toList)) ∧ w' = w := by
  unfold maxLen at hs
  have HD : Hid (∀ j, 1 ≤ j → j < s.size → 48 ≤ bt s j ∧ bt s j ≤ 57) := hd
  have H45 : Hid (bt s 0 = 45) := h45
  have hb0 : (((s[0]'h0).toNat : Int) == 45) = true := by rw [bt_in h0, h45]; rfl
  have hb1 := hd 1 (by omega) h1
  rw [← bt_in h1] at hb1
  clear hd h45
  go_enter Tryd.func12, Tryd.ntmps12
  go_wp2
  go_loop [5, 6] (fun n i => ∃ k : Nat, 1 + k ≤ s.size ∧ i = .int .i64 ((1 + k : Nat) : Int) ∧ n = .int .i64 (dn s 1 k) ∧ 0 ≤ dn s 1 k ∧ dn s 1 k ≤ 1000000000) (fun _ i => s.size - (intOf i).toNat)
  case atStart => exact ⟨0, by omega, rfl, rfl, by simp [dn], by simp [dn]⟩
  case round =>
    obtain ⟨k, hk, rfl, rfl, hn0, hn1⟩ := hrel
    by_cases hlt : 1 + k < s.size
    · have hbk := HD.out (1 + k) (by omega) hlt
      have HS : Hid (dn s 1 (k + 1) = 10 * dn s 1 k + (((s[1 + k]'hlt).toNat : Int) - 48)) := by
        show dn s 1 (k + 1) = _
        rw [dn, bt_in hlt]
      rw [← bt_in hlt] at hbk
      by_cases hbig : 1000000000 < 10 * dn s 1 k + ((s[1 + k]'hlt).toNat : Int) - 48
      · have HN : Hid (numL s.data.toList = none) := by
          have hd := HD.out
          refine numL_sign_bad h1 H45.out (Or.inr ?_)
          have := dn_mono s 1 hd (k + 1) (by omega)
          rw [HS.out] at this
          omega
        go_wp2
        go_ret2
        exact ⟨by rw [HN.out]; rfl, rfl⟩
      · go_wp2
        go_round
        case rel => exact ⟨k + 1, by omega, by go_num, by rw [HS.out]; go_num, by rw [HS.out]; omega, by rw [HS.out]; omega⟩
        case measure => simp [intOf]; omega
    · have HW : Hid (dn s 1 k = (digs 0 (s.data.toList.drop 1) : Nat)) := by
        have hks : k = s.size - 1 := by omega
        have := dn_whole s 1 HD.out (by omega)
        rw [← hks] at this
        exact this
      by_cases h48 : ((s[1]'h1).toNat : Int) = 48
      · have HN : Hid (numL s.data.toList = none) := numL_sign_bad h1 H45.out (Or.inl (by rw [← bt_in h1]; omega))
        have h48' : (((s[1]'h1).toNat : Int) == 48) = true := by simp [h48]
        by_cases h2 : 2 < s.size
        · clear h48
          go_wp2
          go_ret2
          exact ⟨by rw [HN.out]; rfl, rfl⟩
        · have hk0 : (dn s 1 k == 0) = true := by
            have : k = 1 := by omega
            subst this
            simp only [dn]
            rw [← bt_in h1, h48]; rfl
          clear h48
          go_wp2
          go_ret2
          exact ⟨by rw [HN.out]; rfl, rfl⟩
      · have HN : Hid (numL s.data.toList = some (-(dn s 1 k))) := by
            rw [HW.out]
            exact numL_sign_ok h1 H45.out (by rw [← bt_in h1]; omega) (by have := HW.out; omega)
        have h48' : (((s[1]'h1).toNat : Int) == 48) = false := by simp [h48]
        have hk0 : (dn s 1 k == 0) = false := by
          have h2 : dn s 1 1 ≤ dn s 1 k := by
            rw [HW.out]; exact dn_mono s 1 HD.out 1 (by omega)
          have h3 : dn s 1 1 = 10 * 0 + (bt s (1 + 0) - 48) := by simp only [dn]
          rw [Nat.add_zero, ← bt_in h1] at h3
          simp; omega
        clear h48
        go_wp2
        go_ret2
        exact ⟨by rw [HN.out]; rfl, rfl⟩

end Go.Proofs.YtobgbmfpicmpcaaDoor
