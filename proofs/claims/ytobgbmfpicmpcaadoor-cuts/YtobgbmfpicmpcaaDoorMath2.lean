/- Numbers in the plain specification: the value of digits gathered from the left, and what the library's Atoi makes of them. No program in this text. -/
import Derived.Test.YtobgbmfpicmpcaaDoorMath
namespace Go.Proofs.YtobgbmfpicmpcaaDoor

/-- The value of the first j digits behind place a. -/
def dn (s : ByteArray) (a : Nat) : Nat → Int
  | 0 => 0
  | j + 1 => 10 * dn s a j + (bt s (a + j) - 48)

theorem take_snoc (l : List UInt8) (j : Nat) (h : j < l.length) : l.take (j + 1) = l.take j ++ [l[j]] := by
  rw [List.take_succ_eq_append_getElem h]
theorem len_toList (s : ByteArray) : s.data.toList.length = s.size := by rw [Array.length_toList]; rfl
theorem bt_get {s : ByteArray} {k : Nat} (h : k < s.data.toList.length) : bt s k = ((s.data.toList[k]'h).toNat : Int) := by
  have h' : k < s.size := by rw [len_toList] at h; exact h
  rw [← bt_in h', Array.getElem_toList]; rfl
theorem dn_digs (s : ByteArray) (a : Nat) (hd : ∀ j, a ≤ j → j < s.size → 48 ≤ bt s j ∧ bt s j ≤ 57) :
    ∀ j, a + j ≤ s.size → dn s a j = (digs 0 ((s.data.toList.drop a).take j) : Nat)
  | 0, _ => by rw [List.take_zero, digs_nil]; unfold dn; omega
  | j + 1, h => by
    have ih := dn_digs s a hd j (by omega)
    have hl := len_toList s
    have hj : j < (s.data.toList.drop a).length := by rw [List.length_drop, hl]; omega
    rw [take_snoc _ j hj, digs_snoc, dn, ih, dgt_eq]
    have hb := hd (a + j) (by omega) (by omega)
    rw [bt_get (by rw [hl]; omega)] at hb
    rw [bt_get (by rw [hl]; omega), List.getElem_drop]
    omega
theorem dn_nonneg (s : ByteArray) (a : Nat) (hd : ∀ j, a ≤ j → j < s.size → 48 ≤ bt s j ∧ bt s j ≤ 57) (j : Nat) (h : a + j ≤ s.size) : 0 ≤ dn s a j := by
  rw [dn_digs s a hd j h]; omega
theorem dn_mono (s : ByteArray) (a : Nat) (hd : ∀ j, a ≤ j → j < s.size → 48 ≤ bt s j ∧ bt s j ≤ 57) (j : Nat) (h : a + j ≤ s.size) :
    dn s a j ≤ (digs 0 (s.data.toList.drop a) : Nat) := by
  rw [dn_digs s a hd j h]
  have : digs 0 (s.data.toList.drop a) = digs (digs 0 ((s.data.toList.drop a).take j)) ((s.data.toList.drop a).drop j) := by
    rw [← digs_append, List.take_append_drop]
  rw [this]
  have := digs_le ((s.data.toList.drop a).drop j) (digs 0 ((s.data.toList.drop a).take j))
  omega
theorem dn_whole (s : ByteArray) (a : Nat) (hd : ∀ j, a ≤ j → j < s.size → 48 ≤ bt s j ∧ bt s j ≤ 57) (h : a ≤ s.size) :
    dn s a (s.size - a) = (digs 0 (s.data.toList.drop a) : Nat) := by
  rw [dn_digs s a hd _ (by omega), List.take_of_length_le (by rw [List.length_drop, len_toList]; omega)]

theorem cons_of {s : ByteArray} (h : 0 < s.size) : ∃ c r, s.data.toList = c :: r ∧ (c.toNat : Int) = bt s 0 ∧ r = s.data.toList.drop 1 ∧ r.length + 1 = s.size := by
  have hl := len_toList s
  match hs : s.data.toList with
  | [] => rw [hs] at hl; simp at hl; omega
  | c :: r =>
    have := bt_get (s := s) (k := 0) (by rw [hl]; exact h)
    refine ⟨c, r, rfl, ?_, rfl, ?_⟩
    · rw [this]; simp [hs]
    · rw [hs] at hl; simpa using hl

/-- Without a sign. -/
theorem numL_plain_bad {s : ByteArray} (h0 : 0 < s.size) (h45 : bt s 0 ≠ 45) (h : (bt s 0 = 48 ∧ 1 < s.size) ∨ 1000000000 < (digs 0 s.data.toList : Nat)) : numL s.data.toList = none := by
  obtain ⟨c, r, e, hc, -, hr⟩ := cons_of h0
  rw [e] at h ⊢
  simp only [numL]
  rw [if_neg (by omega), if_pos]
  rcases h with ⟨h1, h2⟩ | h
  · exact Or.inl ⟨by omega, by intro hn; subst hn; simp at hr; omega⟩
  · exact Or.inr h
theorem numL_plain_ok {s : ByteArray} (h0 : 0 < s.size) (h45 : bt s 0 ≠ 45) (h1 : ¬ (bt s 0 = 48 ∧ 1 < s.size)) (h2 : (digs 0 s.data.toList : Nat) ≤ 1000000000) : numL s.data.toList = some ((digs 0 s.data.toList : Nat) : Int) := by
  obtain ⟨c, r, e, hc, -, hr⟩ := cons_of h0
  rw [e] at h2 ⊢
  simp only [numL]
  rw [if_neg (by omega), if_neg]
  intro h
  rcases h with ⟨ha, hb⟩ | h
  · apply h1
    have : 0 < r.length := List.length_pos_iff.2 hb
    omega
  · omega
/-- With a sign. -/
theorem numL_sign_bad {s : ByteArray} (h0 : 1 < s.size) (h45 : bt s 0 = 45) (h : bt s 1 = 48 ∨ 1000000000 < (digs 0 (s.data.toList.drop 1) : Nat)) : numL s.data.toList = none := by
  obtain ⟨c, r, e, hc, hr1, hr⟩ := cons_of (s := s) (by omega)
  have hl := len_toList s
  have hb1 := bt_get (s := s) (k := 1) (by rw [hl]; exact h0)
  rw [← hr1] at h
  rw [e]
  simp only [numL]
  rw [if_pos (by omega), if_pos]
  rcases h with h | h
  · left
    cases r with
    | nil => simp at hr; omega
    | cons d t =>
      have : s.data.toList[1]'(by rw [hl]; exact h0) = d := by simp [e]
      rw [this] at hb1
      simp; omega
  · exact Or.inr h
theorem numL_sign_ok {s : ByteArray} (h0 : 1 < s.size) (h45 : bt s 0 = 45) (h1 : bt s 1 ≠ 48) (h2 : (digs 0 (s.data.toList.drop 1) : Nat) ≤ 1000000000) : numL s.data.toList = some (-((digs 0 (s.data.toList.drop 1) : Nat) : Int)) := by
  obtain ⟨c, r, e, hc, hr1, hr⟩ := cons_of (s := s) (by omega)
  have hl := len_toList s
  have hb1 := bt_get (s := s) (k := 1) (by rw [hl]; exact h0)
  rw [← hr1] at h2 ⊢
  rw [e]
  simp only [numL]
  rw [if_pos (by omega), if_neg]
  intro h
  rcases h with h | h
  · cases r with
    | nil => simp at h
    | cons d t =>
      have : s.data.toList[1]'(by rw [hl]; exact h0) = d := by simp [e]
      rw [this] at hb1
      simp at h; omega
  · omega

theorem pu_nil (acc : Nat) : Lib.parseUint10 acc [] = .ok acc := by simp only [Lib.parseUint10]
theorem pu_cons (acc : Nat) (c : UInt8) (r : List UInt8) (hc : 48 ≤ c.toNat ∧ c.toNat ≤ 57) : Lib.parseUint10 acc (c :: r) = if 1844674407370955162 ≤ acc then .range else if 18446744073709551616 ≤ acc * 10 + (c.toNat - 48) then .range else Lib.parseUint10 (acc * 10 + (c.toNat - 48)) r := by
  simp only [Lib.parseUint10]; rw [if_pos hc]
/-- What the library makes of digits. -/
theorem parseUint_digs (M : Nat) (hM : M = 18446744073709551616) (l : List UInt8) : ∀ (acc : Nat), (∀ c ∈ l, 48 ≤ c.toNat ∧ c.toNat ≤ 57) → acc < M →
    (digs acc l < M ∧ Lib.parseUint10 acc l = .ok (digs acc l)) ∨ (M ≤ digs acc l ∧ Lib.parseUint10 acc l = .range) := by
  induction l with
  | nil => intro acc _ ha; rw [digs_nil, pu_nil]; exact Or.inl ⟨ha, rfl⟩
  | cons c r ih =>
    intro acc hl ha
    have hc := hl c List.mem_cons_self
    have hle := digs_le r (10 * acc + (c.toNat - 48))
    rw [pu_cons acc c r hc, digs_cons, dgt_eq]
    by_cases h1 : 1844674407370955162 ≤ acc
    · rw [if_pos h1]; exact Or.inr ⟨by omega, rfl⟩
    · rw [if_neg h1]
      by_cases h2 : 18446744073709551616 ≤ acc * 10 + (c.toNat - 48)
      · rw [if_pos h2]; exact Or.inr ⟨by omega, rfl⟩
      · rw [if_neg h2]
        have e : acc * 10 + (c.toNat - 48) = 10 * acc + (c.toNat - 48) := by omega
        rw [e]
        exact ih _ (fun d hd => hl d (List.mem_cons_of_mem _ hd)) (by omega)

/-- The library's answer to a text of digits: the value, or out of range: in the second case it is beyond every bound of ours. -/
theorem atoi_plain {s : ByteArray} (h0 : 0 < s.size) (hd : ∀ j, j < s.size → 48 ≤ bt s j ∧ bt s j ≤ 57) :
    Lib.atoiAll s.data.toList = .ok ((digs 0 s.data.toList : Nat) : Int) ∨ (Lib.atoiAll s.data.toList = .range ∧ 1000000000 < (digs 0 s.data.toList : Nat)) := by
  have hl := len_toList s
  have hall : ∀ c ∈ s.data.toList, 48 ≤ c.toNat ∧ c.toNat ≤ 57 := by
    intro c hc
    obtain ⟨i, hi, rfl⟩ := List.mem_iff_getElem.1 hc
    have := hd i (by rw [← hl]; exact hi)
    rw [bt_get hi] at this; omega
  obtain ⟨c, r, e, hc, -, hr⟩ := cons_of h0
  have hb := hd 0 h0
  have hp := parseUint_digs 18446744073709551616 rfl s.data.toList 0 hall (by omega)
  rw [e] at hp ⊢
  have hm : Lib.parseMag (c :: r) = Lib.parseUint10 0 (c :: r) := by simp [Lib.parseMag]
  rw [Lib.atoiAll_plain c r (by omega) (by omega), hm]
  rcases hp with ⟨h1, h2⟩ | ⟨h1, h2⟩
  · rw [h2]
    by_cases h3 : 9223372036854775808 ≤ digs 0 (c :: r)
    · right; exact ⟨by simp [Lib.signless, h3], by omega⟩
    · left; simp [Lib.signless, h3]
  · rw [h2]; right; exact ⟨by simp [Lib.signless], by omega⟩
theorem atoi_sign {s : ByteArray} (h0 : 1 < s.size) (h45 : bt s 0 = 45) (hd : ∀ j, 1 ≤ j → j < s.size → 48 ≤ bt s j ∧ bt s j ≤ 57) :
    Lib.atoiAll s.data.toList = .ok (-((digs 0 (s.data.toList.drop 1) : Nat) : Int)) ∨ (Lib.atoiAll s.data.toList = .range ∧ 1000000000 < (digs 0 (s.data.toList.drop 1) : Nat)) := by
  have hl := len_toList s
  obtain ⟨c, r, e, hc, hr1, hr⟩ := cons_of (s := s) (by omega)
  have hall : ∀ c ∈ r, 48 ≤ c.toNat ∧ c.toNat ≤ 57 := by
    intro c hc
    rw [hr1] at hc
    obtain ⟨i, hi, rfl⟩ := List.mem_iff_getElem.1 hc
    rw [List.length_drop, hl] at hi
    have := hd (1 + i) (by omega) (by omega)
    rw [bt_get (by rw [hl]; omega)] at this
    rw [List.getElem_drop]; omega
  have hp := parseUint_digs 18446744073709551616 rfl r 0 hall (by omega)
  have hc45 : c = 45 := UInt8.toNat_inj.1 (by show c.toNat = 45; omega)
  have hne : r ≠ [] := by intro hn; subst hn; simp at hr; omega
  have hm : Lib.parseMag r = Lib.parseUint10 0 r := by simp [Lib.parseMag, hne]
  rw [← hr1, e, hc45, Lib.atoiAll_minus, hm]
  rcases hp with ⟨h1, h2⟩ | ⟨h1, h2⟩
  · rw [h2]
    by_cases h3 : 9223372036854775808 < digs 0 r
    · right; exact ⟨by simp [Lib.signed, h3], by omega⟩
    · left; simp [Lib.signed, h3]
  · rw [h2]; right; exact ⟨by simp [Lib.signed], by omega⟩

end Go.Proofs.YtobgbmfpicmpcaaDoor
