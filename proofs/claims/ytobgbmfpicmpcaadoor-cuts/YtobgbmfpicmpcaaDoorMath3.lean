/- The list of marks and the plain specification's longest mark are one. No program in this text. -/
import Derived.Test.YtobgbmfpicmpcaaDoorMath2
import Derived.WideShapes
namespace Go.Proofs.YtobgbmfpicmpcaaDoor

def markTexts : Array ByteArray := #[⟨#[93, 45, 62]⟩, ⟨#[45, 91]⟩, ⟨#[46, 46]⟩, ⟨#[60, 61]⟩, ⟨#[62, 61]⟩, ⟨#[60, 62]⟩, ⟨#[40]⟩, ⟨#[41]⟩, ⟨#[58]⟩, ⟨#[44]⟩, ⟨#[46]⟩, ⟨#[61]⟩, ⟨#[60]⟩, ⟨#[62]⟩, ⟨#[42]⟩, ⟨#[123]⟩, ⟨#[125]⟩]
def markAt (k : Nat) : ByteArray := markTexts.getD k ByteArray.empty
def fits (s m : ByteArray) : Prop := m.size ≤ s.size ∧ s.extract 0 m.size = m

theorem bt_extract (s : ByteArray) (a b j : Nat) (hb : b ≤ s.size) (hj : a + j < b) : bt (s.extract a b) j = bt s (a + j) := by
  have h1 : j < (s.extract a b).size := by rw [ByteArray.size_extract]; omega
  rw [← bt_in h1, ← bt_in (show a + j < s.size by omega)]
  rw [ByteArray.getElem_extract]
theorem size_extract' (s : ByteArray) (a b : Nat) (hb : b ≤ s.size) : (s.extract a b).size = b - a := by rw [ByteArray.size_extract]; omega

theorem ext_bt {a b : ByteArray} (hz : a.size = b.size) (h : ∀ j, j < a.size → bt a j = bt b j) : a = b := by
  apply ByteArray.ext
  apply Array.ext hz
  intro i h1 h2
  have := h i h1
  rw [← bt_in h1, ← bt_in (show i < b.size from h2)] at this
  have h3 : (a[i]'h1).toNat = (b[i]'h2).toNat := by omega
  exact UInt8.toNat_inj.1 h3

theorem fits_iff (s m : ByteArray) : fits s m ↔ ∀ j, j < m.size → bt s j = bt m j := by
  constructor
  · rintro ⟨h1, h2⟩ j hj
    have := bt_extract s 0 m.size j h1 (by omega)
    rw [Nat.zero_add] at this
    rw [← this, h2]
  · intro h
    have hle : m.size ≤ s.size := by
      by_cases h0 : m.size = 0
      · omega
      · have hm : m.size - 1 < m.size := by omega
        have h1 := h (m.size - 1) hm
        have h2 := bt_in hm
        have : m.size - 1 < s.size := bt_lt (by omega)
        omega
    refine ⟨hle, ext_bt (by rw [size_extract' _ _ _ hle]; omega) ?_⟩
    intro j hj
    rw [size_extract' _ _ _ hle] at hj
    rw [bt_extract s 0 m.size j hle (by omega), Nat.zero_add]
    exact h j (by omega)

theorem fits1 (s : ByteArray) (a : UInt8) : fits s ⟨#[a]⟩ ↔ bt s 0 = (a.toNat : Int) := by
  rw [fits_iff]
  have z : (⟨#[a]⟩ : ByteArray).size = 1 := rfl
  have b0 : bt ⟨#[a]⟩ 0 = (a.toNat : Int) := (bt_in (s := ⟨#[a]⟩) (k := 0) (by omega)).symm
  constructor
  · intro h; rw [h 0 (by omega), b0]
  · intro h j hj
    have : j = 0 := by omega
    subst this; rw [h, b0]
theorem fits2 (s : ByteArray) (a b : UInt8) : fits s ⟨#[a, b]⟩ ↔ bt s 0 = (a.toNat : Int) ∧ bt s 1 = (b.toNat : Int) := by
  rw [fits_iff]
  have z : (⟨#[a, b]⟩ : ByteArray).size = 2 := rfl
  have b0 : bt ⟨#[a, b]⟩ 0 = (a.toNat : Int) := (bt_in (s := ⟨#[a, b]⟩) (k := 0) (by omega)).symm
  have b1 : bt ⟨#[a, b]⟩ 1 = (b.toNat : Int) := (bt_in (s := ⟨#[a, b]⟩) (k := 1) (by omega)).symm
  constructor
  · intro h; exact ⟨by rw [h 0 (by omega), b0], by rw [h 1 (by omega), b1]⟩
  · intro h j hj
    have : j = 0 ∨ j = 1 := by omega
    rcases this with rfl | rfl
    · rw [h.1, b0]
    · rw [h.2, b1]
theorem fits3 (s : ByteArray) (a b c : UInt8) : fits s ⟨#[a, b, c]⟩ ↔ bt s 0 = (a.toNat : Int) ∧ bt s 1 = (b.toNat : Int) ∧ bt s 2 = (c.toNat : Int) := by
  rw [fits_iff]
  have z : (⟨#[a, b, c]⟩ : ByteArray).size = 3 := rfl
  have b0 : bt ⟨#[a, b, c]⟩ 0 = (a.toNat : Int) := (bt_in (s := ⟨#[a, b, c]⟩) (k := 0) (by omega)).symm
  have b1 : bt ⟨#[a, b, c]⟩ 1 = (b.toNat : Int) := (bt_in (s := ⟨#[a, b, c]⟩) (k := 1) (by omega)).symm
  have b2 : bt ⟨#[a, b, c]⟩ 2 = (c.toNat : Int) := (bt_in (s := ⟨#[a, b, c]⟩) (k := 2) (by omega)).symm
  constructor
  · intro h; exact ⟨by rw [h 0 (by omega), b0], by rw [h 1 (by omega), b1], by rw [h 2 (by omega), b2]⟩
  · intro h j hj
    have : j = 0 ∨ j = 1 ∨ j = 2 := by omega
    rcases this with rfl | rfl | rfl
    · rw [h.1, b0]
    · rw [h.2.1, b1]
    · rw [h.2.2, b2]

theorem n8 (n : Nat) (h : n < 256) : ((UInt8.ofNat n).toNat : Int) = n := by
  rw [UInt8.toNat_ofNat', Nat.mod_eq_of_lt (by omega)]

/-- Which marks fit, in words of the first three bytes. -/
structure Fit (s : ByteArray) : Prop where
  m0 : fits s (markAt 0) ↔ bt s 0 = 93 ∧ bt s 1 = 45 ∧ bt s 2 = 62
  m1 : fits s (markAt 1) ↔ bt s 0 = 45 ∧ bt s 1 = 91
  m2 : fits s (markAt 2) ↔ bt s 0 = 46 ∧ bt s 1 = 46
  m3 : fits s (markAt 3) ↔ bt s 0 = 60 ∧ bt s 1 = 61
  m4 : fits s (markAt 4) ↔ bt s 0 = 62 ∧ bt s 1 = 61
  m5 : fits s (markAt 5) ↔ bt s 0 = 60 ∧ bt s 1 = 62
  m6 : fits s (markAt 6) ↔ bt s 0 = 40
  m7 : fits s (markAt 7) ↔ bt s 0 = 41
  m8 : fits s (markAt 8) ↔ bt s 0 = 58
  m9 : fits s (markAt 9) ↔ bt s 0 = 44
  m10 : fits s (markAt 10) ↔ bt s 0 = 46
  m11 : fits s (markAt 11) ↔ bt s 0 = 61
  m12 : fits s (markAt 12) ↔ bt s 0 = 60
  m13 : fits s (markAt 13) ↔ bt s 0 = 62
  m14 : fits s (markAt 14) ↔ bt s 0 = 42
  m15 : fits s (markAt 15) ↔ bt s 0 = 123
  m16 : fits s (markAt 16) ↔ bt s 0 = 125
theorem fit (s : ByteArray) : Fit s where
  m0 := fits3 s 93 45 62
  m1 := fits2 s 45 91
  m2 := fits2 s 46 46
  m3 := fits2 s 60 61
  m4 := fits2 s 62 61
  m5 := fits2 s 60 62
  m6 := fits1 s 40
  m7 := fits1 s 41
  m8 := fits1 s 58
  m9 := fits1 s 44
  m10 := fits1 s 46
  m11 := fits1 s 61
  m12 := fits1 s 60
  m13 := fits1 s 62
  m14 := fits1 s 42
  m15 := fits1 s 123
  m16 := fits1 s 125

theorem mark_none {s : ByteArray} (h : ∀ j, j < 17 → ¬ fits s (markAt j)) : markLen s 0 = 0 := by
  have F := fit s
  have a0 := mt F.m0.2 (h 0 (by omega)); have a1 := mt F.m1.2 (h 1 (by omega)); have a6 := mt F.m6.2 (h 6 (by omega)); have a7 := mt F.m7.2 (h 7 (by omega))
  have a8 := mt F.m8.2 (h 8 (by omega)); have a9 := mt F.m9.2 (h 9 (by omega)); have a10 := mt F.m10.2 (h 10 (by omega)); have a11 := mt F.m11.2 (h 11 (by omega))
  have a12 := mt F.m12.2 (h 12 (by omega)); have a13 := mt F.m13.2 (h 13 (by omega)); have a14 := mt F.m14.2 (h 14 (by omega)); have a15 := mt F.m15.2 (h 15 (by omega)); have a16 := mt F.m16.2 (h 16 (by omega))
  unfold markLen
  simp only [Nat.zero_add]
  repeat' split
  all_goals omega

theorem mark_len0 {s : ByteArray} (hf : fits s (markAt 0))  : markLen s 0 = 3 := by
  have F := fit s
  have b := F.m0.1 hf
  clear F hf
  unfold markLen
  simp only [Nat.zero_add]
  repeat' split
  all_goals omega
theorem mark_len1 {s : ByteArray} (hf : fits s (markAt 1))  : markLen s 0 = 2 := by
  have F := fit s
  have b := F.m1.1 hf
  clear F hf
  unfold markLen
  simp only [Nat.zero_add]
  repeat' split
  all_goals omega
theorem mark_len2 {s : ByteArray} (hf : fits s (markAt 2))  : markLen s 0 = 2 := by
  have F := fit s
  have b := F.m2.1 hf
  clear F hf
  unfold markLen
  simp only [Nat.zero_add]
  repeat' split
  all_goals omega
theorem mark_len3 {s : ByteArray} (hf : fits s (markAt 3))  : markLen s 0 = 2 := by
  have F := fit s
  have b := F.m3.1 hf
  clear F hf
  unfold markLen
  simp only [Nat.zero_add]
  repeat' split
  all_goals omega
theorem mark_len4 {s : ByteArray} (hf : fits s (markAt 4))  : markLen s 0 = 2 := by
  have F := fit s
  have b := F.m4.1 hf
  clear F hf
  unfold markLen
  simp only [Nat.zero_add]
  repeat' split
  all_goals omega
theorem mark_len5 {s : ByteArray} (hf : fits s (markAt 5))  : markLen s 0 = 2 := by
  have F := fit s
  have b := F.m5.1 hf
  clear F hf
  unfold markLen
  simp only [Nat.zero_add]
  repeat' split
  all_goals omega
theorem mark_len6 {s : ByteArray} (hf : fits s (markAt 6))  : markLen s 0 = 1 := by
  have F := fit s
  have b := F.m6.1 hf
  clear F hf
  unfold markLen
  simp only [Nat.zero_add]
  repeat' split
  all_goals omega
theorem mark_len7 {s : ByteArray} (hf : fits s (markAt 7))  : markLen s 0 = 1 := by
  have F := fit s
  have b := F.m7.1 hf
  clear F hf
  unfold markLen
  simp only [Nat.zero_add]
  repeat' split
  all_goals omega
theorem mark_len8 {s : ByteArray} (hf : fits s (markAt 8))  : markLen s 0 = 1 := by
  have F := fit s
  have b := F.m8.1 hf
  clear F hf
  unfold markLen
  simp only [Nat.zero_add]
  repeat' split
  all_goals omega
theorem mark_len9 {s : ByteArray} (hf : fits s (markAt 9))  : markLen s 0 = 1 := by
  have F := fit s
  have b := F.m9.1 hf
  clear F hf
  unfold markLen
  simp only [Nat.zero_add]
  repeat' split
  all_goals omega
theorem mark_len10 {s : ByteArray} (hf : fits s (markAt 10)) (a2 : ¬ fits s (markAt 2)) : markLen s 0 = 1 := by
  have F := fit s
  have b := F.m10.1 hf
  have c2 := mt F.m2.2 a2
  clear F hf a2
  unfold markLen
  simp only [Nat.zero_add]
  repeat' split
  all_goals omega
theorem mark_len11 {s : ByteArray} (hf : fits s (markAt 11))  : markLen s 0 = 1 := by
  have F := fit s
  have b := F.m11.1 hf
  clear F hf
  unfold markLen
  simp only [Nat.zero_add]
  repeat' split
  all_goals omega
theorem mark_len12 {s : ByteArray} (hf : fits s (markAt 12)) (a3 : ¬ fits s (markAt 3)) (a5 : ¬ fits s (markAt 5)) : markLen s 0 = 1 := by
  have F := fit s
  have b := F.m12.1 hf
  have c3 := mt F.m3.2 a3
  have c5 := mt F.m5.2 a5
  clear F hf a3 a5
  unfold markLen
  simp only [Nat.zero_add]
  repeat' split
  all_goals omega
theorem mark_len13 {s : ByteArray} (hf : fits s (markAt 13)) (a4 : ¬ fits s (markAt 4)) : markLen s 0 = 1 := by
  have F := fit s
  have b := F.m13.1 hf
  have c4 := mt F.m4.2 a4
  clear F hf a4
  unfold markLen
  simp only [Nat.zero_add]
  repeat' split
  all_goals omega
theorem mark_len14 {s : ByteArray} (hf : fits s (markAt 14))  : markLen s 0 = 1 := by
  have F := fit s
  have b := F.m14.1 hf
  clear F hf
  unfold markLen
  simp only [Nat.zero_add]
  repeat' split
  all_goals omega
theorem mark_len15 {s : ByteArray} (hf : fits s (markAt 15))  : markLen s 0 = 1 := by
  have F := fit s
  have b := F.m15.1 hf
  clear F hf
  unfold markLen
  simp only [Nat.zero_add]
  repeat' split
  all_goals omega
theorem mark_len16 {s : ByteArray} (hf : fits s (markAt 16))  : markLen s 0 = 1 := by
  have F := fit s
  have b := F.m16.1 hf
  clear F hf
  unfold markLen
  simp only [Nat.zero_add]
  repeat' split
  all_goals omega
theorem mark_len {s : ByteArray} {k : Nat} (hk : k < 17) (hf : fits s (markAt k)) (h : ∀ j, j < k → ¬ fits s (markAt j)) : markLen s 0 = (markAt k).size ∧ 0 < (markAt k).size := by
  rcases (show k = 0 ∨ k = 1 ∨ k = 2 ∨ k = 3 ∨ k = 4 ∨ k = 5 ∨ k = 6 ∨ k = 7 ∨ k = 8 ∨ k = 9 ∨ k = 10 ∨ k = 11 ∨ k = 12 ∨ k = 13 ∨ k = 14 ∨ k = 15 ∨ k = 16 by omega) with rfl | rfl | rfl | rfl | rfl | rfl | rfl | rfl | rfl | rfl | rfl | rfl | rfl | rfl | rfl | rfl | rfl
  · rw [show (markAt 0).size = 3 from rfl]; exact ⟨mark_len0 hf, by omega⟩
  · rw [show (markAt 1).size = 2 from rfl]; exact ⟨mark_len1 hf, by omega⟩
  · rw [show (markAt 2).size = 2 from rfl]; exact ⟨mark_len2 hf, by omega⟩
  · rw [show (markAt 3).size = 2 from rfl]; exact ⟨mark_len3 hf, by omega⟩
  · rw [show (markAt 4).size = 2 from rfl]; exact ⟨mark_len4 hf, by omega⟩
  · rw [show (markAt 5).size = 2 from rfl]; exact ⟨mark_len5 hf, by omega⟩
  · rw [show (markAt 6).size = 1 from rfl]; exact ⟨mark_len6 hf, by omega⟩
  · rw [show (markAt 7).size = 1 from rfl]; exact ⟨mark_len7 hf, by omega⟩
  · rw [show (markAt 8).size = 1 from rfl]; exact ⟨mark_len8 hf, by omega⟩
  · rw [show (markAt 9).size = 1 from rfl]; exact ⟨mark_len9 hf, by omega⟩
  · rw [show (markAt 10).size = 1 from rfl]; exact ⟨mark_len10 hf (h 2 (by omega)), by omega⟩
  · rw [show (markAt 11).size = 1 from rfl]; exact ⟨mark_len11 hf, by omega⟩
  · rw [show (markAt 12).size = 1 from rfl]; exact ⟨mark_len12 hf (h 3 (by omega)) (h 5 (by omega)), by omega⟩
  · rw [show (markAt 13).size = 1 from rfl]; exact ⟨mark_len13 hf (h 4 (by omega)), by omega⟩
  · rw [show (markAt 14).size = 1 from rfl]; exact ⟨mark_len14 hf, by omega⟩
  · rw [show (markAt 15).size = 1 from rfl]; exact ⟨mark_len15 hf, by omega⟩
  · rw [show (markAt 16).size = 1 from rfl]; exact ⟨mark_len16 hf, by omega⟩

/-- The mark that is found is what the text begins with. -/
theorem mark_found {s : ByteArray} {k : Nat} (hk : k < 17) (hf : fits s (markAt k)) (h : ∀ j, j < k → ¬ fits s (markAt j)) : markAt k = s.extract 0 (markLen s 0) ∧ 0 < markLen s 0 := by
  obtain ⟨h1, h2⟩ := mark_len hk hf h
  rw [h1]; exact ⟨hf.2.symm, h2⟩

/-- The longest mark at place k is the one at the front of the rest. -/
theorem markLen_rest (s : ByteArray) (k : Nat) (h : k ≤ s.size) : markLen (s.extract k s.size) 0 = markLen s k := by
  have e : ∀ j, bt (s.extract k s.size) j = bt s (k + j) := by
    intro j
    by_cases hj : k + j < s.size
    · exact bt_extract s k s.size j (Nat.le_refl _) hj
    · rw [bt_out (by rw [size_extract' _ _ _ (Nat.le_refl _)]; omega), bt_out hj]
  unfold markLen
  simp only [e, Nat.zero_add, Nat.add_zero]
theorem mark_text (s : ByteArray) (k : Nat) (h : k < s.size) : (s.extract k s.size).extract 0 (markLen (s.extract k s.size) 0) = s.extract k (k + markLen s k) := by
  have hl := markLen_le h
  rw [markLen_rest s k (by omega)]
  have z1 := size_extract' s k s.size (Nat.le_refl _)
  have z2 := size_extract' s k (k + markLen s k) hl
  have z3 := size_extract' (s.extract k s.size) 0 (markLen s k) (by omega)
  refine ext_bt (by omega) ?_
  intro j hj
  rw [bt_extract _ 0 _ _ (by omega) (by omega), Nat.zero_add, bt_extract _ _ _ _ (Nat.le_refl _) (by omega), bt_extract _ _ _ _ hl (by omega)]

end Go.Proofs.YtobgbmfpicmpcaaDoor
