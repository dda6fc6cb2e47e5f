/- The program's 'addWord' and 'addNumber': a word of at most eight bytes, a number as it may be, is laid behind the tokens gathered; else the machine stands as it was. -/
import Derived.Test.YtobgbmfpicmpcaaDoorAdd
import Derived.Lib.Hide
namespace Go.Proofs.YtobgbmfpicmpcaaDoor
open Go.RowKit

set_option maxRecDepth 100000 in
set_option maxHeartbeats 1000000 in
theorem addWordNo {w0 W : World} {b : Nat} {s : ByteArray} {f a : Nat} {acc : List Tok} (hinv : Inv w0 b s (f : Nat) (a : Nat) acc W) (hs : s.size ≤ 2000) (hfa : f ≤ a) (ha : a ≤ s.size) (h8 : 8 < a - f) :
    Calls Tryd.prog 21 #[.pointer (some ⟨b, 0, none⟩)] W fun e W' => e = .returned (.bool false) ∧ Inv w0 b s (f : Nat) (a : Nat) acc W' := by
  have HI : Hid (Inv w0 b s (f : Nat) (a : Nat) acc W) := hinv
  obtain ⟨lv, hx, ho⟩ := hinv.cut
  obtain ⟨c0, c1, c2, c3⟩ := hx.cells
  clear hinv hx ho c0 c3
  go_enter Tryd.func21, Tryd.ntmps21
  go_wp2
  go_quiet (fail)
  go_wp2
  go_ret
  exact ⟨rfl, HI.out.drew nq⟩

set_option maxRecDepth 100000 in
set_option maxHeartbeats 1000000 in
theorem addWordYes {w0 W : World} {b : Nat} {s : ByteArray} {f a : Nat} {acc : List Tok} (hinv : Inv w0 b s (f : Nat) (a : Nat) acc W) (hs : s.size ≤ 2000) (hfa : f ≤ a) (ha : a ≤ s.size) (hal : acc.length ≤ 2000) (h8 : a - f ≤ 8) :
    Calls Tryd.prog 21 #[.pointer (some ⟨b, 0, none⟩)] W fun e W' => e = .returned (.bool true) ∧ Inv w0 b s (f : Nat) (a : Nat) (acc ++ [⟨1, s.extract f a, 0⟩]) W' := by
  have HI : Hid (Inv w0 b s (f : Nat) (a : Nat) acc W) := hinv
  obtain ⟨lv, hx, ho⟩ := hinv.cut
  obtain ⟨c0, c1, c2, c3⟩ := hx.cells
  clear hinv hx ho c0 c3
  go_enter Tryd.func21, Tryd.ntmps21
  go_wp2
  go_quiet (fail)
  go_wp2_with (go_at_call 23; refine (add 1 0 (HI.out.drew nq) hs hfa ha hal).mono ?_; rintro e W' ⟨rfl, h1⟩)
  go_ret
  exact ⟨rfl, h1⟩

set_option maxRecDepth 100000 in
set_option maxHeartbeats 1000000 in
theorem addNumA {w0 W : World} {b : Nat} {s : ByteArray} {f a : Nat} {acc : List Tok} {t : ByteArray} {u : ByteArray} (hinv : Inv w0 b s (f : Nat) (a : Nat) acc W) (hfa : f ≤ a) (ha : a ≤ s.size) (ht : s.extract f a = t)
    (hT : ∀ W, Calls Tryd.prog 24 #[.string t, .string ⟨#[45]⟩] W fun e w' => e = .returned (.string u) ∧ w' = W) (hu : 0 < u.size) (hne : (t.toList == [48]) = false) (hu0 : (((u[0]'hu).toNat : Int) == 48) = true) :
    Calls Tryd.prog 22 #[.pointer (some ⟨b, 0, none⟩)] W fun e W' => e = .returned (.bool false) ∧ Inv w0 b s (f : Nat) (a : Nat) acc W' := by
  have HI : Hid (Inv w0 b s (f : Nat) (a : Nat) acc W) := hinv
  obtain ⟨lv, hx, ho⟩ := hinv.cut
  obtain ⟨c0, c1, c2, c3⟩ := hx.cells
  have HT : Hid (∀ W, Calls Tryd.prog 24 #[.string t, .string ⟨#[45]⟩] W fun e w' => e = .returned (.string u) ∧ w' = W) := hT
  clear hT
  clear hinv hx ho c3
  go_enter Tryd.func22, Tryd.ntmps22
  go_wp2
  go_quiet (fail)
  go_wp2_with (first | (go_at_call 24; refine (HT.out _).mono ?_; rintro e W' ⟨rfl, rfl⟩))
  go_ret
  exact ⟨rfl, HI.out.drew nq⟩

set_option maxRecDepth 100000 in
set_option maxHeartbeats 1000000 in
theorem addNumB {w0 W : World} {b : Nat} {s : ByteArray} {f a : Nat} {acc : List Tok} {t : ByteArray} {v : Int} (hinv : Inv w0 b s (f : Nat) (a : Nat) acc W) (hs : s.size ≤ 2000) (hfa : f ≤ a) (ha : a ≤ s.size) (hal : acc.length ≤ 2000) (ht : s.extract f a = t)
    (heq : (t.toList == [48]) = true) (hA : ∀ W, Calls Tryd.prog 25 #[.string t] W fun e w' => e = .returned (.tuple #[.int .i64 v, .nilIface]) ∧ Below W.heap.size W w') (hv1 : -1000000000 ≤ v) (hv2 : v ≤ 1000000000) :
    Calls Tryd.prog 22 #[.pointer (some ⟨b, 0, none⟩)] W fun e W' => e = .returned (.bool true) ∧ Inv w0 b s (f : Nat) (a : Nat) (acc ++ [⟨2, s.extract f a, v⟩]) W' := by
  have HI : Hid (Inv w0 b s (f : Nat) (a : Nat) acc W) := hinv
  obtain ⟨lv, hx, ho⟩ := hinv.cut
  obtain ⟨c0, c1, c2, c3⟩ := hx.cells
  have HA : Hid (∀ W, Calls Tryd.prog 25 #[.string t] W fun e w' => e = .returned (.tuple #[.int .i64 v, .nilIface]) ∧ Below W.heap.size W w') := hA
  clear hA
  clear hinv hx ho c3
  go_enter Tryd.func22, Tryd.ntmps22
  go_wp2
  go_quiet (fail)
  go_wp2_with (first | (go_at_call 25; refine (HA.out _).mono ?_; rintro e W2 ⟨rfl, hb2⟩; have hI2 := Lib.hid ((HI.out.drew nq).old hb2); clear hb2) | (go_at_call 23; refine (add 2 v hI2.out hs hfa ha hal).mono ?_; rintro e W3 ⟨rfl, h3⟩))
  go_ret
  exact ⟨rfl, h3⟩

set_option maxRecDepth 100000 in
set_option maxHeartbeats 1000000 in
theorem addNumC {w0 W : World} {b : Nat} {s : ByteArray} {f a : Nat} {acc : List Tok} {t : ByteArray} {u : ByteArray} (hinv : Inv w0 b s (f : Nat) (a : Nat) acc W) (hfa : f ≤ a) (ha : a ≤ s.size) (ht : s.extract f a = t)
    (hT : ∀ W, Calls Tryd.prog 24 #[.string t, .string ⟨#[45]⟩] W fun e w' => e = .returned (.string u) ∧ w' = W) (hu : 0 < u.size) (hne : (t.toList == [48]) = false) (hu0 : (((u[0]'hu).toNat : Int) == 48) = false) (hA : ∀ W, Below w0.heap.size w0 W → Calls Tryd.prog 25 #[.string t] W fun e w' => ∃ N x, e = .returned (.tuple #[.int .i64 x, .iface 56 (.pointer (some ⟨N, 0, none⟩))]) ∧ Below W.heap.size W w') :
    Calls Tryd.prog 22 #[.pointer (some ⟨b, 0, none⟩)] W fun e W' => e = .returned (.bool false) ∧ Inv w0 b s (f : Nat) (a : Nat) acc W' := by
  have HI : Hid (Inv w0 b s (f : Nat) (a : Nat) acc W) := hinv
  obtain ⟨lv, hx, ho⟩ := hinv.cut
  obtain ⟨c0, c1, c2, c3⟩ := hx.cells
  have HT : Hid (∀ W, Calls Tryd.prog 24 #[.string t, .string ⟨#[45]⟩] W fun e w' => e = .returned (.string u) ∧ w' = W) := hT
  clear hT
  have HA : Hid (∀ W, Below w0.heap.size w0 W → Calls Tryd.prog 25 #[.string t] W fun e w' => ∃ N x, e = .returned (.tuple #[.int .i64 x, .iface 56 (.pointer (some ⟨N, 0, none⟩))]) ∧ Below W.heap.size W w') := hA
  clear hA
  clear hinv hx ho c3
  go_enter Tryd.func22, Tryd.ntmps22
  go_wp2
  go_quiet (fail)
  go_wp2_with (first | (go_at_call 24; refine (HT.out _).mono ?_; rintro e W' ⟨rfl, rfl⟩) | (go_at_call 25; refine (HA.out _ (HI.out.drew nq).below).mono ?_; rintro e W2 ⟨N, x, rfl, hb2⟩; have hI2 := Lib.hid ((HI.out.drew nq).old hb2); clear hb2))
  go_ret
  exact ⟨rfl, hI2.out⟩

set_option maxRecDepth 100000 in
set_option maxHeartbeats 1000000 in
theorem addNumD1 {w0 W : World} {b : Nat} {s : ByteArray} {f a : Nat} {acc : List Tok} {t : ByteArray} {u : ByteArray} {v : Int} (hinv : Inv w0 b s (f : Nat) (a : Nat) acc W) (hfa : f ≤ a) (ha : a ≤ s.size) (ht : s.extract f a = t)
    (hT : ∀ W, Calls Tryd.prog 24 #[.string t, .string ⟨#[45]⟩] W fun e w' => e = .returned (.string u) ∧ w' = W) (hu : 0 < u.size) (hne : (t.toList == [48]) = false) (hu0 : (((u[0]'hu).toNat : Int) == 48) = false) (hA : ∀ W, Calls Tryd.prog 25 #[.string t] W fun e w' => e = .returned (.tuple #[.int .i64 v, .nilIface]) ∧ Below W.heap.size W w') (hv : v < -1000000000) :
    Calls Tryd.prog 22 #[.pointer (some ⟨b, 0, none⟩)] W fun e W' => e = .returned (.bool false) ∧ Inv w0 b s (f : Nat) (a : Nat) acc W' := by
  have HI : Hid (Inv w0 b s (f : Nat) (a : Nat) acc W) := hinv
  obtain ⟨lv, hx, ho⟩ := hinv.cut
  obtain ⟨c0, c1, c2, c3⟩ := hx.cells
  have HT : Hid (∀ W, Calls Tryd.prog 24 #[.string t, .string ⟨#[45]⟩] W fun e w' => e = .returned (.string u) ∧ w' = W) := hT
  clear hT
  have HA : Hid (∀ W, Calls Tryd.prog 25 #[.string t] W fun e w' => e = .returned (.tuple #[.int .i64 v, .nilIface]) ∧ Below W.heap.size W w') := hA
  clear hA
  clear hinv hx ho c3
  go_enter Tryd.func22, Tryd.ntmps22
  go_wp2
  go_quiet (fail)
  go_wp2_with (first | (go_at_call 24; refine (HT.out _).mono ?_; rintro e W' ⟨rfl, rfl⟩) | (go_at_call 25; refine (HA.out _).mono ?_; rintro e W2 ⟨rfl, hb2⟩; have hI2 := Lib.hid ((HI.out.drew nq).old hb2); clear hb2))
  go_ret
  exact ⟨rfl, hI2.out⟩

set_option maxRecDepth 100000 in
set_option maxHeartbeats 1000000 in
theorem addNumD2 {w0 W : World} {b : Nat} {s : ByteArray} {f a : Nat} {acc : List Tok} {t : ByteArray} {u : ByteArray} {v : Int} (hinv : Inv w0 b s (f : Nat) (a : Nat) acc W) (hfa : f ≤ a) (ha : a ≤ s.size) (ht : s.extract f a = t)
    (hT : ∀ W, Calls Tryd.prog 24 #[.string t, .string ⟨#[45]⟩] W fun e w' => e = .returned (.string u) ∧ w' = W) (hu : 0 < u.size) (hne : (t.toList == [48]) = false) (hu0 : (((u[0]'hu).toNat : Int) == 48) = false) (hA : ∀ W, Calls Tryd.prog 25 #[.string t] W fun e w' => e = .returned (.tuple #[.int .i64 v, .nilIface]) ∧ Below W.heap.size W w') (hv : 1000000000 < v) :
    Calls Tryd.prog 22 #[.pointer (some ⟨b, 0, none⟩)] W fun e W' => e = .returned (.bool false) ∧ Inv w0 b s (f : Nat) (a : Nat) acc W' := by
  have HI : Hid (Inv w0 b s (f : Nat) (a : Nat) acc W) := hinv
  obtain ⟨lv, hx, ho⟩ := hinv.cut
  obtain ⟨c0, c1, c2, c3⟩ := hx.cells
  have HT : Hid (∀ W, Calls Tryd.prog 24 #[.string t, .string ⟨#[45]⟩] W fun e w' => e = .returned (.string u) ∧ w' = W) := hT
  clear hT
  have HA : Hid (∀ W, Calls Tryd.prog 25 #[.string t] W fun e w' => e = .returned (.tuple #[.int .i64 v, .nilIface]) ∧ Below W.heap.size W w') := hA
  clear hA
  clear hinv hx ho c3
  go_enter Tryd.func22, Tryd.ntmps22
  go_wp2
  go_quiet (fail)
  go_wp2_with (first | (go_at_call 24; refine (HT.out _).mono ?_; rintro e W' ⟨rfl, rfl⟩) | (go_at_call 25; refine (HA.out _).mono ?_; rintro e W2 ⟨rfl, hb2⟩; have hI2 := Lib.hid ((HI.out.drew nq).old hb2); clear hb2))
  go_ret
  exact ⟨rfl, hI2.out⟩

set_option maxRecDepth 100000 in
set_option maxHeartbeats 1000000 in
theorem addNumE {w0 W : World} {b : Nat} {s : ByteArray} {f a : Nat} {acc : List Tok} {t : ByteArray} {u : ByteArray} {v : Int} (hinv : Inv w0 b s (f : Nat) (a : Nat) acc W) (hs : s.size ≤ 2000) (hfa : f ≤ a) (ha : a ≤ s.size) (hal : acc.length ≤ 2000) (ht : s.extract f a = t)
    (hT : ∀ W, Calls Tryd.prog 24 #[.string t, .string ⟨#[45]⟩] W fun e w' => e = .returned (.string u) ∧ w' = W) (hu : 0 < u.size) (hne : (t.toList == [48]) = false) (hu0 : (((u[0]'hu).toNat : Int) == 48) = false) (hA : ∀ W, Calls Tryd.prog 25 #[.string t] W fun e w' => e = .returned (.tuple #[.int .i64 v, .nilIface]) ∧ Below W.heap.size W w') (hv1 : -1000000000 ≤ v) (hv2 : v ≤ 1000000000) :
    Calls Tryd.prog 22 #[.pointer (some ⟨b, 0, none⟩)] W fun e W' => e = .returned (.bool true) ∧ Inv w0 b s (f : Nat) (a : Nat) (acc ++ [⟨2, s.extract f a, v⟩]) W' := by
  have HI : Hid (Inv w0 b s (f : Nat) (a : Nat) acc W) := hinv
  obtain ⟨lv, hx, ho⟩ := hinv.cut
  obtain ⟨c0, c1, c2, c3⟩ := hx.cells
  have HT : Hid (∀ W, Calls Tryd.prog 24 #[.string t, .string ⟨#[45]⟩] W fun e w' => e = .returned (.string u) ∧ w' = W) := hT
  clear hT
  have HA : Hid (∀ W, Calls Tryd.prog 25 #[.string t] W fun e w' => e = .returned (.tuple #[.int .i64 v, .nilIface]) ∧ Below W.heap.size W w') := hA
  clear hA
  clear hinv hx ho c3
  go_enter Tryd.func22, Tryd.ntmps22
  go_wp2
  go_quiet (fail)
  go_wp2_with (first | (go_at_call 24; refine (HT.out _).mono ?_; rintro e W' ⟨rfl, rfl⟩) | (go_at_call 25; refine (HA.out _).mono ?_; rintro e W2 ⟨rfl, hb2⟩; have hI2 := Lib.hid ((HI.out.drew nq).old hb2); clear hb2) | (go_at_call 23; refine (add 2 v hI2.out hs hfa ha hal).mono ?_; rintro e W3 ⟨rfl, h3⟩))
  go_ret
  exact ⟨rfl, h3⟩

/-- The library's calls at a number's text. -/
theorem trimPlain (t : ByteArray) (h0 : 0 < t.size) (h : bt t 0 ≠ 45) (w : World) : Calls Tryd.prog 24 #[.string t, .string ⟨#[45]⟩] w fun e w' => e = .returned (.string t) ∧ w' = w := by
  have := Tryd.strings_TrimPrefix t ⟨#[45]⟩ w
  have e : (⟨(Lib.trimPrefix t.data.toList (⟨#[45]⟩ : ByteArray).data.toList).toArray⟩ : ByteArray) = t := by
    obtain ⟨c, r, hc, hb, -, -⟩ := cons_of h0
    have hn : Lib.trimPrefix t.data.toList [45] = t.data.toList := by
      unfold Lib.trimPrefix
      rw [if_neg]
      rw [hc]
      unfold Lib.hasPrefix
      intro hp
      simp [List.isPrefixOf] at hp
      subst hp
      apply h; rw [← hb]; rfl
    show (⟨(Lib.trimPrefix t.data.toList [45]).toArray⟩ : ByteArray) = t
    rw [hn]
  rw [e] at this; exact this
def tailOf (t : ByteArray) : ByteArray := ⟨(t.data.toList.drop 1).toArray⟩
theorem tail_size (t : ByteArray) : (tailOf t).size = t.size - 1 := by
  have : (tailOf t).data.toList.length = (tailOf t).size := len_toList _
  rw [← this]
  show ((t.data.toList.drop 1).toArray).toList.length = _
  rw [List.toList_toArray, List.length_drop, len_toList]
theorem tail_bt (t : ByteArray) (h : 1 < t.size) : bt (tailOf t) 0 = bt t 1 := by
  have h1 : 0 < (tailOf t).data.toList.length := by rw [len_toList, tail_size]; omega
  rw [bt_get h1, bt_get (s := t) (k := 1) (by rw [len_toList]; exact h)]
  have : (tailOf t).data.toList = t.data.toList.drop 1 := by
    show ((t.data.toList.drop 1).toArray).toList = _
    rw [List.toList_toArray]
  simp only [this, List.getElem_drop]
theorem trimSign (t : ByteArray) (h0 : 0 < t.size) (h : bt t 0 = 45) (w : World) : Calls Tryd.prog 24 #[.string t, .string ⟨#[45]⟩] w fun e w' => e = .returned (.string (tailOf t)) ∧ w' = w := by
  have := Tryd.strings_TrimPrefix t ⟨#[45]⟩ w
  have e : (⟨(Lib.trimPrefix t.data.toList (⟨#[45]⟩ : ByteArray).data.toList).toArray⟩ : ByteArray) = tailOf t := by
    obtain ⟨c, r, hc, hb, -, -⟩ := cons_of h0
    have hc45 : c = 45 := UInt8.toNat_inj.1 (by show c.toNat = 45; omega)
    have hn : Lib.trimPrefix t.data.toList [45] = t.data.toList.drop 1 := by
      unfold Lib.trimPrefix
      rw [if_pos]
      · rfl
      · rw [hc, hc45]
        unfold Lib.hasPrefix
        simp [List.isPrefixOf]
    show (⟨(Lib.trimPrefix t.data.toList [45]).toArray⟩ : ByteArray) = _
    rw [hn]; rfl
  rw [e] at this; exact this
theorem atoiOk (t : ByteArray) (v : Int) (hz : t.size ≤ 2000) (h : Lib.atoiAll t.data.toList = .ok v) (W : World) : Calls Tryd.prog 25 #[.string t] W fun e w' => e = .returned (.tuple #[.int .i64 v, .nilIface]) ∧ Below W.heap.size W w' := by
  refine (Tryd.strconv_Atoi_ok t (by omega) v h W).mono ?_
  rintro e w' ⟨he, hw | ⟨x, hw⟩⟩
  · subst hw; exact ⟨he, Below.refl _ _⟩
  · subst hw; exact ⟨he, Lib.bytesWorld_below _ _ _⟩
theorem atoiRange {w0 : World} {ev : Value} (hv : w0.cell? ⟨1, 0, none⟩ = some ev) (hev : ev = .nilIface ∨ ∃ te pe, ev = .iface te pe) (t : ByteArray) (hz : t.size ≤ 2000) (h : Lib.atoiAll t.data.toList = .range) (W : World) (hB : Below w0.heap.size w0 W) :
    Calls Tryd.prog 25 #[.string t] W fun e w' => ∃ N x, e = .returned (.tuple #[.int .i64 x, .iface 56 (.pointer (some ⟨N, 0, none⟩))]) ∧ Below W.heap.size W w' := by
  have hlt := Lib.lt_of_cell hv
  refine (Tryd.strconv_Atoi_range t (by omega) h ev W ((hB.cell hlt).trans hv) hev).mono ?_
  rintro e w' ⟨N, he, -, -, hb⟩
  exact ⟨N, _, he, hb⟩

theorem zero_iff (t : ByteArray) : (t.toList == [48]) = true ↔ t.size = 1 ∧ bt t 0 = 48 := by
  rw [ByteArray.toList_eq]
  constructor
  · intro h
    have h : t.data.toList = [48] := by simpa using h
    have hl := len_toList t
    have hb := bt_get (s := t) (k := 0) (by rw [h]; simp)
    simp only [h] at hb
    rw [h] at hl
    exact ⟨by simpa using hl.symm, by rw [hb]; rfl⟩
  · rintro ⟨h1, h2⟩
    obtain ⟨c, r, hc, hb, -, hr⟩ := cons_of (s := t) (by omega)
    have hr0 : r = [] := List.eq_nil_of_length_eq_zero (by omega)
    have hc48 : c = 48 := UInt8.toNat_inj.1 (by show c.toNat = 48; omega)
    rw [hc, hr0, hc48]; rfl
theorem ne_zero {t : ByteArray} (h : ¬ (t.size = 1 ∧ bt t 0 = 48)) : (t.toList == [48]) = false := by
  cases hx : (t.toList == [48]) with
  | true => exact absurd ((zero_iff t).1 hx) h
  | false => rfl
theorem first_is {u : ByteArray} (hu : 0 < u.size) (h : bt u 0 = 48) : (((u[0]'hu).toNat : Int) == 48) = true := by rw [bt_in hu, h]; rfl
theorem first_not {u : ByteArray} (hu : 0 < u.size) (h : bt u 0 ≠ 48) : (((u[0]'hu).toNat : Int) == 48) = false := by rw [bt_in hu]; simpa using h

/-- 'addNumber' at a number that may be. -/
theorem addNumberSome {w0 W : World} {b : Nat} {s : ByteArray} {f a : Nat} {acc : List Tok} {t : ByteArray} {v : Int} (hinv : Inv w0 b s (f : Nat) (a : Nat) acc W) (hs : s.size ≤ 2000) (hfa : f ≤ a) (ha : a ≤ s.size) (hal : acc.length ≤ 2000) (ht : s.extract f a = t)
    (hn : Numeral t) (hv : numL t.data.toList = some v) :
    Calls Tryd.prog 22 #[.pointer (some ⟨b, 0, none⟩)] W fun e W' => e = .returned (.bool true) ∧ Inv w0 b s (f : Nat) (a : Nat) (acc ++ [⟨2, s.extract f a, v⟩]) W' := by
  have hz : t.size ≤ 2000 := by rw [← ht, size_extract' _ _ _ ha]; omega
  rcases hn with ⟨h0, hd⟩ | ⟨h1, h45, hd⟩
  · have hb := hd 0 h0
    by_cases hbad : (bt t 0 = 48 ∧ 1 < t.size) ∨ 1000000000 < (digs 0 t.data.toList : Nat)
    · rw [numL_plain_bad h0 (by omega) hbad] at hv; cases hv
    · have hok := numL_plain_ok h0 (by omega) (by omega) (by omega)
      rw [hok] at hv
      injection hv with hv
      have hat : Lib.atoiAll t.data.toList = .ok v := by
        rcases atoi_plain h0 hd with h | ⟨_, h⟩
        · rw [h, hv]
        · omega
      by_cases hzr : t.size = 1 ∧ bt t 0 = 48
      · exact addNumB hinv hs hfa ha hal ht ((zero_iff t).2 hzr) (atoiOk t v hz hat) (by omega) (by omega)
      · exact addNumE hinv hs hfa ha hal ht (trimPlain t h0 (by omega)) h0 (ne_zero hzr) (first_not h0 (by omega)) (atoiOk t v hz hat) (by omega) (by omega)
  · by_cases hbad : bt t 1 = 48 ∨ 1000000000 < (digs 0 (t.data.toList.drop 1) : Nat)
    · rw [numL_sign_bad h1 h45 hbad] at hv; cases hv
    · have hok := numL_sign_ok h1 h45 (by omega) (by omega)
      rw [hok] at hv
      injection hv with hv
      have hat : Lib.atoiAll t.data.toList = .ok v := by
        rcases atoi_sign h1 h45 hd with h | ⟨_, h⟩
        · rw [h, hv]
        · omega
      have hu : 0 < (tailOf t).size := by rw [tail_size]; omega
      exact addNumE hinv hs hfa ha hal ht (trimSign t (by omega) h45) hu (ne_zero (by omega)) (first_not hu (by rw [tail_bt t h1]; omega)) (atoiOk t v hz hat) (by omega) (by omega)

/-- 'addNumber' at one that may not. -/
theorem addNumberNone {w0 W : World} {ev : Value} (hg : w0.cell? ⟨1, 0, none⟩ = some ev) (hev : ev = .nilIface ∨ ∃ te pe, ev = .iface te pe) {b : Nat} {s : ByteArray} {f a : Nat} {acc : List Tok} {t : ByteArray} (hinv : Inv w0 b s (f : Nat) (a : Nat) acc W) (hs : s.size ≤ 2000) (hfa : f ≤ a) (ha : a ≤ s.size) (ht : s.extract f a = t)
    (hn : Numeral t) (hv : numL t.data.toList = none) :
    Calls Tryd.prog 22 #[.pointer (some ⟨b, 0, none⟩)] W fun e W' => e = .returned (.bool false) ∧ Inv w0 b s (f : Nat) (a : Nat) acc W' := by
  have hz : t.size ≤ 2000 := by rw [← ht, size_extract' _ _ _ ha]; omega
  rcases hn with ⟨h0, hd⟩ | ⟨h1, h45, hd⟩
  · have hb := hd 0 h0
    by_cases hzr : bt t 0 = 48 ∧ 1 < t.size
    · exact addNumA hinv hfa ha ht (trimPlain t h0 (by omega)) h0 (ne_zero (by omega)) (first_is h0 hzr.1)
    · have hbig : 1000000000 < (digs 0 t.data.toList : Nat) := by
        by_cases h : 1000000000 < (digs 0 t.data.toList : Nat)
        · exact h
        · rw [numL_plain_ok h0 (by omega) hzr (by omega)] at hv; cases hv
      have hn0 : ¬ (t.size = 1 ∧ bt t 0 = 48) := by
        rintro ⟨ha1, hb1⟩
        have h2 := dn_whole t 0 (fun j _ => hd j) (by omega)
        rw [ha1, List.drop_zero] at h2
        have h3 : dn t 0 1 = 10 * 0 + (bt t (0 + 0) - 48) := by simp only [dn]
        rw [Nat.add_zero, hb1] at h3
        have : dn t 0 (1 - 0) = dn t 0 1 := by rfl
        omega
      have h48 : bt t 0 ≠ 48 := by intro h; omega
      rcases atoi_plain h0 hd with h | ⟨h, _⟩
      · exact addNumD2 hinv hfa ha ht (trimPlain t h0 (by omega)) h0 (ne_zero hn0) (first_not h0 h48) (atoiOk t _ hz h) (by omega)
      · exact addNumC hinv hfa ha ht (trimPlain t h0 (by omega)) h0 (ne_zero hn0) (first_not h0 h48) (fun W hB => atoiRange hg hev t hz h W hB)
  · have hu : 0 < (tailOf t).size := by rw [tail_size]; omega
    by_cases h48 : bt t 1 = 48
    · exact addNumA hinv hfa ha ht (trimSign t (by omega) h45) hu (ne_zero (by omega)) (first_is hu (by rw [tail_bt t h1]; exact h48))
    · have hbig : 1000000000 < (digs 0 (t.data.toList.drop 1) : Nat) := by
        by_cases h : 1000000000 < (digs 0 (t.data.toList.drop 1) : Nat)
        · exact h
        · rw [numL_sign_ok h1 h45 h48 (by omega)] at hv; cases hv
      rcases atoi_sign h1 h45 hd with h | ⟨h, _⟩
      · exact addNumD1 hinv hfa ha ht (trimSign t (by omega) h45) hu (ne_zero (by omega)) (first_not hu (by rw [tail_bt t h1]; exact h48)) (atoiOk t _ hz h) (by omega)
      · exact addNumC hinv hfa ha ht (trimSign t (by omega) h45) hu (ne_zero (by omega)) (first_not hu (by rw [tail_bt t h1]; exact h48)) (fun W hB => atoiRange hg hev t hz h W hB)

end Go.Proofs.YtobgbmfpicmpcaaDoor
