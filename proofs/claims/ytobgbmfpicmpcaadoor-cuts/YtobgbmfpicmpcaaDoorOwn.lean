/- Tokens in memory: what a list of tokens owns, and the plain facts on one token that both sides use. No walk in this text. -/
import Derived.Test.YtobgbmfpicmpcaaDoorSmall
import Derived.Test.YtobgbmfpicmpcaaDoorMath3
import Derived.WalkSmall
namespace Go.Proofs.YtobgbmfpicmpcaaDoor
open Go.RowKit

def tokCells (ts : List Tok) : List Value := ts.flatMap fun t => [.int .i64 t.kind, .string t.text, .int .i64 t.val]
def toks (s : ByteArray) : Option (List Tok) := if 2000 < s.size then none else run s 0
def TokPost (s : ByteArray) (w : World) (e : Ending) (w' : World) : Prop :=
  Below w.heap.size w w' ∧ ((toks s = none ∧ e = .returned (.tuple #[.slice none 0 0, .int .i64 3])) ∨
    ∃ ts v, toks s = some ts ∧ e = .returned (.tuple #[v, .int .i64 0]) ∧ w'.ownsRow w.heap.size 27 3 v ts.length (tokCells ts))

theorem Tryd.info27 : (Tryd.prog.info? 27).map (fun i => (i.zero, i.size, i.bytes)) = some (some (.agg #[.int .i64 0, .string ⟨#[]⟩, .int .i64 0]), 3, 32) := by kernel_rfl

/-- A number's text. -/
def Numeral (t : ByteArray) : Prop := (0 < t.size ∧ ∀ j, j < t.size → 48 ≤ bt t j ∧ bt t j ≤ 57) ∨ (1 < t.size ∧ bt t 0 = 45 ∧ ∀ j, 1 ≤ j → j < t.size → 48 ≤ bt t j ∧ bt t j ≤ 57)
theorem span_step {s : ByteArray} {k e : Nat} {p : Int → Bool} (h : e < s.size) (hp : p ((s[e]'h).toNat : Int) = true) (hs : span p s e = span p s k) : span p s (e + 1) = span p s k := by
  rw [← hs]; exact (span_go h (by rw [← bt_in h]; exact hp)).symm
theorem span_here {s : ByteArray} {k e : Nat} {p : Int → Bool} (h : ∀ h : e < s.size, p ((s[e]'h).toNat : Int) = false) (hs : span p s e = span p s k) : span p s k = e := by
  rw [← hs]; exact span_stop fun hh => by rw [← bt_in hh]; exact h hh

theorem toks_none {s : ByteArray} (h : s.size ≤ 2000) (hr : run s 0 = none) : toks s = none := by unfold toks; rw [if_neg (by omega)]; exact hr
theorem toks_some {s : ByteArray} {ts : List Tok} (h : s.size ≤ 2000) (hr : run s 0 = some ts) : toks s = some ts := by unfold toks; rw [if_neg (by omega)]; exact hr

/-- A word. -/
theorem one_word {s : ByteArray} {k e : Nat} (h : k < s.size) (hl : letB ((s[k]'h).toNat : Int) = true) (he : span alnB s k = e) (h8 : e - k ≤ 8) : one s k = some (e, ⟨1, s.extract k e, 0⟩) := by
  unfold one; rw [← bt_in h, if_pos hl, he, if_neg (by omega)]
theorem one_word_bad {s : ByteArray} {k e : Nat} (h : k < s.size) (hl : letB ((s[k]'h).toNat : Int) = true) (he : span alnB s k = e) (h8 : 8 < e - k) : one s k = none := by
  unfold one; rw [← bt_in h, if_pos hl, he, if_pos h8]

theorem tokCells_snoc (acc : List Tok) (t : Tok) : tokCells (acc ++ [t]) = tokCells acc ++ [.int .i64 t.kind, .string t.text, .int .i64 t.val] := by
  unfold tokCells; rw [List.flatMap_append]; simp

/-- How a number begins. -/
def NumBegin (s : ByteArray) (k : Nat) : Prop := digB (bt s k) = true ∨ (bt s k = 45 ∧ digB (bt s (k + 1)) = true)
theorem numeral_of {s : ByteArray} {k e : Nat} (h : k < s.size) (hb : NumBegin s k) (he : span digB s (k + 1) = e) : Numeral (s.extract k e) := by
  have hle := span_le (p := digB) (s := s) (k := k + 1) h
  have hz := size_extract' s k e (by omega)
  have hall : ∀ j, 1 ≤ j → j < e - k → 48 ≤ bt (s.extract k e) j ∧ bt (s.extract k e) j ≤ 57 := by
    intro j h1 h2
    rw [bt_extract s k e j (by omega) (by omega)]
    exact of_digB (span_all digB s _ (k + 1) rfl h (k + j) (by omega) (by omega))
  have h0 : bt (s.extract k e) 0 = bt s k := by rw [bt_extract s k e 0 (by omega) (by omega), Nat.add_zero]
  rcases hb with hb | ⟨hb, hb1⟩
  · left
    refine ⟨by omega, ?_⟩
    intro j hj
    by_cases e0 : j = 0
    · subst e0; rw [h0]; exact of_digB hb
    · exact hall j (by omega) (by omega)
  · right
    have h1 : k + 1 < s.size := bt_lt (by have := of_digB hb1; omega)
    have : span digB s (k + 1) = span digB s (k + 1 + 1) := span_go h1 hb1
    have := span_le (p := digB) (s := s) (k := k + 1 + 1) h1
    exact ⟨by omega, by rw [h0]; exact hb, fun j h1 h2 => hall j h1 (by omega)⟩
theorem one_num {s : ByteArray} {k e : Nat} {v : Int} (hl : letB (bt s k) = false) (hb : NumBegin s k) (he : span digB s (k + 1) = e) (hv : numL (s.extract k e).data.toList = some v) : one s k = some (e, ⟨2, s.extract k e, v⟩) := by
  unfold one; rw [if_neg (by rw [hl]; simp), if_pos, he, hv]
  rcases hb with h | ⟨h1, h2⟩
  · rw [h]; rfl
  · rw [h1, h2]; simp
theorem one_num_bad {s : ByteArray} {k e : Nat} (hl : letB (bt s k) = false) (hb : NumBegin s k) (he : span digB s (k + 1) = e) (hv : numL (s.extract k e).data.toList = none) : one s k = none := by
  unfold one; rw [if_neg (by rw [hl]; simp), if_pos, he, hv]
  rcases hb with h | ⟨h1, h2⟩
  · rw [h]; rfl
  · rw [h1, h2]; simp
theorem one_mark {s : ByteArray} {k : Nat} (hl : letB (bt s k) = false) (hb : ¬ NumBegin s k) (hm : 0 < markLen s k) : one s k = some (k + markLen s k, ⟨3, s.extract k (k + markLen s k), 0⟩) := by
  unfold one; rw [if_neg (by rw [hl]; simp), if_neg, if_neg (by omega)]
  intro h; apply hb
  simp only [Bool.or_eq_true, Bool.and_eq_true, decide_eq_true_eq] at h
  exact h
theorem one_mark_bad {s : ByteArray} {k : Nat} (hl : letB (bt s k) = false) (hb : ¬ NumBegin s k) (hm : markLen s k = 0) : one s k = none := by
  unfold one; rw [if_neg (by rw [hl]; simp), if_neg, if_pos hm]
  intro h; apply hb
  simp only [Bool.or_eq_true, Bool.and_eq_true, decide_eq_true_eq] at h
  exact h

theorem own_below {w w' : World} {B : Nat} {v : Value} {n : Nat} {xs : List Value} (h : w.ownsRow B 27 3 v n xs) (hb : Below w.heap.size w w') : w'.ownsRow B 27 3 v n xs :=
  h.kept (row := none) ⟨hb.os, hb.tape, hb.output, hb.size, fun k hk _ => hb.block k hk⟩ (by cases hv : v.ownBlock <;> simp)

theorem rel_append {w wr w2 : World} {B : Nat} {v v' : Value} {acc : List Tok} {kd vl : Int} {tx : ByteArray} {o : Obj} (hB : Below B w wr) (hBs : B ≤ w.heap.size) (hown : wr.ownsRow B 27 3 v acc.length (tokCells acc))
    (hown' : w2.ownsRow B 27 3 v' (acc.length + 1) (tokCells acc ++ [.int .i64 kd, .string tx, .int .i64 vl])) (hg : (wr.alloc o).grownBy w2 v.ownBlock) :
    Below B w w2 ∧ w2.ownsRow B 27 3 v' (acc ++ [Tok.mk kd tx vl]).length (tokCells (acc ++ [Tok.mk kd tx vl])) := by
  have hs := hB.size
  refine ⟨(hB.alloc (by omega) o).grown hg (by simp; omega) (fun k hk => (hown.lt k hk).1), ?_⟩
  rw [tokCells_snoc, List.length_append]
  exact hown'

theorem three_cells {w : World} {a b c : Value} {T : TypeId} : ∀ (j : Nat) (u : Value), [a, b, c][j]? = some u → (w.alloc (.cells #[a, b, c] T)).cell? ((⟨w.heap.size, 0, none⟩ : Addr).add j) = some u := by
  intro j u hj
  match j, hj with
  | 0, hj => simp at hj; subst hj; simp [Addr.add]
  | 1, hj => simp at hj; subst hj; simp [Addr.add]
  | 2, hj => simp at hj; subst hj; simp [Addr.add]
theorem three_one {kd vl : Int} {tx : ByteArray} : ∀ u ∈ [Value.int .i64 kd, .string tx, .int .i64 vl], u.oneCell' = true := by
  intro u hu
  simp at hu
  rcases hu with rfl | rfl | rfl <;> rfl

end Go.Proofs.YtobgbmfpicmpcaaDoor
