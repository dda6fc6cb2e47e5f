/- Rows of tokens and of marks in memory: the small facts by which the law's own helpers are walked. No walk in this text. -/
import Derived.Test.YtobgbmfpicmpcaaDoorOwn
import Derived.Test.YtobgbmfpicmpcaaDoorKeeps
namespace Go.Proofs.YtobgbmfpicmpcaaDoor
open Go.RowKit

theorem tokCells_cons (t : Tok) (r : List Tok) : tokCells (t :: r) = .int .i64 t.kind :: .string t.text :: .int .i64 t.val :: tokCells r := by
  unfold tokCells; rw [List.flatMap_cons]; rfl
theorem tokCells_length (ts : List Tok) : (tokCells ts).length = ts.length * 3 := by
  induction ts with
  | nil => rfl
  | cons t r ih => rw [tokCells_cons]; simp only [List.length_cons, ih]; omega
theorem tokCells_at (ts : List Tok) : ∀ (k : Nat) (h : k < ts.length), (tokCells ts)[k * 3]? = some (.int .i64 ts[k].kind) ∧ (tokCells ts)[k * 3 + 1]? = some (.string ts[k].text) ∧ (tokCells ts)[k * 3 + 2]? = some (.int .i64 ts[k].val) := by
  induction ts with
  | nil => intro k h; simp at h
  | cons t r ih =>
    intro k h
    rw [tokCells_cons]
    cases k with
    | zero => exact ⟨rfl, rfl, rfl⟩
    | succ k =>
      have := ih k (by simpa using h)
      rw [show (k + 1) * 3 = k * 3 + 1 + 1 + 1 by omega, show k * 3 + 1 + 1 + 1 + 1 = (k * 3 + 1) + 1 + 1 + 1 by omega, show k * 3 + 1 + 1 + 1 + 2 = (k * 3 + 2) + 1 + 1 + 1 by omega]
      simp only [List.getElem?_cons_succ, List.getElem_cons_succ]
      exact this
theorem tokCells_set (ts : List Tok) (m : Tok) : ∀ (k : Nat), k < ts.length → (((tokCells ts).set (k * 3) (.int .i64 m.kind)).set (k * 3 + 1) (.string m.text)).set (k * 3 + 2) (.int .i64 m.val) = tokCells (ts.set k m) := by
  induction ts with
  | nil => intro k h; simp at h
  | cons t r ih =>
    intro k h
    cases k with
    | zero => rw [List.set_cons_zero, tokCells_cons, tokCells_cons]; rfl
    | succ k =>
      rw [List.set_cons_succ, tokCells_cons, tokCells_cons, ← ih k (by simpa using h)]
      rw [show (k + 1) * 3 = k * 3 + 1 + 1 + 1 by omega, show k * 3 + 1 + 1 + 1 + 1 = (k * 3 + 1) + 1 + 1 + 1 by omega, show k * 3 + 1 + 1 + 1 + 2 = (k * 3 + 2) + 1 + 1 + 1 by omega]
      simp only [List.set_cons_succ]

/-- The cells of one token of a row. -/
theorem own_tok {w : World} {B g n cap : Nat} {ts : List Tok} (h : w.ownsRow B 27 3 (.slice (some ⟨g, 0, none⟩) n cap) n (tokCells ts)) (hl : ts.length = n) (k : Nat) (hk : k < ts.length) :
    w.cell? ⟨g, k * 3, none⟩ = some (.int .i64 ts[k].kind) ∧ w.cell? ⟨g, k * 3 + 1, none⟩ = some (.string ts[k].text) ∧ w.cell? ⟨g, k * 3 + 2, none⟩ = some (.int .i64 ts[k].val) := by
  obtain ⟨h0, h1, h2⟩ := tokCells_at ts k hk
  exact ⟨(h.cellAt _ (by omega)).trans h0, (h.cellAt _ (by omega)).trans h1, (h.cellAt _ (by omega)).trans h2⟩

/-- A mark of the lists' owner. -/
def mk (m : Int) : Tok := ⟨m, ⟨#[]⟩, 0⟩
def marks (m : Int) (n : Nat) : List Tok := List.replicate n (mk m)
theorem marks_length (m : Int) (n : Nat) : (marks m n).length = n := List.length_replicate
/-- The first k tokens written over. -/
def over (m : Int) (ts : List Tok) (k : Nat) : List Tok := List.replicate k (mk m) ++ ts.drop k
theorem over_length {m : Int} {ts : List Tok} {k : Nat} (h : k ≤ ts.length) : (over m ts k).length = ts.length := by
  unfold over; rw [List.length_append, List.length_replicate, List.length_drop]; omega
theorem over_zero (m : Int) (ts : List Tok) : over m ts 0 = ts := rfl
theorem over_all (m : Int) (ts : List Tok) : over m ts ts.length = marks m ts.length := by
  unfold over marks; rw [List.drop_length, List.append_nil]
theorem over_step {m : Int} {ts : List Tok} {k : Nat} (h : k < ts.length) : (over m ts k).set k (mk m) = over m ts (k + 1) := by
  unfold over
  rw [List.set_append_right _ _ (by rw [List.length_replicate]; omega), List.length_replicate, Nat.sub_self, List.drop_eq_getElem_cons h, List.set_cons_zero, List.replicate_succ', List.append_assoc]
  rfl

/-- Three stores write one token. -/
theorem own_store {w : World} {B g n cap k : Nat} {ts : List Tok} {m : Int} (h : w.ownsRow B 27 3 (.slice (some ⟨g, 0, none⟩) n cap) n (tokCells (over m ts k))) (hl : ts.length = n) (hk : k < n) :
    (((w.setCell ⟨g, k * 3, none⟩ (.int .i64 m)).setCell ⟨g, k * 3 + 1, none⟩ (.string ⟨#[]⟩)).setCell ⟨g, k * 3 + 2, none⟩ (.int .i64 0)).ownsRow B 27 3 (.slice (some ⟨g, 0, none⟩) n cap) n (tokCells (over m ts (k + 1))) := by
  have h3 := (((h.stored (k * 3) (.int .i64 m)).1.stored (k * 3 + 1) (.string ⟨#[]⟩)).1.stored (k * 3 + 2) (.int .i64 0)).1
  have e := tokCells_set (over m ts k) (mk m) k (by rw [over_length (by omega)]; omega)
  rw [over_step (by omega)] at e
  rw [← e]
  exact h3
theorem own_block {w : World} {B g n cap : Nat} {xs : List Value} (h : w.ownsRow B 27 3 (.slice (some ⟨g, 0, none⟩) n cap) n xs) : B ≤ g ∧ n ≤ cap ∧ g < w.heap.size := by
  rcases h.2 with ⟨h0, _⟩ | ⟨g', cap', cur, hv, hb, hg, hnc, _⟩
  · cases h0
  · injection hv with h1 h2 h3
    injection h1 with h1
    injection h1 with h1
    subst h1; subst h3
    exact ⟨hb, hnc, lt_of_block hg⟩

theorem marks_succ (m : Int) (n : Nat) : tokCells (marks m n) ++ [.int .i64 m, .string ⟨#[]⟩, .int .i64 0] = tokCells (marks m (n + 1)) := by
  unfold marks; rw [List.replicate_succ', tokCells_snoc]; rfl
theorem marks_front (m : Int) {n k : Nat} (h : k ≤ n) : tokCells (marks m n) = tokCells (marks m k) ++ tokCells (marks m (n - k)) := by
  have : marks m n = marks m k ++ marks m (n - k) := by unfold marks; rw [List.replicate_append_replicate]; congr 1; omega
  rw [this]; unfold tokCells; rw [List.flatMap_append]

/-- A list that reads as its owner left it: of marks alone. -/
def Marked (B : Nat) (m : Int) (N : Nat) (w : World) (u : Value) : Prop := ∃ len, len ≤ N ∧ w.ownsRow B 27 3 u len (tokCells (marks m len))
theorem Marked.kept {B : Nat} {m : Int} {N : Nat} {w w' : World} {u : Value} {row : Option Nat} (h : Marked B m N w u) (hg : w.grownBy w' row) (hne : u.ownBlock = none ∨ u.ownBlock ≠ row) : Marked B m N w' u := by
  obtain ⟨len, h1, h2⟩ := h
  exact ⟨len, h1, h2.kept hg hne⟩
theorem Marked.old {B : Nat} {m : Int} {N : Nat} {w w' : World} {u : Value} (h : Marked B m N w u) (hb : Below w.heap.size w w') : Marked B m N w' u := by
  obtain ⟨len, h1, h2⟩ := h
  exact ⟨len, h1, own_below h2 hb⟩
/-- Behind an append to the longest of them: all others read as they did. -/
theorem Marked.grown {B : Nat} {m : Int} {N : Nat} {w w' : World} {u v : Value} (h : Marked B m N w u) (hv : w.ownsRow B 27 3 v N (tokCells (marks m N))) (hg : w.grownBy w' v.ownBlock) (hv' : w'.ownsRow B 27 3 v N (tokCells (marks m N))) : Marked B m (N + 1) w' u := by
  obtain ⟨len, h1, h2⟩ := h
  by_cases he : u.ownBlock = none ∨ u.ownBlock ≠ v.ownBlock
  · exact ⟨len, by omega, h2.kept hg he⟩
  · have he2 : u.ownBlock = v.ownBlock := by
      by_cases h3 : u.ownBlock = v.ownBlock
      · exact h3
      · exact absurd (Or.inr h3) he
    refine ⟨len, by omega, ?_⟩
    rcases h2.2 with ⟨hu, h0⟩ | ⟨g, cap, cur, hu, hb, hgg, hnc, hcm, hcs, ht⟩
    · rw [hu]; subst h0; exact World.ownsRow_nil _ _ _ _
    · rcases hv.2 with ⟨hvn, _⟩ | ⟨g2, cap2, cur2, hv2, _, hgg2, _, _, hcs2, _⟩
      · rw [hu, hvn] at he2; simp [Value.ownBlock] at he2
      · rw [hu, hv2] at he2
        have hgeq : g = g2 := by simpa [Value.ownBlock] using he2
        subst hgeq
        rw [hgg] at hgg2
        injection hgg2 with hgg2
        injection hgg2 with hcc _ _
        subst hcc
        have hcap : cap = cap2 := by omega
        subst hcap
        rw [hu]
        rw [hv2, marks_front m h1] at hv'
        exact own_front hv' (by rw [tokCells_length, marks_length]) h1

/-- A row of lists is none of the rows of tokens. -/
theorem lists_ne {w : World} {B n k : Nat} {v u : Value} {xs ys : List Value} (h : w.ownsRow B 22 1 v n xs) (h2 : w.ownsRow B 27 3 u k ys) : u.ownBlock = none ∨ u.ownBlock ≠ v.ownBlock := by
  rcases h2.2 with ⟨rfl, _⟩ | ⟨g, cap, cur, rfl, _, hg, _⟩
  · left; rfl
  · right
    rcases h.2 with ⟨rfl, _⟩ | ⟨g2, cap2, cur2, rfl, _, hg2, _⟩
    · simp [Value.ownBlock]
    · intro he
      have : g = g2 := by simpa [Value.ownBlock] using he
      subst this
      rw [hg] at hg2
      simp at hg2
theorem lists_ne' {w : World} {B n k : Nat} {v u : Value} {xs ys : List Value} (h : w.ownsRow B 22 1 v n xs) (h2 : w.ownsRow B 27 3 u k ys) : v.ownBlock = none ∨ v.ownBlock ≠ u.ownBlock := by
  cases hv : v.ownBlock with
  | none => left; rfl
  | some x =>
    right
    intro he
    rcases lists_ne h h2 with h3 | h3
    · rw [h3] at he; cases he
    · exact h3 (by rw [hv]; exact he.symm)

/-- What the owner of a list leaves: four lists, each of marks. -/
def Owned (B : Nat) (m : Int) (w : World) (v : Value) : Prop := ∃ us, w.ownsRow B 22 1 v 4 us ∧ ∀ u ∈ us, Marked B m 2003 w u
theorem Owned.old {B : Nat} {m : Int} {w w' : World} {v : Value} (h : Owned B m w v) (hb : Below w.heap.size w w') : Owned B m w' v := by
  obtain ⟨us, h1, h2⟩ := h
  refine ⟨us, ?_, fun u hu => (h2 u hu).old hb⟩
  exact h1.kept (row := none) ⟨hb.os, hb.tape, hb.output, hb.size, fun k hk _ => hb.block k hk⟩ (by cases hv : v.ownBlock <;> simp)

end Go.Proofs.YtobgbmfpicmpcaaDoor
