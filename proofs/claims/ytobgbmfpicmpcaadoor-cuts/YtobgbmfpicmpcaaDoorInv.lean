/- What the program's cutting machine holds between its steps, and the small facts that carry it. No walk in this text. -/
import Derived.Test.YtobgbmfpicmpcaaDoorOwn
import Derived.Test.YtobgbmfpicmpcaaDoorShelf
namespace Go.Proofs.YtobgbmfpicmpcaaDoor
open Go.RowKit

/-- The block of a machine: the text, from, at, the list. -/
def Box (W : World) (b : Nat) (s : ByteArray) (f a : Int) (lv : Value) : Prop :=
  W.heap[b]? = some (.cells #[.string s, .int .i64 f, .int .i64 a, lv] 34 (0, 0))

/-- The machine in block b, begun in the world w0, has come to place a (the token in hand begins at f) and has gathered acc. -/
structure Inv (w0 : World) (b : Nat) (s : ByteArray) (f a : Int) (acc : List Tok) (W : World) : Prop where
  below : Below w0.heap.size w0 W
  bge : w0.heap.size ≤ b
  cut : ∃ lv, Box W b s f a lv ∧ W.ownsRow w0.heap.size 27 3 lv acc.length (tokCells acc)

theorem Box.lt {W : World} {b : Nat} {s : ByteArray} {f a : Int} {lv : Value} (h : Box W b s f a lv) : b < W.heap.size := lt_of_block h
theorem Box.cells {W : World} {b : Nat} {s : ByteArray} {f a : Int} {lv : Value} (h : Box W b s f a lv) :
    W.cell? ⟨b, 0, none⟩ = some (.string s) ∧ W.cell? ⟨b, 1, none⟩ = some (.int .i64 f) ∧ W.cell? ⟨b, 2, none⟩ = some (.int .i64 a) ∧ W.cell? ⟨b, 3, none⟩ = some lv := by
  unfold Box at h
  refine ⟨?_, ?_, ?_, ?_⟩ <;> simp [World.cell?, h]
theorem Box.free {W : World} {b : Nat} {s : ByteArray} {f a : Int} {lv : Value} (h : Box W b s f a lv) (j : Nat) : W.frozen? ⟨b, j, none⟩ = false := by
  unfold Box at h
  simp [World.frozen?, h]
theorem heap_setCell_at {w : World} {b j : Nat} {cs : Array Value} {t : TypeId} {u : Value} (h : w.heap[b]? = some (.cells cs t (0, 0))) : (w.setCell ⟨b, j, none⟩ u).heap[b]? = some (.cells (cs.setIfInBounds j u) t (0, 0)) := by
  simp [World.setCell, Array.getElem?_modify, h]
theorem Box.setAt {W : World} {b : Nat} {s : ByteArray} {f a : Int} {lv : Value} (h : Box W b s f a lv) (a' : Int) : Box (W.setCell ⟨b, 2, none⟩ (.int .i64 a')) b s f a' lv := heap_setCell_at h
theorem Box.setFrom {W : World} {b : Nat} {s : ByteArray} {f a : Int} {lv : Value} (h : Box W b s f a lv) (f' : Int) : Box (W.setCell ⟨b, 1, none⟩ (.int .i64 f')) b s f' a lv := heap_setCell_at h
theorem Box.setList {W : World} {b : Nat} {s : ByteArray} {f a : Int} {lv : Value} (h : Box W b s f a lv) (lv' : Value) : Box (W.setCell ⟨b, 3, none⟩ lv') b s f a lv' := heap_setCell_at h
theorem Box.drew {W : World} {b : Nat} {s : ByteArray} {f a : Int} {lv : Value} (h : Box W b s f a lv) (n : Nat) : Box (W.drewN n) b s f a lv := h
theorem Box.old {W W' : World} {b : Nat} {s : ByteArray} {f a : Int} {lv : Value} (h : Box W b s f a lv) (hb : Below W.heap.size W W') : Box W' b s f a lv := by
  unfold Box; rw [hb.block b h.lt]; exact h
/-- The machine's block is none of the list's. -/
theorem Box.ne {W : World} {b B : Nat} {s : ByteArray} {f a : Int} {lv v : Value} {n : Nat} {xs : List Value} (h : Box W b s f a lv) (ho : W.ownsRow B 27 3 v n xs) : v.ownBlock ≠ some b := by
  intro he
  rcases ho.2 with ⟨rfl, _⟩ | ⟨g, cap, cur, rfl, hb, hg, _⟩
  · simp [Value.ownBlock] at he
  · simp [Value.ownBlock] at he
    subst he
    unfold Box at h
    rw [hg] at h
    simp at h

theorem own_drewN {w : World} {B : Nat} {v : Value} {n : Nat} {xs : List Value} (h : w.ownsRow B 27 3 v n xs) (k : Nat) : (w.drewN k).ownsRow B 27 3 v n xs := h

theorem Inv.drew {w0 W : World} {b : Nat} {s : ByteArray} {f a : Int} {acc : List Tok} (h : Inv w0 b s f a acc W) (n : Nat) : Inv w0 b s f a acc (W.drewN n) :=
  ⟨below_drewN h.below n, h.bge, h.cut⟩
theorem Inv.old {w0 W W' : World} {b : Nat} {s : ByteArray} {f a : Int} {acc : List Tok} (h : Inv w0 b s f a acc W) (hb : Below W.heap.size W W') : Inv w0 b s f a acc W' := by
  obtain ⟨lv, hx, ho⟩ := h.cut
  exact ⟨h.below.trans (hb.mono h.below.size), h.bge, lv, hx.old hb, own_below ho hb⟩
theorem Inv.setAt {w0 W : World} {b : Nat} {s : ByteArray} {f a : Int} {acc : List Tok} (h : Inv w0 b s f a acc W) (a' : Int) : Inv w0 b s f a' acc (W.setCell ⟨b, 2, none⟩ (.int .i64 a')) := by
  obtain ⟨lv, hx, ho⟩ := h.cut
  exact ⟨h.below.setCell h.bge _, h.bge, lv, hx.setAt a', ownsRow_setCell_other ho (hx.ne ho) _⟩
theorem Inv.setFrom {w0 W : World} {b : Nat} {s : ByteArray} {f a : Int} {acc : List Tok} (h : Inv w0 b s f a acc W) (f' : Int) : Inv w0 b s f' a acc (W.setCell ⟨b, 1, none⟩ (.int .i64 f')) := by
  obtain ⟨lv, hx, ho⟩ := h.cut
  exact ⟨h.below.setCell h.bge _, h.bge, lv, hx.setFrom f', ownsRow_setCell_other ho (hx.ne ho) _⟩
/-- A new block, laid for a closure's variable. -/
theorem Inv.alloc {w0 W : World} {b : Nat} {s : ByteArray} {f a : Int} {acc : List Tok} (h : Inv w0 b s f a acc W) (o : Obj) : Inv w0 b s f a acc (W.alloc o) :=
  h.old ((Below.refl _ _).alloc (Nat.le_refl _) o)

end Go.Proofs.YtobgbmfpicmpcaaDoor
