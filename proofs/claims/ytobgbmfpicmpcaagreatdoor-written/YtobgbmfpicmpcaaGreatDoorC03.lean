/- The reference's reader beside the query that it fills: what stands where, and what an append or a store leaves. No walk in this text. -/
import Derived.Deep.DeepMust
import Derived.Deep.CutBlock
import Derived.Deep.DeepCutAuto
import Derived.Deep.RegionLaw
import Derived.Shelf.LaysM
import Derived.Shelf.Strings.OnBuilder
import Derived.Shelf.Strconv.Itoa3
import Derived.Test.YtobgbmfpicmpcaaGreatDoorProg
import Derived.Test.YtobgbmfpicmpcaaGreatDoorC02
namespace Go.Proofs.YtobgbmfpicmpcaaGreatDoor
open Go.RowKit

theorem row_loc {W : World} {B k n x : Nat} {T T' : TypeId} {v : Value} {xs : List Value} {cs : Array Value} (ho : W.ownsRow B T k v n xs) (hl : Loc W x cs T') (hT : T ≠ T') : v.ownBlock ≠ some x := by
  intro he
  rcases ho.2 with ⟨rfl, _⟩ | ⟨g, cap, cur, rfl, hb, hg, _⟩
  · simp [Value.ownBlock] at he
  · simp [Value.ownBlock] at he
    subst he
    unfold Loc at hl
    rw [hg] at hl
    simp at hl
    exact hT hl.2
theorem row_row {W : World} {B k n B' k' n' : Nat} {T T' : TypeId} {v v' : Value} {xs xs' : List Value} (ho : W.ownsRow B T k v n xs) (ho' : W.ownsRow B' T' k' v' n' xs') (hT : T ≠ T') : v.ownBlock = none ∨ v.ownBlock ≠ v'.ownBlock := by
  rcases ho.2 with ⟨rfl, _⟩ | ⟨g, cap, cur, rfl, hb, hg, _⟩
  · left; simp [Value.ownBlock]
  · right
    intro he
    rcases ho'.2 with ⟨rfl, _⟩ | ⟨g2, cap2, cur2, rfl, hb2, hg2, _⟩
    · simp [Value.ownBlock] at he
    · simp [Value.ownBlock] at he
      subst he
      rw [hg] at hg2
      simp at hg2
      exact hT hg2.2
/-- What an append to a row of another kind leaves. -/
theorem RI.byRow {W w2 : World} {b : Nat} {lv : Value} {ts : List Tok} {st : RS} {B k n : Nat} {T : TypeId} {v : Value} {xs : List Value} (h : RI b lv ts st W) (ho : W.ownsRow B T k v n xs) (hg : W.grownBy w2 v.ownBlock) (h1 : T ≠ 76) (h2 : 153 ≠ T) : RI b lv ts st w2 := by
  obtain ⟨B', ho'⟩ := h.row
  exact h.kept hg (fun e => row_loc ho h.box h1 e.symm) (row_row ho' ho h2)
theorem Loc.byRow {W w2 : World} {x : Nat} {cs : Array Value} {T' : TypeId} {B k n : Nat} {T : TypeId} {v : Value} {xs : List Value} (h : Loc W x cs T') (ho : W.ownsRow B T k v n xs) (hg : W.grownBy w2 v.ownBlock) (h1 : T ≠ T') : Loc w2 x cs T' :=
  h.grown hg (fun e => row_loc ho h h1 e.symm)
theorem grown_byRow {W0 W w2 : World} {b k n : Nat} {T : TypeId} {v : Value} {xs : List Value} (h : W0.grownBy W (some b)) (ho : W.ownsRow W0.heap.size T k v n xs) (hg : W.grownBy w2 v.ownBlock) : W0.grownBy w2 (some b) := by
  have hs := h.size
  refine ⟨hg.os.trans h.os, hg.tape.trans h.tape, hg.output.trans h.output, Nat.le_trans hs hg.size, ?_⟩
  intro j hj hjb
  refine (hg.block j (by omega) ?_).trans (h.block j hj hjb)
  intro e
  have := (ho.lt j e.symm).1
  omega

def condCells (l : List PCond) : List Value := l.flatMap fun c => [.int .i64 c.op, .string c.a.name, .string c.a.key, .int .i64 c.a.val, .string c.b.name, .string c.b.key, .int .i64 c.b.val]
theorem condCells_snoc (l : List PCond) (c : PCond) : condCells (l ++ [c]) = condCells l ++ [.int .i64 c.op, .string c.a.name, .string c.a.key, .int .i64 c.a.val, .string c.b.name, .string c.b.key, .int .i64 c.b.val] := by
  unfold condCells; rw [List.flatMap_append]; simp
def itemCells (l : List PItem) : List Value := l.flatMap fun c => [.string c.name, .string c.key]
theorem itemCells_snoc (l : List PItem) (c : PItem) : itemCells (l ++ [c]) = itemCells l ++ [.string c.name, .string c.key] := by
  unfold itemCells; rw [List.flatMap_append]; simp
def pairCells (l : List PPair) : List Value := l.flatMap fun c => [.string c.key, .int .i64 c.val]
theorem pairCells_snoc (l : List PPair) (c : PPair) : pairCells (l ++ [c]) = pairCells l ++ [.string c.key, .int .i64 c.val] := by
  unfold pairCells; rw [List.flatMap_append]; simp
theorem spotCells_append (l m : List PSpot) : spotCells (l ++ m) = spotCells l ++ spotCells m := by unfold spotCells; rw [List.flatMap_append]
/-- The four rows of a query. -/
structure QRow where
  vs : Value
  sp : List PSpot
  vc : Value
  cd : List PCond
  vi : Value
  it : List PItem
  vp : Value
  pr : List PPair
/-- The reader, the query's block, and the query's rows. -/
structure QAt (W0 : World) (b : Nat) (lv : Value) (ts : List Tok) (st : RS) (x : Nat) (cs : Array Value) (R : QRow) (W : World) : Prop where
  ri : RI b lv ts st W
  lq : Loc W x cs 29
  grown : W0.grownBy W (some b)
  nx : W0.heap.size ≤ x
  rs : W.ownsRow W0.heap.size 85 5 R.vs R.sp.length (spotCells R.sp)
  rc : W.ownsRow W0.heap.size 87 7 R.vc R.cd.length (condCells R.cd)
  rt : W.ownsRow W0.heap.size 89 2 R.vi R.it.length (itemCells R.it)
  rp : W.ownsRow W0.heap.size 91 2 R.vp R.pr.length (pairCells R.pr)
variable {W0 W W' w2 : World} {b x : Nat} {lv : Value} {ts : List Tok} {st st' : RS} {cs : Array Value} {R : QRow}
theorem QAt.xb (h : QAt W0 b lv ts st x cs R W) : x ≠ b := by
  rintro rfl
  have h1 := h.lq
  have h2 := h.ri.box
  unfold Loc at h1 h2
  rw [h1] at h2
  simp at h2
theorem QAt.call (h : QAt W0 b lv ts st x cs R W) (h1 : RI b lv ts st' W') (g1 : W.grownBy W' (some b)) : QAt W0 b lv ts st' x cs R W' :=
  ⟨h1, h.lq.grown g1 (by simpa using h.xb), grown_trans h.grown g1, h.nx, h.rs.kept g1 (Or.inr (row_loc h.rs h.ri.box (by decide))), h.rc.kept g1 (Or.inr (row_loc h.rc h.ri.box (by decide))), h.rt.kept g1 (Or.inr (row_loc h.rt h.ri.box (by decide))), h.rp.kept g1 (Or.inr (row_loc h.rp h.ri.box (by decide)))⟩
theorem QAt.alloc (h : QAt W0 b lv ts st x cs R W) (o : Obj) : QAt W0 b lv ts st x cs R (W.alloc o) := h.call (h.ri.alloc o) (grown_alloc W o _)
theorem QAt.drew (h : QAt W0 b lv ts st x cs R W) (n : Nat) : QAt W0 b lv ts st x cs R (W.drewN n) := h.call (h.ri.drew n) (grown_drew W n _)
theorem QAt.setBad (h : QAt W0 b lv ts st x cs R W) (y : Bool) : QAt W0 b lv ts ⟨st.rest, y⟩ x cs R (W.setCell ⟨b, 2, none⟩ (.bool y)) := h.call (h.ri.setBad y) (grown_set W b 2 _)
theorem QAt.set (h : QAt W0 b lv ts st x cs R W) (j : Nat) (u : Value) : QAt W0 b lv ts st x (cs.setIfInBounds j u) R (W.setCell ⟨x, j, none⟩ u) := by
  have g := grown_set W x j u
  obtain ⟨B, ho⟩ := h.ri.row
  exact ⟨h.ri.setOther (fun e => h.xb e.symm) (row_loc ho h.lq (by decide)) j u, h.lq.set j u, grown_own h.grown h.nx j u, h.nx, h.rs.kept g (Or.inr (row_loc h.rs h.lq (by decide))), h.rc.kept g (Or.inr (row_loc h.rc h.lq (by decide))), h.rt.kept g (Or.inr (row_loc h.rt h.lq (by decide))), h.rp.kept g (Or.inr (row_loc h.rp h.lq (by decide)))⟩
theorem QAt.spots {v : Value} {l : List PSpot} (h : QAt W0 b lv ts st x cs R W) (hg : W.grownBy w2 R.vs.ownBlock) (ho : w2.ownsRow W0.heap.size 85 5 v (R.sp ++ l).length (spotCells (R.sp ++ l))) : QAt W0 b lv ts st x cs { R with vs := v, sp := R.sp ++ l } w2 :=
  ⟨h.ri.byRow h.rs hg (by decide) (by decide), h.lq.byRow h.rs hg (by decide), grown_byRow h.grown h.rs hg, h.nx, ho, h.rc.kept hg (row_row h.rc h.rs (by decide)), h.rt.kept hg (row_row h.rt h.rs (by decide)), h.rp.kept hg (row_row h.rp h.rs (by decide))⟩
theorem QAt.conds {v : Value} {l : List PCond} (h : QAt W0 b lv ts st x cs R W) (hg : W.grownBy w2 R.vc.ownBlock) (ho : w2.ownsRow W0.heap.size 87 7 v (R.cd ++ l).length (condCells (R.cd ++ l))) : QAt W0 b lv ts st x cs { R with vc := v, cd := R.cd ++ l } w2 :=
  ⟨h.ri.byRow h.rc hg (by decide) (by decide), h.lq.byRow h.rc hg (by decide), grown_byRow h.grown h.rc hg, h.nx, h.rs.kept hg (row_row h.rs h.rc (by decide)), ho, h.rt.kept hg (row_row h.rt h.rc (by decide)), h.rp.kept hg (row_row h.rp h.rc (by decide))⟩
theorem QAt.items {v : Value} {l : List PItem} (h : QAt W0 b lv ts st x cs R W) (hg : W.grownBy w2 R.vi.ownBlock) (ho : w2.ownsRow W0.heap.size 89 2 v (R.it ++ l).length (itemCells (R.it ++ l))) : QAt W0 b lv ts st x cs { R with vi := v, it := R.it ++ l } w2 :=
  ⟨h.ri.byRow h.rt hg (by decide) (by decide), h.lq.byRow h.rt hg (by decide), grown_byRow h.grown h.rt hg, h.nx, h.rs.kept hg (row_row h.rs h.rt (by decide)), h.rc.kept hg (row_row h.rc h.rt (by decide)), ho, h.rp.kept hg (row_row h.rp h.rt (by decide))⟩
theorem QAt.pairs {v : Value} {l : List PPair} (h : QAt W0 b lv ts st x cs R W) (hg : W.grownBy w2 R.vp.ownBlock) (ho : w2.ownsRow W0.heap.size 91 2 v (R.pr ++ l).length (pairCells (R.pr ++ l))) : QAt W0 b lv ts st x cs { R with vp := v, pr := R.pr ++ l } w2 :=
  ⟨h.ri.byRow h.rp hg (by decide) (by decide), h.lq.byRow h.rp hg (by decide), grown_byRow h.grown h.rp hg, h.nx, h.rs.kept hg (row_row h.rs h.rp (by decide)), h.rc.kept hg (row_row h.rc h.rp (by decide)), h.rt.kept hg (row_row h.rt h.rp (by decide)), ho⟩

end Go.Proofs.YtobgbmfpicmpcaaGreatDoor

/- The reference's reader: conditions. -/
namespace Go.Proofs.YtobgbmfpicmpcaaGreatDoor
open Go.RowKit

/-- The reader beside three blocks: the result, the condition, the list of marks. -/
structure CondAt (W0 : World) (b : Nat) (lv : Value) (ts : List Tok) (st : RS) (x y g : Nat) (cy : Array Value) (W : World) : Prop where
  two : Two W0 b lv ts st x #[.int .i64 0, .string ⟨#[]⟩, .string ⟨#[]⟩, .int .i64 0, .string ⟨#[]⟩, .string ⟨#[]⟩, .int .i64 0] 87 y cy 87 W
  lg : Loc W g #[.string ⟨#[61]⟩, .string ⟨#[60, 62]⟩, .string ⟨#[60]⟩, .string ⟨#[60, 61]⟩, .string ⟨#[62]⟩, .string ⟨#[62, 61]⟩] 9
  gb : g ≠ b
  gy : g ≠ y
theorem CondAt.call {W0 W W' : World} {b : Nat} {lv : Value} {ts : List Tok} {st st' : RS} {x y g : Nat} {cy : Array Value} (h : CondAt W0 b lv ts st x y g cy W) (h1 : RI b lv ts st' W') (g1 : W.grownBy W' (some b)) : CondAt W0 b lv ts st' x y g cy W' :=
  ⟨h.two.call h1 g1, h.lg.grown g1 (by simpa using h.gb), h.gb, h.gy⟩
theorem CondAt.setY {W0 W : World} {b : Nat} {lv : Value} {ts : List Tok} {st : RS} {x y g : Nat} {cy : Array Value} (h : CondAt W0 b lv ts st x y g cy W) (j : Nat) (u : Value) : CondAt W0 b lv ts st x y g (cy.setIfInBounds j u) (W.setCell ⟨y, j, none⟩ u) :=
  ⟨h.two.setY j u, h.lg.setOther h.gy j u, h.gb, h.gy⟩
theorem termIs {b : Nat} {lv : Value} {ts : List Tok} {st st1 : RS} {t : PTerm} {W : World} (h : RI b lv ts st W) (hn : termR st = (t, st1)) :
    Calls Tryz.prog 91 #[.pointer (some ⟨b, 0, none⟩)] W fun e W' => e = .returned (.agg #[.string t.name, .string t.key, .int .i64 t.val]) ∧ RI b lv ts st1 W' ∧ W.grownBy W' (some b) := by
  have := term h
  rw [hn] at this; exact this

end Go.Proofs.YtobgbmfpicmpcaaGreatDoor

/- The reference's reader: how many spots a path has. No walk in this text. -/
namespace Go.Proofs.YtobgbmfpicmpcaaGreatDoor
open Go.RowKit

theorem peekR_some {s : ByteArray} {st : RS} (h : peekR s st = true) : 0 < st.rest.length := by
  cases hr : st.rest with
  | nil => unfold peekR at h; rw [hr] at h; simp at h
  | cons t r => simp
theorem hasR_not {s : ByteArray} {st : RS} (h : peekR s st = false) : hasR s st = st := by unfold hasR; rw [h]; rfl
theorem matchLoop_len (n : Nat) : ∀ (out : List PSpot) (st : RS), (matchLoop n out st).2.rest.length ≤ st.rest.length := by
  induction n with
  | zero => intro out st; exact Nat.le_refl _
  | succ n ih =>
    intro out st
    simp only [matchLoop]
    have h1 := pathR_len st
    split
    · exact Nat.le_refl _
    · split
      · have h2 := ih (out ++ (pathR st).1) (hasR mComma (pathR st).2)
        have h3 := hasR_len mComma (pathR st).2
        omega
      · exact h1
theorem Tryz.infoCond : (Tryz.prog.info? 87).map (fun i => (i.zero, i.size, i.bytes)) = some (some (.agg #[.int .i64 0, .string ⟨#[]⟩, .string ⟨#[]⟩, .int .i64 0, .string ⟨#[]⟩, .string ⟨#[]⟩, .int .i64 0]), 7, 88) := by kernel_rfl
theorem seven_one {a b c d : ByteArray} {i j k : Int} : ∀ u ∈ [Value.int .i64 i, .string a, .string b, .int .i64 j, .string c, .string d, .int .i64 k], u.oneCell' = true := by
  intro u hu
  simp at hu
  rcases hu with rfl | rfl | rfl | rfl | rfl | rfl | rfl <;> rfl

end Go.Proofs.YtobgbmfpicmpcaaGreatDoor

/- The reference's reader: a match. -/
namespace Go.Proofs.YtobgbmfpicmpcaaGreatDoor
open Go.RowKit

def qC (q : PQuery) (vs vc vi vp : Value) : Array Value := #[.int .i64 q.kind, vs, vc, vi, .int .i64 q.order, .bool q.down, .int .i64 q.skip, .int .i64 q.limit, .string q.name, .string q.key, .string q.value.name, .string q.value.key, .int .i64 q.value.val, .string q.type, .string q.to, .string q.label, vp]

end Go.Proofs.YtobgbmfpicmpcaaGreatDoor

/- The reader and the query beside one block more: a local that is filled and then appended. No walk in this text. -/
namespace Go.Proofs.YtobgbmfpicmpcaaGreatDoor
open Go.RowKit

structure QY (W0 : World) (b : Nat) (lv : Value) (ts : List Tok) (st : RS) (x : Nat) (cs : Array Value) (R : QRow) (y : Nat) (cy : Array Value) (T : TypeId) (W : World) : Prop where
  q : QAt W0 b lv ts st x cs R W
  ly : Loc W y cy T
  yb : y ≠ b
  yx : y ≠ x
  yl : lv.ownBlock ≠ some y
  ny : W0.heap.size ≤ y
  ys : R.vs.ownBlock ≠ some y
  yc : R.vc.ownBlock ≠ some y
  yi : R.vi.ownBlock ≠ some y
  yp : R.vp.ownBlock ≠ some y
variable {W0 W W' w2 : World} {b x y : Nat} {lv : Value} {ts : List Tok} {st st' : RS} {cs cy : Array Value} {R : QRow} {T : TypeId}
theorem row_new {W : World} {B k n : Nat} {T : TypeId} {v : Value} {xs : List Value} (ho : W.ownsRow B T k v n xs) : v.ownBlock ≠ some W.heap.size := by
  intro e
  have := (ho.lt _ e).2
  omega
theorem QAt.more (h : QAt W0 b lv ts st x cs R W) (cy : Array Value) (T : TypeId) : QY W0 b lv ts st x cs R W.heap.size cy T (W.alloc (.cells cy T)) := by
  obtain ⟨B, ho⟩ := h.ri.row
  have hb := h.ri.box.lt
  have hx := h.lq.lt
  exact ⟨h.alloc _, Loc.new W cy T, by omega, by omega, row_new ho, h.grown.size, row_new h.rs, row_new h.rc, row_new h.rt, row_new h.rp⟩
theorem QY.call (h : QY W0 b lv ts st x cs R y cy T W) (h1 : RI b lv ts st' W') (g1 : W.grownBy W' (some b)) : QY W0 b lv ts st' x cs R y cy T W' :=
  ⟨h.q.call h1 g1, h.ly.grown g1 (by simpa using h.yb), h.yb, h.yx, h.yl, h.ny, h.ys, h.yc, h.yi, h.yp⟩
theorem QY.setY (h : QY W0 b lv ts st x cs R y cy T W) (j : Nat) (u : Value) : QY W0 b lv ts st x cs R y (cy.setIfInBounds j u) T (W.setCell ⟨y, j, none⟩ u) := by
  have g := grown_set W y j u
  exact ⟨⟨h.q.ri.setOther (fun e => h.yb e.symm) h.yl j u, h.q.lq.setOther (fun e => h.yx e.symm) j u, grown_own h.q.grown h.ny j u, h.q.nx, h.q.rs.kept g (Or.inr h.ys), h.q.rc.kept g (Or.inr h.yc), h.q.rt.kept g (Or.inr h.yi), h.q.rp.kept g (Or.inr h.yp)⟩, h.ly.set j u, h.yb, h.yx, h.yl, h.ny, h.ys, h.yc, h.yi, h.yp⟩
theorem QY.setBad (h : QY W0 b lv ts st x cs R y cy T W) (z : Bool) : QY W0 b lv ts ⟨st.rest, z⟩ x cs R y cy T (W.setCell ⟨b, 2, none⟩ (.bool z)) := h.call (h.q.ri.setBad z) (grown_set W b 2 _)

theorem two_one {a b : ByteArray} : ∀ u ∈ [Value.string a, .string b], u.oneCell' = true := by
  intro u hu
  simp at hu
  rcases hu with rfl | rfl <;> rfl
theorem pair_one {a : ByteArray} {i : Int} : ∀ u ∈ [Value.string a, .int .i64 i], u.oneCell' = true := by
  intro u hu
  simp at hu
  rcases hu with rfl | rfl <;> rfl
theorem Tryz.infoItem : (Tryz.prog.info? 89).map (fun i => (i.zero, i.size, i.bytes)) = some (some (.agg #[.string ⟨#[]⟩, .string ⟨#[]⟩]), 2, 32) := by kernel_rfl
theorem Tryz.infoPair : (Tryz.prog.info? 91).map (fun i => (i.zero, i.size, i.bytes)) = some (some (.agg #[.string ⟨#[]⟩, .int .i64 0]), 2, 24) := by kernel_rfl

end Go.Proofs.YtobgbmfpicmpcaaGreatDoor

/- A row of records in memory, as a walk that reads it sees it: for any kind of record. No walk in this text. -/
namespace Go.Proofs.YtobgbmfpicmpcaaGreatDoor
open Go.RowKit

theorem flat_at {α : Type} (f : α → List Value) {k : Nat} (hk : ∀ a, (f a).length = k) : ∀ (l : List α) (i : Nat) (hi : i < l.length) (j : Nat), j < k → (l.flatMap f)[i * k + j]? = (f l[i])[j]?
  | [], i, hi, _, _ => by simp at hi
  | a :: l, 0, _, j, hj => by
    rw [List.flatMap_cons, List.getElem?_append_left (by rw [hk]; omega)]
    simp
  | a :: l, i + 1, hi, j, hj => by
    have ih := flat_at f hk l i (by simpa using hi) j hj
    rw [List.flatMap_cons, List.getElem?_append_right (by rw [hk, Nat.succ_mul]; omega), hk]
    rw [show (i + 1) * k + j - k = i * k + j by rw [Nat.succ_mul]; omega]
    simpa using ih
/-- Where a row's records lie. -/
def Lies {α : Type} (f : α → List Value) (k : Nat) (l : List α) (ao : Option Addr) (w : World) : Prop :=
  ∀ i, (hi : i < l.length) → ∃ g, ao = some ⟨g, 0, none⟩ ∧ ∀ j, j < k → w.cell? ⟨g, i * k + j, none⟩ = (f l[i])[j]?
theorem row_view {α : Type} {w : World} {B k : Nat} {T : TypeId} {v : Value} {l : List α} (f : α → List Value) (hk : ∀ a, (f a).length = k) (h : w.ownsRow B T k v l.length (l.flatMap f)) :
    ∃ ao cap, v = .slice ao l.length cap ∧ l.length ≤ cap ∧ Lies f k l ao w := by
  rcases h.2 with ⟨hv, h0⟩ | ⟨g, cap, cur, hv, hb, hg, hnc, _⟩
  · exact ⟨none, 0, by rw [hv, h0], by omega, fun i hi => by omega⟩
  · refine ⟨some ⟨g, 0, none⟩, cap, hv, hnc, fun i hi => ⟨g, rfl, fun j hj => ?_⟩⟩
    rw [hv] at h
    refine (h.cellAt _ ?_).trans (flat_at f hk l i hi j hj)
    have : (i + 1) * k ≤ l.length * k := Nat.mul_le_mul_right k (by omega)
    rw [Nat.succ_mul] at this
    omega
theorem row_at {α : Type} {w : World} {B k n cap : Nat} {T : TypeId} {ao : Option Addr} {l : List α} (f : α → List Value) (hk : ∀ a, (f a).length = k) (h : w.ownsRow B T k (.slice ao n cap) l.length (l.flatMap f)) {i : Nat} (hi : i < l.length) :
    ∃ g, ao = some ⟨g, 0, none⟩ ∧ ∀ j, j < k → w.cell? ⟨g, i * k + j, none⟩ = (f l[i])[j]? := by
  obtain ⟨ao', cap', e, _, hl⟩ := row_view f hk h
  injection e with e1 e2 e3
  subst e1
  exact hl i hi
theorem row_slice {α : Type} {w : World} {B k : Nat} {T : TypeId} {v : Value} {l : List α} {xs : List Value} (h : w.ownsRow B T k v l.length xs) : ∃ ao cap, v = .slice ao l.length cap ∧ l.length ≤ cap := by
  rcases h.2 with ⟨hv, h0⟩ | ⟨g, cap, cur, hv, hb, hg, hnc, _⟩
  · exact ⟨none, 0, by rw [hv, h0], by omega⟩
  · exact ⟨_, cap, hv, hnc⟩

def fSpot (c : PSpot) : List Value := [.string c.name, .string c.label, .string c.type, .int .i64 c.least, .int .i64 c.most]
def fCond (c : PCond) : List Value := [.int .i64 c.op, .string c.a.name, .string c.a.key, .int .i64 c.a.val, .string c.b.name, .string c.b.key, .int .i64 c.b.val]
def fItem (c : PItem) : List Value := [.string c.name, .string c.key]
def fPair (c : PPair) : List Value := [.string c.key, .int .i64 c.val]
end Go.Proofs.YtobgbmfpicmpcaaGreatDoor

/- The reference's reader: a make. -/
namespace Go.Proofs.YtobgbmfpicmpcaaGreatDoor
open Go.RowKit

theorem QY.drew {W0 W : World} {b x y : Nat} {lv : Value} {ts : List Tok} {st : RS} {cs cy : Array Value} {R : QRow} {T : TypeId} (h : QY W0 b lv ts st x cs R y cy T W) (n : Nat) : QY W0 b lv ts st x cs R y cy T (W.drewN n) := h.call (h.q.ri.drew n) (grown_drew W n _)
/-- The pairs that were looked at so far: is one of this key among them? -/
def seen (pr : List PPair) (key : ByteArray) (k : Nat) : Bool := (pr.take k).any fun x => eqB x.key key
end Go.Proofs.YtobgbmfpicmpcaaGreatDoor

/- The reference's scope: is a variable one of the spots'? -/
namespace Go.Proofs.YtobgbmfpicmpcaaGreatDoor
open Go.RowKit

theorem bound_next {sp : List PSpot} {n : ByteArray} {k : Nat} (h : k < sp.length) : boundR (sp.take (k + 1)) n = (boundR (sp.take k) n || eqB sp[k].name n) := by
  have e : sp.take (k + 1) = sp.take k ++ [sp[k]] := by rw [List.take_add_one, List.getElem?_eq_getElem h]; rfl
  unfold boundR; rw [e, List.any_append]; simp
theorem bound_here {sp : List PSpot} {n : ByteArray} {k : Nat} (h : k < sp.length) (he : eqB sp[k].name n = true) : boundR sp n = true := by
  unfold boundR
  exact List.any_eq_true.2 ⟨sp[k], List.getElem_mem h, he⟩
theorem kept_none {W W' : World} {B k n : Nat} {T : TypeId} {v : Value} {xs : List Value} (h : W.ownsRow B T k v n xs) (g : W.grownBy W' none) : W'.ownsRow B T k v n xs :=
  h.kept g (by cases hv : v.ownBlock <;> simp)

set_option maxRecDepth 100000 in
set_option maxHeartbeats 4000000 in
theorem bound {B : Nat} {q : PQuery} {vs vc vi vp : Value} {sp : List PSpot} {n : ByteArray} {W : World} (h : W.ownsRow B 85 5 vs sp.length (spotCells sp)) (hlen : sp.length < 9223372036854775807) :
    Calls Tryz.prog 92 #[.agg (qC q vs vc vi vp), .string n] W fun e W' => e = .returned (.bool (boundR sp n)) ∧ Below W.heap.size W W' := by
  obtain ⟨ao, ca, rfl, hca⟩ := row_slice (l := sp) h
  have hB : Below W.heap.size W (W.alloc (.cells (qC q (.slice ao sp.length ca) vc vi vp) 29)) := Below.alloc (Below.refl _ _) (Nat.le_refl _) _
  have HB := Lib.hid hB
  have h1 := kept_none h (grown_alloc W (.cells (qC q (.slice ao sp.length ca) vc vi vp) 29) none)
  have L1 : Loc (W.alloc (.cells (qC q (.slice ao sp.length ca) vc vi vp) 29)) W.heap.size (qC q (.slice ao sp.length ca) vc vi vp) 29 := Loc.new W _ _
  have c1 : (W.alloc (.cells (qC q (.slice ao sp.length ca) vc vi vp) 29)).cell? ⟨W.heap.size, 1, none⟩ = some (.slice ao sp.length ca) := (L1.cell 1).trans rfl
  have HR := Lib.hid h1
  clear h h1 hB L1
  go_enter Tryz.func92, Tryz.ntmps92
  go_wp2_with fail
  generalize W.alloc (.cells (qC q (.slice ao sp.length ca) vc vi vp) 29) = Wb at HB HR c1 ⊢
  go_loopg [5] sp.length (fun m iv w => ∃ k : Nat, iv = .int .i64 (k : Int) ∧ k + m = sp.length ∧ w = Wb ∧ boundR (sp.take k) n = false)
  case atStart => exact ⟨0, rfl, by omega, rfl, rfl⟩
  case round =>
    obtain ⟨k, rfl, hk, rfl, hno⟩ := hrel
    have HNO := Lib.hid hno
    clear hno
    by_cases hlt : k < sp.length
    · obtain ⟨g, rfl, hcell⟩ := row_at (l := sp) fSpot (fun _ => rfl) HR.out hlt
      have p0 : wr.cell? ⟨g, k * 5, none⟩ = some (.string sp[k].name) := hcell 0 (by decide)
      have hki : (k : Int) < (sp.length : Int) := by omega
      obtain ⟨key, hkey⟩ : ∃ key, sp[k].name = key := ⟨_, rfl⟩
      have HNX : Hid (boundR (sp.take (k + 1)) n = (key.toList == n.toList)) := by show _ = _; rw [bound_next hlt, hkey, HNO.out]; rfl
      have HH : Hid ((key.toList == n.toList) = true → boundR sp n = true) := by intro e; exact bound_here hlt (by rw [hkey]; exact e)
      rw [hkey] at p0
      clear hcell hkey hlt
      cases he : (key.toList == n.toList) with
      | true =>
        go_wp2_with fail
        refine bodyPost_ret (v := .bool true) ?_ rfl ⟨?_, HB.out⟩
        · simp [results, Tryz.results92, go_sem]
        · rw [HH.out he]
      | false =>
        go_wp2_with fail
        go_roundg (gk - 1)
        case measure => omega
        case rel => exact ⟨k + 1, by simp, by omega, rfl, by rw [HNX.out]; exact he⟩
    · have hki : ¬ (k : Int) < (sp.length : Int) := by omega
      have hk2 : k = sp.length := by omega
      go_wp2_with fail
      refine bodyPost_ret (v := .bool false) ?_ rfl ⟨?_, HB.out⟩
      · simp [results, Tryz.results92, go_sem]
      · have := HNO.out
        rw [hk2, List.take_length] at this
        rw [this]

end Go.Proofs.YtobgbmfpicmpcaaGreatDoor

/- What stands in memory while the reference looks at a query's scope: the query's copy, its rows, the list of names. No walk in this text. -/
namespace Go.Proofs.YtobgbmfpicmpcaaGreatDoor
open Go.RowKit

def strs (l : List ByteArray) : List Value := l.map .string
theorem strs_append (a b : List ByteArray) : strs (a ++ b) = strs a ++ strs b := by unfold strs; rw [List.map_append]
theorem strs_length (a : List ByteArray) : (strs a).length = a.length := by unfold strs; rw [List.length_map]
theorem strs_flat (l : List ByteArray) : strs l = l.flatMap fun s => [.string s] := by
  induction l with
  | nil => rfl
  | cons a l ih => unfold strs at *; rw [List.map_cons, ih]; rfl
theorem Tryz.infoString : (Tryz.prog.info? 9).map (fun i => (i.zero, i.size, i.bytes)) = some (some (.string ⟨#[]⟩), 1, 16) := by kernel_rfl

structure SAt (W : World) (B X : Nat) (cs : Array Value) (q : PQuery) (vs vc vi v : Value) (ns : List ByteArray) (w : World) : Prop where
  low : Below W.heap.size W w
  lq : Loc w X cs 29
  nx : W.heap.size ≤ X
  rs : w.ownsRow B 85 5 vs q.spots.length (spotCells q.spots)
  rc : w.ownsRow B 87 7 vc q.conds.length (condCells q.conds)
  rt : w.ownsRow B 89 2 vi q.items.length (itemCells q.items)
  rl : w.ownsRow W.heap.size 9 1 v ns.length (strs ns)
variable {W w w2 : World} {B X : Nat} {cs : Array Value} {q : PQuery} {vs vc vi v : Value} {ns : List ByteArray}
theorem SAt.quiet (h : SAt W B X cs q vs vc vi v ns w) (g : w.grownBy w2 none) : SAt W B X cs q vs vc vi v ns w2 :=
  ⟨⟨g.os.trans h.low.os, g.tape.trans h.low.tape, g.output.trans h.low.output, Nat.le_trans h.low.size g.size, fun k hk => (g.block k (Nat.lt_of_lt_of_le hk h.low.size) (by simp)).trans (h.low.block k hk)⟩, h.lq.grown g (by simp), h.nx, kept_none h.rs g, kept_none h.rc g, kept_none h.rt g, kept_none h.rl g⟩
theorem SAt.alloc (h : SAt W B X cs q vs vc vi v ns w) (o : Obj) : SAt W B X cs q vs vc vi v ns (w.alloc o) := h.quiet (grown_alloc w o none)
theorem SAt.drew (h : SAt W B X cs q vs vc vi v ns w) (n : Nat) : SAt W B X cs q vs vc vi v ns (w.drewN n) := h.quiet (grown_drew w n none)
theorem SAt.later (h : SAt W B X cs q vs vc vi v ns w) (hb : Below w.heap.size w w2) : SAt W B X cs q vs vc vi v ns w2 := h.quiet (grown_below hb none)
theorem SAt.more {v2 : Value} {l : List ByteArray} (h : SAt W B X cs q vs vc vi v ns w) (hg : w.grownBy w2 v.ownBlock) (ho : w2.ownsRow W.heap.size 9 1 v2 (ns ++ l).length (strs (ns ++ l))) : SAt W B X cs q vs vc vi v2 (ns ++ l) w2 :=
  ⟨⟨hg.os.trans h.low.os, hg.tape.trans h.low.tape, hg.output.trans h.low.output, Nat.le_trans h.low.size hg.size, fun k hk => (hg.block k (Nat.lt_of_lt_of_le hk h.low.size) (by
      intro e
      have := (h.rl.lt k e.symm).1
      omega)).trans (h.low.block k hk)⟩,
    h.lq.byRow h.rl hg (by decide), h.nx, h.rs.kept hg (row_row h.rs h.rl (by decide)), h.rc.kept hg (row_row h.rc h.rl (by decide)), h.rt.kept hg (row_row h.rt h.rl (by decide)), ho⟩

/-- The names so far. -/
def condNames (l : List PCond) : List ByteArray := l.flatMap fun c => [c.a.name, c.b.name]
def itemNames (l : List PItem) : List ByteArray := l.map fun x => x.name
theorem condNames_next {l : List PCond} {k : Nat} (h : k < l.length) : condNames (l.take (k + 1)) = condNames (l.take k) ++ [l[k].a.name, l[k].b.name] := by
  have e : l.take (k + 1) = l.take k ++ [l[k]] := by rw [List.take_add_one, List.getElem?_eq_getElem h]; rfl
  unfold condNames; rw [e, List.flatMap_append]; simp
theorem itemNames_next {l : List PItem} {k : Nat} (h : k < l.length) : itemNames (l.take (k + 1)) = itemNames (l.take k) ++ [l[k].name] := by
  have e : l.take (k + 1) = l.take k ++ [l[k]] := by rw [List.take_add_one, List.getElem?_eq_getElem h]; rfl
  unfold itemNames; rw [e, List.map_append]; simp
theorem condNames_len (l : List PCond) : (condNames l).length = l.length * 2 := by
  induction l with
  | nil => rfl
  | cons c l ih => unfold condNames at *; rw [List.flatMap_cons, List.length_append, ih]; simp; omega
theorem itemNames_len (l : List PItem) : (itemNames l).length = l.length := by unfold itemNames; rw [List.length_map]

end Go.Proofs.YtobgbmfpicmpcaaGreatDoor

/- Contracts of Go's library, laid at this program's own numbers by the shelf's one command and its plain mode. -/
namespace Go.Proofs
open Go.Shelf
def Tryz.lays156_ren : Go.Shelf.Ren := ⟨fun | 156 => 54 | 165 => 109 | 166 => 110 | 169 => 111 | 240 => 173 | 241 => 174 | 276 => 222 | 277 => 223 | n => n, fun | 31 => 56 | 9 => 9 | 3 => 3 | 4 => 4 | 0 => 0 | 20 => 20 | 72 => 174 | 76 => 178 | 70 => 172 | 37 => 168 | 75 => 177 | 127 => 247 | 164 => 288 | 5 => 5 | 80 => 79 | n => n, fun | n => n⟩
theorem Tryz.lays156 : Go.Proofs.Lays.n156 Tryz.prog Tryz.lays156_ren := {
  mixed := by kernel_rfl
  f156 := Tryz.func54.trans (congrArg some (by kernel_rfl))
  f165 := Tryz.func109.trans (congrArg some (by kernel_rfl))
  f166 := Tryz.func110.trans (congrArg some (by kernel_rfl))
  f169 := Tryz.func111.trans (congrArg some (by kernel_rfl))
  f240 := Tryz.func173.trans (congrArg some (by kernel_rfl))
  f241 := Tryz.func174.trans (congrArg some (by kernel_rfl))
  f276 := Tryz.func222.trans (congrArg some (by kernel_rfl))
  f277 := Tryz.func223.trans (congrArg some (by kernel_rfl))
  t0 := Tryz.underlying0
  a0 := Tryz.isAgg0
  z0 := Tryz.sizeOf0
  v0 := Tryz.zeroValue0
  t3 := Tryz.underlying3
  a3 := Tryz.isAgg3
  z3 := Tryz.sizeOf3
  v3 := Tryz.zeroValue3
  t4 := Tryz.underlying4
  a4 := Tryz.isAgg4
  z4 := Tryz.sizeOf4
  v4 := Tryz.zeroValue4
  t9 := Tryz.underlying9
  a9 := Tryz.isAgg9
  z9 := Tryz.sizeOf9
  v9 := Tryz.zeroValue9
  t20 := Tryz.underlying20
  a20 := Tryz.isAgg20
  z20 := Tryz.sizeOf20
  v20 := Tryz.zeroValue20
  t31 := Tryz.underlying56
  a31 := Tryz.isAgg56
  z31 := Tryz.sizeOf56
  v31 := Tryz.zeroValue56
  t37 := Tryz.underlying168
  a37 := Tryz.isAgg168
  z37 := Tryz.sizeOf168
  v37 := Tryz.zeroValue168
  t70 := Tryz.underlying172
  a70 := Tryz.isAgg172
  z70 := Tryz.sizeOf172
  v70 := Tryz.zeroValue172
  t72 := Tryz.underlying174
  a72 := Tryz.isAgg174
  z72 := Tryz.sizeOf174
  v72 := Tryz.zeroValue174
  t75 := Tryz.underlying177
  a75 := Tryz.isAgg177
  z75 := Tryz.sizeOf177
  v75 := Tryz.zeroValue177
  t76 := Tryz.underlying178
  a76 := Tryz.isAgg178
  z76 := Tryz.sizeOf178
  v76 := Tryz.zeroValue178
  t127 := Tryz.underlying247
  a127 := Tryz.isAgg247
  z127 := Tryz.sizeOf247
  v127 := Tryz.zeroValue247
  t164 := Tryz.underlying288
  a164 := Tryz.isAgg288
  z164 := Tryz.sizeOf288
  v164 := Tryz.zeroValue288 }
theorem Tryz.Builder_Extra_156 : Builder.Extra Tryz.prog Tryz.lays156_ren := {
  sizeBuilder := by kernel_rfl
  liesBuilder := by kernel_rfl
  t5 := Tryz.underlying5
  a5 := Tryz.isAgg5
  z5 := Tryz.sizeOf5
  v5 := Tryz.zeroValue5
  infoByte := by kernel_rfl
  cellsByte := by kernel_rfl
  sizeByte := by kernel_rfl
  neB5 := by decide }
open Go.RowKit in
theorem Tryz.strings_Join (bk o c : Nat) (xs : List ByteArray) (sep : ByteArray) (w : World) (hcells : ∀ (j : Nat) x, xs[j]? = some x → w.cell? ⟨bk, o + j, none⟩ = some (.string x)) (hbk : bk < w.heap.size) (hN : xs.length ≤ 140737488355328) (hcap : xs.length ≤ c) (hlen : (Lib.join (xs.map (·.data.toList)) sep.data.toList).length ≤ 140737488355328) :
    Calls Tryz.prog 54 #[.slice (some ⟨bk, o, none⟩) xs.length c, .string sep] w fun e w' => e = .returned (.string ⟨(Lib.join (xs.map (·.data.toList)) sep.data.toList).toArray⟩) ∧ Below w.heap.size w w' := Any.strings_Join Tryz.lays156 Tryz.Builder_Extra_156 bk o c xs sep w hcells hbk hN hcap hlen
def Tryz.laysM171_ren : Go.Shelf.Ren := ⟨fun | 171 => 36 | 243 => 77 | 246 => 149 | 283 => 206 | 284 => 207 | 285 => 208 | 286 => 209 | 129 => 253 | 317 => 269 | 318 => 270 | 319 => 271 | 320 => 272 | 337 => 316 | 338 => 317 | n => n, fun | 3 => 3 | 9 => 9 | 2 => 2 | 4 => 4 | 171 => 277 | 0 => 0 | 53 => 278 | 37 => 168 | 5 => 5 | 173 => 281 | 212 => 348 | 51 => 327 | 20 => 20 | 213 => 349 | 46 => 204 | 232 => 407 | 233 => 408 | n => n, fun | 17 => 0 | 18 => 2 | 19 => 3 | n => n⟩
theorem Tryz.laysM171 : Go.Proofs.LaysM.n171 Tryz.prog Tryz.laysM171_ren := {
  mixed := by kernel_rfl
  f129 := Tryz.func253.trans (congrArg some (by kernel_rfl))
  f171 := Tryz.func36.trans (congrArg some (by kernel_rfl))
  f243 := Tryz.func77.trans (congrArg some (by kernel_rfl))
  f246 := Tryz.func149.trans (congrArg some (by kernel_rfl))
  f283 := Tryz.func206.trans (congrArg some (by kernel_rfl))
  f284 := Tryz.func207.trans (congrArg some (by kernel_rfl))
  f285 := Tryz.func208.trans (congrArg some (by kernel_rfl))
  f286 := Tryz.func209.trans (congrArg some (by kernel_rfl))
  f317 := Tryz.func269.trans (congrArg some (by kernel_rfl))
  f318 := Tryz.func270.trans (congrArg some (by kernel_rfl))
  f319 := Tryz.func271.trans (congrArg some (by kernel_rfl))
  f320 := Tryz.func272.trans (congrArg some (by kernel_rfl))
  f337 := Tryz.func316.trans (congrArg some (by kernel_rfl))
  f338 := Tryz.func317.trans (congrArg some (by kernel_rfl))
  t0 := Tryz.underlying0
  a0 := Tryz.isAgg0
  z0 := Tryz.sizeOf0
  v0 := Tryz.zeroValue0
  t2 := Tryz.underlying2
  a2 := Tryz.isAgg2
  z2 := Tryz.sizeOf2
  v2 := Tryz.zeroValue2
  t3 := Tryz.underlying3
  a3 := Tryz.isAgg3
  z3 := Tryz.sizeOf3
  v3 := Tryz.zeroValue3
  t4 := Tryz.underlying4
  a4 := Tryz.isAgg4
  z4 := Tryz.sizeOf4
  v4 := Tryz.zeroValue4
  t5 := Tryz.underlying5
  a5 := Tryz.isAgg5
  z5 := Tryz.sizeOf5
  v5 := Tryz.zeroValue5
  t9 := Tryz.underlying9
  a9 := Tryz.isAgg9
  z9 := Tryz.sizeOf9
  v9 := Tryz.zeroValue9
  t20 := Tryz.underlying20
  a20 := Tryz.isAgg20
  z20 := Tryz.sizeOf20
  v20 := Tryz.zeroValue20
  t37 := Tryz.underlying168
  a37 := Tryz.isAgg168
  z37 := Tryz.sizeOf168
  v37 := Tryz.zeroValue168
  t46 := Tryz.underlying204
  a46 := Tryz.isAgg204
  z46 := Tryz.sizeOf204
  v46 := Tryz.zeroValue204
  t51 := Tryz.underlying327
  a51 := Tryz.isAgg327
  z51 := Tryz.sizeOf327
  v51 := Tryz.zeroValue327
  t53 := Tryz.underlying278
  a53 := Tryz.isAgg278
  z53 := Tryz.sizeOf278
  v53 := Tryz.zeroValue278
  t171 := Tryz.underlying277
  a171 := Tryz.isAgg277
  z171 := Tryz.sizeOf277
  v171 := Tryz.zeroValue277
  t173 := Tryz.underlying281
  a173 := Tryz.isAgg281
  z173 := Tryz.sizeOf281
  v173 := Tryz.zeroValue281
  t212 := Tryz.underlying348
  a212 := Tryz.isAgg348
  z212 := Tryz.sizeOf348
  v212 := Tryz.zeroValue348
  t213 := Tryz.underlying349
  a213 := Tryz.isAgg349
  z213 := Tryz.sizeOf349
  t232 := Tryz.underlying407
  a232 := Tryz.isAgg407
  z232 := Tryz.sizeOf407
  v232 := Tryz.zeroValue407
  t233 := Tryz.underlying408
  a233 := Tryz.isAgg408
  z233 := Tryz.sizeOf408
  v233 := Tryz.zeroValue408
  g17 := by kernel_rfl
  g18 := by kernel_rfl
  g19 := by kernel_rfl
  i0 := by kernel_rfl
  i2 := by kernel_rfl
  i3 := by kernel_rfl
  i4 := by kernel_rfl
  i5 := by kernel_rfl
  i9 := by kernel_rfl
  i20 := by kernel_rfl
  i37 := by kernel_rfl
  i46 := by kernel_rfl
  i51 := by kernel_rfl
  i53 := by kernel_rfl
  i171 := by kernel_rfl
  i173 := by kernel_rfl
  i212 := by kernel_rfl
  i232 := by kernel_rfl
  i233 := by kernel_rfl
  m17 := by kernel_rfl
  m18 := by kernel_rfl
  m19 := by kernel_rfl }
open Go.RowKit Go.Sort Go.Lib in
theorem Tryz.strconv_Itoa (n : Int) (h0 : -9223372036854775808 ≤ n) (h1 : n ≤ 9223372036854775807) (w : World) (htab : Lib.TabIs Tryz.prog w "internal/strconv.uint64pow10" .u64 Lib.pow10Tab) :
    Calls Tryz.prog 36 #[.int .i64 n] w fun e w' => e = .returned (.string ⟨(Lib.itoa n).toArray⟩) ∧ ∃ k os, w' = grow (w.drewN k) os := Any.strconv_Itoa Tryz.laysM171 n h0 h1 w htab
end Go.Proofs

/- The program's reader of queries, as plain functions on a list of tokens: each does, to the letter, what the program's function does, also behind a failure. No program in this text. -/
namespace Go.Proofs.YtobgbmfpicmpcaaGreatDoor

def failP : RS := ⟨[], true⟩
def peekP (s : ByteArray) (st : RS) : Bool :=
  match st.rest with
  | [] => false
  | t :: _ => eqB t.text s
def acceptP (s : ByteArray) (st : RS) : RS := if peekP s st then ⟨st.rest.tail, st.bad⟩ else st
def expectP (s : ByteArray) (st : RS) : RS := if peekP s st then acceptP s st else failP
def kindW (s : ByteArray) : Int := if isName s then 1 else if isTitle s then 2 else 3
def kindP (t : Tok) : Int := if t.kind = 2 then 4 else if t.kind = 3 then 5 else if t.kind = 1 then kindW t.text else 0
def seesP (k : Int) (st : RS) : Bool :=
  match st.rest with
  | [] => false
  | t :: _ => decide (kindP t = k)
def takeP (k : Int) (st : RS) : Tok × RS := if seesP k st then (st.rest.headD tok0, ⟨st.rest.tail, st.bad⟩) else (tok0, failP)
def nameP (st : RS) : ByteArray × RS := ((takeP 1 st).1.text, (takeP 1 st).2)
def titleP (st : RS) : ByteArray × RS := ((takeP 2 st).1.text, (takeP 2 st).2)
def numberP (lo hi : Int) (st : RS) : Int × RS := ((takeP 4 st).1.val, if (takeP 4 st).1.val < lo ∨ hi < (takeP 4 st).1.val then failP else (takeP 4 st).2)

def listLoop {α : Type} (one : RS → α × RS) (sep : ByteArray) : Nat → List α → RS → List α × RS
  | 0, out, st => (out, st)
  | n + 1, out, st => if peekP sep st then listLoop one sep n (out ++ [(one (acceptP sep st)).1]) (one (acceptP sep st)).2 else (out, st)
def listP {α : Type} (one : RS → α × RS) (sep : ByteArray) (most : Nat) (st : RS) : List α × RS :=
  let l := listLoop one sep (one st).2.rest.length [(one st).1] (one st).2
  (l.1, if most < l.1.length then failP else l.2)

def spotP (x : PSpot) (st : RS) : PSpot × RS :=
  let n := nameP (expectP mOpen st)
  let l := if peekP mColon n.2 then titleP (acceptP mColon n.2) else (x.label, n.2)
  (⟨n.1, l.1, x.type, x.least, x.most⟩, expectP mClose l.2)
def starP (st : RS) : (Int × Int) × RS :=
  if peekP mStar st then
    let a := numberP 0 4 (acceptP mStar st)
    let b := numberP a.1 4 (expectP mDots a.2)
    ((a.1, b.1), b.2)
  else ((1, 1), st)
def stepP (st : RS) : PSpot × RS :=
  let t := titleP st
  let s := starP t.2
  (⟨e0, e0, t.1, s.1.1, s.1.2⟩, expectP mArrow s.2)
def hopP (st : RS) : PSpot × RS := spotP (stepP st).1 (stepP st).2
def spotsLoop : Nat → List PSpot → RS → List PSpot × RS
  | 0, out, st => (out, st)
  | n + 1, out, st =>
    if peekP mComma st then spotsLoop n (out ++ [(spotP spot0 (acceptP mComma st)).1]) (spotP spot0 (acceptP mComma st)).2
    else if peekP mTo st then spotsLoop n (out ++ [(hopP (acceptP mTo st)).1]) (hopP (acceptP mTo st)).2
    else (out, st)
def spotsP (st : RS) : List PSpot × RS :=
  let l := spotsLoop (spotP spot0 st).2.rest.length [(spotP spot0 st).1] (spotP spot0 st).2
  (l.1, if 6 < l.1.length then failP else l.2)

def propP (st : RS) : (ByteArray × ByteArray) × RS :=
  let n := nameP st
  let k := nameP (expectP mDot n.2)
  ((n.1, k.1), k.2)
def termP (st : RS) : PTerm × RS :=
  if seesP 4 st then
    let v := numberP (-1000000000) 1000000000 st
    (⟨e0, e0, v.1⟩, v.2)
  else
    let p := propP st
    (⟨p.1.1, p.1.2, 0⟩, p.2)
def opLoopP : List ByteArray → Int → RS → Int × RS
  | [], _, _ => (0, failP)
  | m :: r, i, st => if peekP m st then (i, acceptP m st) else opLoopP r (i + 1) st
def condP (st : RS) : PCond × RS :=
  let a := termP st
  if peekP kIS a.2 then
    let s := acceptP kIS a.2
    (⟨if peekP kNOT s then 8 else 7, a.1, term0⟩, expectP kNULL (acceptP kNOT s))
  else
    let o := opLoopP opsR 1 a.2
    let b := termP o.2
    (⟨o.1, a.1, b.1⟩, b.2)
def itemP (st : RS) : PItem × RS :=
  if peekP kCOUNT st then (⟨e0, e0⟩, acceptP kCOUNT st)
  else
    let n := nameP st
    if peekP mDot n.2 then
      let k := nameP (acceptP mDot n.2)
      (⟨n.1, k.1⟩, k.2)
    else (⟨n.1, e0⟩, n.2)
def pairP (st : RS) : PPair × RS :=
  let k := nameP st
  let v := numberP (-1000000000) 1000000000 (expectP mColon k.2)
  (⟨k.1, v.1⟩, v.2)
/-- Is a key among these that stands earlier too? -/
def twiceP : List PPair → List PPair → Bool
  | _, [] => false
  | pre, x :: r => (pre.any fun y => eqB y.key x.key) || twiceP (pre ++ [x]) r
def creationP (st : RS) : (ByteArray × List PPair) × RS :=
  let t := titleP (expectP mOpen st)
  let p := if peekP mBrace t.2 then listP pairP mComma 6 (acceptP mBrace t.2) else ([], t.2)
  let u := if peekP mBrace t.2 then expectP mUnbrace p.2 else p.2
  ((t.1, p.1), if twiceP [] p.1 then failP else expectP mClose u)
def orderP (k : Int) (st : RS) : (Int × Bool) × RS :=
  if peekP kORDER st then
    let o := numberP 1 k (expectP kBY (acceptP kORDER st))
    ((o.1, peekP kDESC o.2), acceptP kDESC o.2)
  else ((0, false), st)
def partP (word : ByteArray) (none : Int) (st : RS) : Int × RS :=
  if peekP word st then numberP 0 1000000000 (acceptP word st) else (none, st)
def readP (st : RS) : PItems × RS :=
  let x := listP itemP mComma 6 st
  let o := orderP x.1.length x.2
  let s := partP kSKIP 0 o.2
  let l := partP kLIMIT (-1) s.2
  (⟨x.1, o.1.1, o.1.2, s.1, l.1⟩, l.2)
def linkP (st : RS) : (ByteArray × ByteArray × ByteArray) × RS :=
  let n := nameP (expectP mOpen st)
  let t := titleP (expectP mTo (expectP mClose n.2))
  let o := nameP (expectP mOpen (expectP mArrow t.2))
  ((n.1, t.1, o.1), expectP mClose o.2)
def setP (st : RS) : (ByteArray × ByteArray × PTerm) × RS :=
  let p := propP st
  let v := termP (expectP mEq p.2)
  ((p.1.1, p.1.2, v.1), v.2)
def actionP (q : PQuery) (st : RS) : PQuery × RS :=
  if peekP kRETURN st then
    let x := readP (acceptP kRETURN st)
    ({ q with kind := 1, items := x.1.items, order := x.1.order, down := x.1.down, skip := x.1.skip, limit := x.1.limit }, x.2)
  else if peekP kSET st then
    let x := setP (acceptP kSET st)
    ({ q with kind := 2, name := x.1.1, key := x.1.2.1, value := x.1.2.2 }, x.2)
  else if peekP kDELETE st then
    let x := nameP (acceptP kDELETE st)
    ({ q with kind := 3, name := x.1 }, x.2)
  else if peekP kCREATE st then
    let x := linkP (acceptP kCREATE st)
    ({ q with kind := 4, name := x.1.1, type := x.1.2.1, «to» := x.1.2.2 }, x.2)
  else (q, failP)
def whereP (st : RS) : List PCond × RS := if peekP kWHERE st then listP condP kAND 6 (acceptP kWHERE st) else ([], st)
def queryP (st : RS) : PQuery × RS :=
  if peekP kCALL st then
    let x := nameP (acceptP kCALL st)
    ({ query0 with kind := 6, name := x.1 }, x.2)
  else if peekP kCREATE st then
    let x := creationP (acceptP kCREATE st)
    ({ query0 with kind := 5, label := x.1.1, pairs := x.1.2 }, x.2)
  else
    let s := spotsP (expectP kMATCH st)
    let c := whereP s.2
    actionP { query0 with spots := s.1, conds := c.1 } c.2
def usedP (q : PQuery) : List ByteArray :=
  (q.conds.flatMap fun c => [c.a.name, c.b.name]) ++ q.items.map (fun x => x.name) ++ (if q.kind ≠ 6 then [q.name, q.to] else [])
def inScopeP (q : PQuery) : Bool :=
  ((usedP q).all fun n => n.toList.isEmpty || boundR q.spots n) && (decide (q.kind ≠ 2) || q.value.name.toList.isEmpty || eqB q.value.name q.name)
/-- The query of tokens, and the error beside it. -/
def parseP (ts : List Tok) : PQuery × Int :=
  let x := queryP ⟨ts, false⟩
  if x.2.bad || !x.2.rest.isEmpty then (query0, 3)
  else if inScopeP x.1 then (x.1, 0) else (query0, 4)

end Go.Proofs.YtobgbmfpicmpcaaGreatDoor

/- The two readers of queries, the program's and the reference's, as plain functions: a failure stays a failure. No program in this text. -/
namespace Go.Proofs.YtobgbmfpicmpcaaGreatDoor.Pure

theorem orBad_bad {st : RS} {x : Bool} (h : st.bad = true) : (st.orBad x).bad = true := by unfold RS.orBad; simp [h]
theorem orBad_true (st : RS) : (st.orBad true).bad = true := by unfold RS.orBad; simp
theorem orBad_false (st : RS) : st.orBad false = st := by unfold RS.orBad; simp
theorem hasR_bad {s : ByteArray} {st : RS} (h : st.bad = true) : (hasR s st).bad = true := by unfold hasR; split <;> exact h
theorem hasR_keeps {s : ByteArray} {st : RS} : (hasR s st).bad = st.bad := by unfold hasR; split <;> rfl
theorem mustR_bad {s : ByteArray} {st : RS} (h : st.bad = true) : (mustR s st).bad = true := by unfold mustR; exact orBad_bad (hasR_bad h)
theorem nextR_bad {k : Int} {st : RS} (h : st.bad = true) : (nextR k st).2.bad = true := by unfold nextR; split; exact h; exact rfl
theorem nameR_bad {st : RS} (h : st.bad = true) : (nameR st).2.bad = true := by unfold nameR; exact orBad_bad (nextR_bad h)
theorem titleR_bad {st : RS} (h : st.bad = true) : (titleR st).2.bad = true := by unfold titleR; exact orBad_bad (nextR_bad h)
theorem countR_bad {lo hi : Int} {st : RS} (h : st.bad = true) : (countR lo hi st).2.bad = true := by unfold countR; exact orBad_bad (nextR_bad h)
theorem acceptP_bad {s : ByteArray} {st : RS} (h : st.bad = true) : (acceptP s st).bad = true := by unfold acceptP; split <;> exact h
theorem expectP_bad {s : ByteArray} {st : RS} (h : st.bad = true) : (expectP s st).bad = true := by unfold expectP; split; exact acceptP_bad h; exact rfl
theorem takeP_bad {k : Int} {st : RS} (h : st.bad = true) : (takeP k st).2.bad = true := by unfold takeP; split; exact h; exact rfl
theorem nameP_bad {st : RS} (h : st.bad = true) : (nameP st).2.bad = true := takeP_bad h
theorem titleP_bad {st : RS} (h : st.bad = true) : (titleP st).2.bad = true := takeP_bad h
theorem numberP_bad {lo hi : Int} {st : RS} (h : st.bad = true) : (numberP lo hi st).2.bad = true := by unfold numberP; simp only; split; exact rfl; exact takeP_bad h

theorem spotP_bad {x : PSpot} {st : RS} (h : st.bad = true) : (spotP x st).2.bad = true := by
  unfold spotP; simp only; refine expectP_bad ?_; split
  · exact titleP_bad (acceptP_bad (nameP_bad (expectP_bad h)))
  · exact nameP_bad (expectP_bad h)
theorem spotR_bad {x : PSpot} {st : RS} (h : st.bad = true) : (spotR x st).2.bad = true := by
  unfold spotR; simp only; refine mustR_bad ?_; split
  · exact titleR_bad (hasR_bad (nameR_bad (mustR_bad h)))
  · exact nameR_bad (mustR_bad h)
theorem starP_bad {st : RS} (h : st.bad = true) : (starP st).2.bad = true := by
  unfold starP; split
  · exact numberP_bad (expectP_bad (numberP_bad (acceptP_bad h)))
  · exact h
theorem starR_bad {st : RS} (h : st.bad = true) : (starR st).2.bad = true := by
  unfold starR; split
  · exact countR_bad (mustR_bad (countR_bad (hasR_bad h)))
  · exact h
theorem stepP_bad {st : RS} (h : st.bad = true) : (stepP st).2.bad = true := by unfold stepP; exact expectP_bad (starP_bad (titleP_bad h))
theorem hopP_bad {st : RS} (h : st.bad = true) : (hopP st).2.bad = true := by unfold hopP; exact spotP_bad (stepP_bad h)
theorem stepR_bad {st : RS} (h : st.bad = true) : (stepR st).2.bad = true := by unfold stepR; exact spotR_bad (mustR_bad (starR_bad (titleR_bad h)))
theorem propP_bad {st : RS} (h : st.bad = true) : (propP st).2.bad = true := by unfold propP; exact nameP_bad (expectP_bad (nameP_bad h))
theorem termP_bad {st : RS} (h : st.bad = true) : (termP st).2.bad = true := by
  unfold termP; split
  · exact numberP_bad h
  · exact propP_bad h
theorem termR_bad {st : RS} (h : st.bad = true) : (termR st).2.bad = true := by
  unfold termR; split
  · exact nextR_bad h
  · exact nameR_bad (mustR_bad (nameR_bad h))
theorem opLoopP_bad {l : List ByteArray} : ∀ {i : Int} {st : RS}, st.bad = true → (opLoopP l i st).2.bad = true := by
  induction l with
  | nil => intro i st h; rfl
  | cons m r ih => intro i st h; simp only [opLoopP]; split; exact acceptP_bad h; exact ih h
theorem opLoop_bad {l : List ByteArray} : ∀ {i : Int} {st : RS}, st.bad = true → (opLoop l i st).2.bad = true := by
  induction l with
  | nil => intro i st h; exact h
  | cons m r ih => intro i st h; simp only [opLoop]; split; exact hasR_bad h; exact ih h
theorem condP_bad {st : RS} (h : st.bad = true) : (condP st).2.bad = true := by
  unfold condP; simp only; split
  · exact expectP_bad (acceptP_bad (acceptP_bad (termP_bad h)))
  · exact termP_bad (opLoopP_bad (termP_bad h))
theorem itemP_bad {st : RS} (h : st.bad = true) : (itemP st).2.bad = true := by
  unfold itemP; split
  · exact acceptP_bad h
  · simp only; split
    · exact nameP_bad (acceptP_bad (nameP_bad h))
    · exact nameP_bad h
theorem pairP_bad {st : RS} (h : st.bad = true) : (pairP st).2.bad = true := by unfold pairP; exact numberP_bad (expectP_bad (nameP_bad h))
theorem listLoop_bad {α : Type} {one : RS → α × RS} {sep : ByteArray} (ho : ∀ {st : RS}, st.bad = true → (one st).2.bad = true) (n : Nat) : ∀ {out : List α} {st : RS}, st.bad = true → (listLoop one sep n out st).2.bad = true := by
  induction n with
  | zero => intro out st h; exact h
  | succ n ih => intro out st h; simp only [listLoop]; split; exact ih (ho (acceptP_bad h)); exact h
theorem listP_bad {α : Type} {one : RS → α × RS} {sep : ByteArray} {most : Nat} (ho : ∀ {st : RS}, st.bad = true → (one st).2.bad = true) {st : RS} (h : st.bad = true) : (listP one sep most st).2.bad = true := by
  unfold listP; simp only; split; exact rfl; exact listLoop_bad ho _ (ho h)
theorem spotsLoop_bad (n : Nat) : ∀ {out : List PSpot} {st : RS}, st.bad = true → (spotsLoop n out st).2.bad = true := by
  induction n with
  | zero => intro out st h; exact h
  | succ n ih =>
    intro out st h; simp only [spotsLoop]; split
    · exact ih (spotP_bad (acceptP_bad h))
    · split
      · exact ih (hopP_bad (acceptP_bad h))
      · exact h
theorem spotsP_bad {st : RS} (h : st.bad = true) : (spotsP st).2.bad = true := by
  unfold spotsP; simp only; split; exact rfl; exact spotsLoop_bad _ (spotP_bad h)
theorem pathLoop_bad (n : Nat) : ∀ {out : List PSpot} {st : RS}, st.bad = true → (pathLoop n out st).2.bad = true := by
  induction n with
  | zero => intro out st h; exact h
  | succ n ih => intro out st h; simp only [pathLoop]; split; exact ih (stepR_bad (hasR_bad h)); exact h
theorem orderP_bad {k : Int} {st : RS} (h : st.bad = true) : (orderP k st).2.bad = true := by
  unfold orderP; split
  · exact acceptP_bad (numberP_bad (expectP_bad (acceptP_bad h)))
  · exact h
theorem orderR_bad {k : Int} {st : RS} (h : st.bad = true) : (orderR k st).2.bad = true := by
  unfold orderR; split
  · exact hasR_bad (countR_bad (mustR_bad (hasR_bad h)))
  · exact h
theorem partP_bad {s : ByteArray} {k : Int} {st : RS} (h : st.bad = true) : (partP s k st).2.bad = true := by
  unfold partP; split; exact numberP_bad (acceptP_bad h); exact h
theorem partR_bad {s : ByteArray} {k : Int} {st : RS} (h : st.bad = true) : (partR s k st).2.bad = true := by
  unfold partR; split; exact countR_bad (hasR_bad h); exact h
theorem linkP_bad {st : RS} (h : st.bad = true) : (linkP st).2.bad = true := by
  unfold linkP; exact expectP_bad (nameP_bad (expectP_bad (expectP_bad (titleP_bad (expectP_bad (expectP_bad (nameP_bad (expectP_bad h))))))))
theorem linkR_bad {st : RS} (h : (mustR kCREATE st).bad = true) : (linkR st).2.bad = true := by
  unfold linkR; exact mustR_bad (nameR_bad (mustR_bad (mustR_bad (titleR_bad (mustR_bad (mustR_bad (nameR_bad (mustR_bad h))))))))
theorem setP_bad {st : RS} (h : st.bad = true) : (setP st).2.bad = true := by unfold setP; exact termP_bad (expectP_bad (propP_bad h))
theorem readP_bad {st : RS} (h : st.bad = true) : (readP st).2.bad = true := by unfold readP; exact partP_bad (partP_bad (orderP_bad (listP_bad itemP_bad h)))
theorem whereP_bad {st : RS} (h : st.bad = true) : (whereP st).2.bad = true := by
  unfold whereP; split; exact listP_bad condP_bad (acceptP_bad h); exact h
theorem actionP_bad {q : PQuery} {st : RS} (h : st.bad = true) : (actionP q st).2.bad = true := by
  unfold actionP; split
  · exact readP_bad (acceptP_bad h)
  · split
    · exact setP_bad (acceptP_bad h)
    · split
      · exact nameP_bad (acceptP_bad h)
      · split
        · exact linkP_bad (acceptP_bad h)
        · rfl

end Go.Proofs.YtobgbmfpicmpcaaGreatDoor.Pure

/- The two readers of queries, as plain functions: where neither fails they do the same, and where one fails the other does: tokens, spots, terms, conditions, items. No program in this text. -/
namespace Go.Proofs.YtobgbmfpicmpcaaGreatDoor.Pure

def lits : List ByteArray := keywords ++ [mOpen, mClose, mColon, mComma, mDot, mDots, mStar, mTo, mArrow, mBrace, mUnbrace, mEq, mNe, mLt, mLe, mGt, mGe]
/-- What is known of a token that came out of a text. -/
structure VT (t : Tok) : Prop where
  lo : t.kind = 2 → -1000000000 ≤ t.val
  hi : t.kind = 2 → t.val ≤ 1000000000
  no : t.kind = 2 → ∀ s ∈ lits, eqB t.text s = false
structure Ok (st : RS) : Prop where
  good : st.bad = false
  all : ∀ t ∈ st.rest, VT t
def AgS (p r : RS) : Prop := (p.bad = true ∧ r.bad = true) ∨ (p = r ∧ Ok p)
def Ag {α : Type} (p r : α × RS) : Prop := (p.2.bad = true ∧ r.2.bad = true) ∨ (p = r ∧ Ok p.2)

variable {st : RS}
theorem peek_eq (h : Ok st) {s : ByteArray} (hs : s ∈ lits) : peekP s st = peekR s st := by
  unfold peekP peekR
  cases hr : st.rest with
  | nil => rfl
  | cons t r =>
    have hv := h.all t (by rw [hr]; simp)
    by_cases hk : t.kind = 2
    · simp only [hv.no hk s hs]; simp
    · simp [hk]
theorem accept_eq (h : Ok st) {s : ByteArray} (hs : s ∈ lits) : acceptP s st = hasR s st := by
  unfold acceptP hasR; rw [peek_eq h hs]
theorem Ok.tail (h : Ok st) : Ok ⟨st.rest.tail, st.bad⟩ := ⟨h.good, fun t ht => h.all t (List.mem_of_mem_tail ht)⟩
theorem Ok.has (h : Ok st) (s : ByteArray) : Ok (hasR s st) := by unfold hasR; split; exact h.tail; exact h
theorem expect_ag (h : Ok st) {s : ByteArray} (hs : s ∈ lits) : AgS (expectP s st) (mustR s st) := by
  unfold expectP mustR
  rw [peek_eq h hs, accept_eq h hs]
  cases peekR s st with
  | true => exact Or.inr ⟨by simp [orBad_false], by simpa using h.has s⟩
  | false => exact Or.inl ⟨rfl, orBad_true _⟩
theorem kindP_one {t : Tok} : kindP t = 1 ↔ t.kind = 1 ∧ isName t.text = true := by
  unfold kindP kindW
  constructor
  · intro h; repeat' split at h
    all_goals first | omega | exact ⟨by assumption, by assumption⟩
  · rintro ⟨h1, h2⟩; simp [h1, h2]
theorem title_name {s : ByteArray} (h : isTitle s = true) : isName s = false := by
  unfold isTitle isName at *
  simp only [Bool.and_eq_true, decide_eq_true_eq] at h
  have : ¬ (97 ≤ bt s 0) := by omega
  simp [this]
theorem kindP_two {t : Tok} : kindP t = 2 ↔ t.kind = 1 ∧ isTitle t.text = true := by
  unfold kindP kindW
  constructor
  · intro h; repeat' split at h
    all_goals first | omega | exact ⟨by assumption, by assumption⟩
  · rintro ⟨h1, h2⟩; simp [h1, h2, title_name h2]
theorem kindP_four {t : Tok} : kindP t = 4 ↔ t.kind = 2 := by
  unfold kindP kindW
  constructor
  · intro h; repeat' split at h
    all_goals first | omega | assumption
  · intro h1; simp [h1]
theorem name_ag (h : Ok st) : Ag (nameP st) (nameR st) := by
  unfold nameP nameR takeP nextR seesP isKind
  cases hr : st.rest with
  | nil => exact Or.inl ⟨rfl, by simp [RS.orBad]⟩
  | cons t r =>
    simp only [kindP_one, decide_eq_true_eq]
    by_cases hk : t.kind = 1
    · by_cases hn : isName t.text = true
      · refine Or.inr ⟨by simp [hk, hn, orBad_false], ?_⟩
        have := h.tail
        rw [hr] at this
        simpa [hk, hn] using this
      · exact Or.inl ⟨by simp [hk, hn, failP], by simp [hk, hn, RS.orBad]⟩
    · exact Or.inl ⟨by simp [hk, failP], by simp [hk, RS.orBad]⟩
theorem title_ag (h : Ok st) : Ag (titleP st) (titleR st) := by
  unfold titleP titleR takeP nextR seesP isKind
  cases hr : st.rest with
  | nil => exact Or.inl ⟨rfl, by simp [RS.orBad]⟩
  | cons t r =>
    simp only [kindP_two, decide_eq_true_eq]
    by_cases hk : t.kind = 1
    · by_cases hn : isTitle t.text = true
      · refine Or.inr ⟨by simp [hk, hn, orBad_false], ?_⟩
        have := h.tail
        rw [hr] at this
        simpa [hk, hn] using this
      · exact Or.inl ⟨by simp [hk, hn, failP], by simp [hk, hn, RS.orBad]⟩
    · exact Or.inl ⟨by simp [hk, failP], by simp [hk, RS.orBad]⟩
theorem number_ag (h : Ok st) (lo hi : Int) : Ag (numberP lo hi st) (countR lo hi st) := by
  unfold numberP countR takeP nextR seesP isKind
  cases hr : st.rest with
  | nil =>
    exact Or.inl ⟨by simp [failP], by simp [RS.orBad]⟩
  | cons t r =>
    simp only [kindP_four, decide_eq_true_eq]
    by_cases hk : t.kind = 2
    · by_cases hn : t.val < lo ∨ hi < t.val
      · refine Or.inl ⟨by simp [hk, hn, failP], ?_⟩
        rcases hn with hn | hn <;> simp [hk, hn, RS.orBad]
      · have h1 : ¬ t.val < lo := fun e => hn (Or.inl e)
        have h2 : ¬ hi < t.val := fun e => hn (Or.inr e)
        refine Or.inr ⟨by simp [hk, h1, h2, orBad_false], ?_⟩
        have := h.tail
        rw [hr] at this
        simpa [hk, h1, h2] using this
    · refine Or.inl ⟨?_, by simp [hk, RS.orBad]⟩
      simp only [hk, if_false]; split <;> rfl

theorem spot_ag (h : Ok st) (x : PSpot) : Ag (spotP x st) (spotR x st) := by
  unfold spotP spotR
  try simp only
  rcases expect_ag h (s := mOpen) (by simp [lits, keywords]) with ⟨a, b⟩ | ⟨e, h1⟩
  · exact Or.inl ⟨by simp only; refine expectP_bad ?_; split; exact titleP_bad (acceptP_bad (nameP_bad a)); exact nameP_bad a, by simp only; refine mustR_bad ?_; split; exact titleR_bad (hasR_bad (nameR_bad b)); exact nameR_bad b⟩
  · rw [← e]
    rcases name_ag h1 with ⟨a, b⟩ | ⟨e2, h2⟩
    · exact Or.inl ⟨by simp only; refine expectP_bad ?_; split; exact titleP_bad (acceptP_bad a); exact a, by simp only; refine mustR_bad ?_; split; exact titleR_bad (hasR_bad b); exact b⟩
    · rw [← e2]
      simp only [peek_eq h2 (s := mColon) (by simp [lits, keywords]), accept_eq h2 (s := mColon) (by simp [lits, keywords])]
      cases peekR mColon (nameP (expectP mOpen st)).2 with
      | false =>
        simp only [Bool.false_eq_true, if_false]
        rcases expect_ag h2 (s := mClose) (by simp [lits, keywords]) with ⟨a, b⟩ | ⟨e3, h3⟩
        · exact Or.inl ⟨a, b⟩
        · exact Or.inr ⟨by simp [e3], h3⟩
      | true =>
        simp only [if_true]
        rcases title_ag (h2.has mColon) with ⟨a, b⟩ | ⟨e3, h3⟩
        · exact Or.inl ⟨expectP_bad a, mustR_bad b⟩
        · rw [← e3]
          rcases expect_ag h3 (s := mClose) (by simp [lits, keywords]) with ⟨a, b⟩ | ⟨e4, h4⟩
          · exact Or.inl ⟨a, b⟩
          · exact Or.inr ⟨by rw [e4], h4⟩
theorem star_ag (h : Ok st) : Ag (starP st) (starR st) := by
  unfold starP starR
  try simp only
  rw [peek_eq h (s := mStar) (by simp [lits, keywords]), accept_eq h (s := mStar) (by simp [lits, keywords])]
  cases peekR mStar st with
  | false => exact Or.inr ⟨rfl, h⟩
  | true =>
    simp only [if_true]
    rcases number_ag (h.has mStar) 0 4 with ⟨a, b⟩ | ⟨e, h1⟩
    · exact Or.inl ⟨numberP_bad (expectP_bad a), countR_bad (mustR_bad b)⟩
    · rw [← e]
      rcases expect_ag h1 (s := mDots) (by simp [lits, keywords]) with ⟨a, b⟩ | ⟨e2, h2⟩
      · exact Or.inl ⟨numberP_bad a, countR_bad b⟩
      · rw [← e2]
        rcases number_ag h2 (numberP 0 4 (hasR mStar st)).1 4 with ⟨a, b⟩ | ⟨e3, h3⟩
        · exact Or.inl ⟨a, b⟩
        · exact Or.inr ⟨by rw [e3], h3⟩
theorem hop_ag (h : Ok st) : Ag (hopP st) (stepR st) := by
  unfold hopP stepP stepR
  try simp only
  rcases title_ag h with ⟨a, b⟩ | ⟨e, h1⟩
  · exact Or.inl ⟨spotP_bad (expectP_bad (starP_bad a)), spotR_bad (mustR_bad (starR_bad b))⟩
  · rw [← e]
    rcases star_ag h1 with ⟨a, b⟩ | ⟨e2, h2⟩
    · exact Or.inl ⟨spotP_bad (expectP_bad a), spotR_bad (mustR_bad b)⟩
    · rw [← e2]
      rcases expect_ag h2 (s := mArrow) (by simp [lits, keywords]) with ⟨a, b⟩ | ⟨e3, h3⟩
      · exact Or.inl ⟨spotP_bad a, spotR_bad b⟩
      · rw [← e3]
        exact spot_ag h3 _
theorem prop_ag (h : Ok st) : Ag (propP st) (((nameR st).1, (nameR (mustR mDot (nameR st).2)).1), (nameR (mustR mDot (nameR st).2)).2) := by
  unfold propP
  try simp only
  rcases name_ag h with ⟨a, b⟩ | ⟨e, h1⟩
  · exact Or.inl ⟨nameP_bad (expectP_bad a), nameR_bad (mustR_bad b)⟩
  · rw [← e]
    rcases expect_ag h1 (s := mDot) (by simp [lits, keywords]) with ⟨a, b⟩ | ⟨e2, h2⟩
    · exact Or.inl ⟨nameP_bad a, nameR_bad b⟩
    · rw [← e2]
      rcases name_ag h2 with ⟨a, b⟩ | ⟨e3, h3⟩
      · exact Or.inl ⟨a, b⟩
      · exact Or.inr ⟨by rw [e3], h3⟩
theorem term_ag (h : Ok st) : Ag (termP st) (termR st) := by
  unfold termP termR
  try simp only
  have hs : seesP 4 st = isKind 2 st := by
    unfold seesP isKind
    cases st.rest with
    | nil => rfl
    | cons t r => simp [kindP_four]
  rw [hs]
  cases hk : isKind 2 st with
  | false =>
    simp only [Bool.false_eq_true, if_false]
    rcases prop_ag h with ⟨a, b⟩ | ⟨e, h1⟩
    · exact Or.inl ⟨a, b⟩
    · refine Or.inr ⟨?_, h1⟩
      rw [e]
  | true =>
    simp only [if_true]
    refine Or.inr ?_
    unfold numberP takeP nextR
    rw [hs, hk]
    unfold isKind at hk
    cases hr : st.rest with
    | nil => rw [hr] at hk; cases hk
    | cons t r =>
      rw [hr] at hk
      simp only [decide_eq_true_eq] at hk
      have hv := h.all t (by rw [hr]; simp)
      have h1 : ¬ t.val < -1000000000 := by have := hv.lo hk; omega
      have h2 : ¬ 1000000000 < t.val := by have := hv.hi hk; omega
      have := h.tail
      rw [hr] at this
      simp only [if_true, List.headD_cons, List.tail_cons, h1, h2, or_self, if_false]
      exact ⟨trivial, this⟩
theorem op_ag (l : List ByteArray) : ∀ (i : Int) (_ : Ok st) (_ : ∀ s ∈ l, s ∈ lits) (_ : 0 < i), Ag (opLoopP l i st) ((opLoop l i st).1, (opLoop l i st).2.orBad (decide ((opLoop l i st).1 = 0))) := by
  induction l with
  | nil => intro i h _ _; exact Or.inl ⟨rfl, by simp [opLoop, RS.orBad]⟩
  | cons m r ih =>
    intro i h hl hi
    simp only [opLoopP, opLoop]
    rw [peek_eq h (hl m (by simp)), accept_eq h (hl m (by simp))]
    by_cases hp : peekR m st = true
    · have : ¬ i = 0 := by omega
      simp only [hp, if_true]
      exact Or.inr ⟨by simp [this, orBad_false], h.has m⟩
    · simp only [hp]
      exact ih (i + 1) h (fun s hs => hl s (by simp [hs])) (by omega)
theorem cond_ag (h : Ok st) : Ag (condP st) (condR st) := by
  unfold condP condR
  try simp only
  rcases term_ag h with ⟨a, b⟩ | ⟨e, h1⟩
  · refine Or.inl ⟨?_, ?_⟩
    · split; exact expectP_bad (acceptP_bad (acceptP_bad a)); exact termP_bad (opLoopP_bad a)
    · split; exact mustR_bad (hasR_bad (hasR_bad b)); exact termR_bad (orBad_bad (opLoop_bad b))
  · rw [← e]
    simp only [peek_eq h1 (s := kIS) (by simp [lits, keywords]), accept_eq h1 (s := kIS) (by simp [lits, keywords])]
    cases peekR kIS (termP st).2 with
    | true =>
      have h2 := h1.has kIS
      simp only [if_true, peek_eq h2 (s := kNOT) (by simp [lits, keywords]), accept_eq h2 (s := kNOT) (by simp [lits, keywords])]
      rcases expect_ag (h2.has kNOT) (s := kNULL) (by simp [lits, keywords]) with ⟨a, b⟩ | ⟨e3, h3⟩
      · exact Or.inl ⟨a, b⟩
      · exact Or.inr ⟨by rw [e3], h3⟩
    | false =>
      simp only [Bool.false_eq_true, if_false]
      rcases op_ag opsR 1 h1 (by simp [opsR, lits]) (by decide) with ⟨a, b⟩ | ⟨e2, h2⟩
      · exact Or.inl ⟨termP_bad a, termR_bad b⟩
      · have e3 : (opLoop opsR 1 (termP st).2).2.orBad (decide ((opLoop opsR 1 (termP st).2).1 = 0)) = (opLoopP opsR 1 (termP st).2).2 := by rw [e2]
        have e4 : (opLoop opsR 1 (termP st).2).1 = (opLoopP opsR 1 (termP st).2).1 := by rw [e2]
        rw [e3, e4]
        rcases term_ag h2 with ⟨a, b⟩ | ⟨e5, h5⟩
        · exact Or.inl ⟨a, b⟩
        · exact Or.inr ⟨by rw [e5], h5⟩
theorem item_ag (h : Ok st) : Ag (itemP st) (itemR st) := by
  unfold itemP itemR
  try simp only
  rw [peek_eq h (s := kCOUNT) (by simp [lits, keywords]), accept_eq h (s := kCOUNT) (by simp [lits, keywords])]
  cases peekR kCOUNT st with
  | true => exact Or.inr ⟨rfl, h.has kCOUNT⟩
  | false =>
    simp only [Bool.false_eq_true, if_false]
    rcases name_ag h with ⟨a, b⟩ | ⟨e, h1⟩
    · refine Or.inl ⟨?_, ?_⟩
      · split; exact nameP_bad (acceptP_bad a); exact a
      · split; exact nameR_bad (hasR_bad b); exact b
    · rw [← e]
      rw [peek_eq h1 (s := mDot) (by simp [lits, keywords]), accept_eq h1 (s := mDot) (by simp [lits, keywords]), h1.good]
      cases peekR mDot (nameP st).2 with
      | false => exact Or.inr ⟨rfl, h1⟩
      | true =>
        simp only [Bool.not_false, Bool.and_self, if_true]
        rcases name_ag (h1.has mDot) with ⟨a, b⟩ | ⟨e2, h2⟩
        · exact Or.inl ⟨a, b⟩
        · exact Or.inr ⟨by rw [e2], h2⟩

end Go.Proofs.YtobgbmfpicmpcaaGreatDoor.Pure

/- The two readers of queries, as plain functions: lists, paths, matches, what stands behind them. No program in this text. -/
namespace Go.Proofs.YtobgbmfpicmpcaaGreatDoor.Pure
variable {st : RS}

/-- The reference's loops over a list, all in one. -/
def loopR {α : Type} (one : RS → α × RS) (sep : ByteArray) : Nat → List α → RS → List α × RS
  | 0, out, st => (out, st)
  | n + 1, out, st => if !(one st).2.bad && peekR sep (one st).2 then loopR one sep n (out ++ [(one st).1]) (hasR sep (one st).2) else (out ++ [(one st).1], (one st).2)
theorem condLoop_eq (n : Nat) : ∀ (out : List PCond) (st : RS), condLoop n out st = loopR condR kAND n out st := by
  induction n with
  | zero => intro out st; rfl
  | succ n ih => intro out st; simp only [condLoop, loopR, ih]
theorem itemLoop_eq (n : Nat) : ∀ (out : List PItem) (st : RS), st.bad = false → itemLoop n out st = loopR itemR mComma n out st := by
  induction n with
  | zero => intro out st _; rfl
  | succ n ih =>
    intro out st h
    simp only [itemLoop, loopR, h]
    by_cases hb : (itemR st).2.bad = true
    · simp [hb]
    · have hb2 : (itemR st).2.bad = false := by simpa using hb
      rw [ih _ _ (by rw [hasR_keeps]; exact hb2)]
      simp
theorem peekR_some {s : ByteArray} (h : peekR s st = true) : 0 < st.rest.length := by
  unfold peekR at h
  split at h
  · cases h
  · rename_i e; rw [e]; simp

theorem loop_ag {α : Type} {oneP oneR : RS → α × RS} {sep : ByteArray} (hs : sep ∈ lits) (ho : ∀ {st : RS}, Ok st → Ag (oneP st) (oneR st)) (hb : ∀ {st : RS}, st.bad = true → (oneP st).2.bad = true) (hl : ∀ {st : RS}, Ok st → (oneP st).2.rest.length ≤ st.rest.length) (n : Nat) :
    ∀ (m : Nat) (out : List α) (st : RS), Ok st → st.rest.length < n → (oneP st).2.rest.length ≤ m → Ag (listLoop oneP sep m (out ++ [(oneP st).1]) (oneP st).2) (loopR oneR sep n out st) := by
  induction n with
  | zero => intro m out st h h1 _; omega
  | succ n ih =>
    intro m out st h h1 h2
    simp only [loopR]
    have hl1 := hl h
    rcases ho h with ⟨a, b⟩ | ⟨e, k⟩
    · exact Or.inl ⟨listLoop_bad hb _ a, by simp [b]⟩
    · rw [← e]
      rw [k.good]
      by_cases hp : peekR sep (oneP st).2 = true
      · have h3 := peekR_some hp
        have h4 := hasR_less hp
        obtain ⟨m, rfl⟩ : ∃ m', m = m' + 1 := ⟨m - 1, by omega⟩
        simp only [listLoop, peek_eq k hs, accept_eq k hs, hp, Bool.not_false, Bool.and_self, if_true]
        have hl2 := hl (k.has sep)
        exact ih m _ _ (k.has sep) (by omega) (by omega)
      · have e2 : listLoop oneP sep m (out ++ [(oneP st).1]) (oneP st).2 = (out ++ [(oneP st).1], (oneP st).2) := by
          cases m with
          | zero => rfl
          | succ m => simp only [listLoop, peek_eq k hs, hp]; rfl
        rw [e2]
        simp only [hp]
        exact Or.inr ⟨rfl, k⟩
/-- A list, up to its bound. -/
theorem list_ag {α : Type} {oneP oneR : RS → α × RS} {sep : ByteArray} (hs : sep ∈ lits) (ho : ∀ {st : RS}, Ok st → Ag (oneP st) (oneR st)) (hb : ∀ {st : RS}, st.bad = true → (oneP st).2.bad = true) (hl : ∀ {st : RS}, Ok st → (oneP st).2.rest.length ≤ st.rest.length) (h : Ok st) {n : Nat} (hn : st.rest.length < n) :
    Ag (listP oneP sep 6 st) ((loopR oneR sep n [] st).1, (loopR oneR sep n [] st).2.orBad (decide (6 < (loopR oneR sep n [] st).1.length))) := by
  have h1 := loop_ag hs ho hb hl n _ [] st h hn (Nat.le_refl _)
  unfold listP
  simp only [List.nil_append] at h1 ⊢
  rcases h1 with ⟨a, b⟩ | ⟨e, k⟩
  · exact Or.inl ⟨by simp only; split; rfl; exact a, orBad_bad b⟩
  · rw [← e]
    by_cases h6 : 6 < (listLoop oneP sep (oneP st).2.rest.length [(oneP st).1] (oneP st).2).1.length
    · exact Or.inl ⟨by simp only [h6, if_true]; rfl, by simp only [h6, decide_true]; exact orBad_true _⟩
    · refine Or.inr ⟨by simp only [h6, if_false, decide_false, orBad_false], ?_⟩
      simp only [h6, if_false]
      exact k

theorem acceptP_len (s : ByteArray) (st : RS) : (acceptP s st).rest.length ≤ st.rest.length := by
  unfold acceptP; split
  · simp [List.length_tail]
  · exact Nat.le_refl _
theorem expectP_len (s : ByteArray) (st : RS) : (expectP s st).rest.length ≤ st.rest.length := by
  unfold expectP; split; exact acceptP_len s st; simp [failP]
theorem takeP_len (k : Int) (st : RS) : (takeP k st).2.rest.length ≤ st.rest.length := by
  unfold takeP; split
  · simp [List.length_tail]
  · simp [failP]
theorem nameP_len (st : RS) : (nameP st).2.rest.length ≤ st.rest.length := takeP_len 1 st
theorem titleP_len (st : RS) : (titleP st).2.rest.length ≤ st.rest.length := takeP_len 2 st
theorem numberP_len (lo hi : Int) (st : RS) : (numberP lo hi st).2.rest.length ≤ st.rest.length := by
  unfold numberP; simp only; split; simp [failP]; exact takeP_len 4 st
theorem termP_len (st : RS) : (termP st).2.rest.length ≤ st.rest.length := by
  unfold termP propP; split
  · exact numberP_len _ _ _
  · have h1 := nameP_len st; have h2 := expectP_len mDot (nameP st).2; have h3 := nameP_len (expectP mDot (nameP st).2); simp only; omega
theorem opLoopP_len (l : List ByteArray) : ∀ (i : Int) (st : RS), (opLoopP l i st).2.rest.length ≤ st.rest.length := by
  induction l with
  | nil => intro i st; simp [opLoopP, failP]
  | cons m r ih => intro i st; simp only [opLoopP]; split; exact acceptP_len m st; exact ih _ _
theorem condP_len (st : RS) : (condP st).2.rest.length ≤ st.rest.length := by
  unfold condP; simp only
  have h1 := termP_len st
  split
  · have h2 := acceptP_len kIS (termP st).2; have h3 := acceptP_len kNOT (acceptP kIS (termP st).2); have h4 := expectP_len kNULL (acceptP kNOT (acceptP kIS (termP st).2)); simp only; omega
  · have h2 := opLoopP_len opsR 1 (termP st).2; have h3 := termP_len (opLoopP opsR 1 (termP st).2).2; simp only; omega
theorem itemP_len (st : RS) : (itemP st).2.rest.length ≤ st.rest.length := by
  unfold itemP; split
  · exact acceptP_len _ _
  · simp only
    have h1 := nameP_len st
    split
    · have h2 := acceptP_len mDot (nameP st).2; have h3 := nameP_len (acceptP mDot (nameP st).2); simp only; omega
    · exact h1
theorem pairP_len (st : RS) : (pairP st).2.rest.length ≤ st.rest.length := by
  unfold pairP; simp only
  have h1 := nameP_len st; have h2 := expectP_len mColon (nameP st).2; have h3 := numberP_len (-1000000000) 1000000000 (expectP mColon (nameP st).2); omega
theorem spotP_len (x : PSpot) (st : RS) : (spotP x st).2.rest.length ≤ st.rest.length := by
  unfold spotP; simp only
  refine Nat.le_trans (expectP_len _ _) ?_
  have h1 := expectP_len mOpen st
  have h2 := nameP_len (expectP mOpen st)
  split
  · have h3 := titleP_len (acceptP mColon (nameP (expectP mOpen st)).2); have h4 := acceptP_len mColon (nameP (expectP mOpen st)).2; omega
  · simp only; omega

/-- No token is two words. -/
theorem peekR_two {a b : ByteArray} (h : peekR a st = true) (hab : a.toList ≠ b.toList) : peekR b st = false := by
  unfold peekR at *
  cases hr : st.rest with
  | nil => rfl
  | cons t r =>
    rw [hr] at h
    simp only [Bool.and_eq_true] at h
    unfold eqB at *
    have h1 : t.text.toList = a.toList := by simpa using h.2
    simp only [h1]
    simp [hab]

/-- Paths, flat and nested. -/
theorem spots_ag (k : Nat) : ∀ (st : RS), Ok st → st.rest.length ≤ k → ∀ (fp f1 f2 : Nat) (out acc : List PSpot), st.rest.length ≤ fp → st.rest.length ≤ f1 → st.rest.length ≤ f2 →
    Ag (spotsLoop fp (out ++ acc) st) (if !(pathLoop f1 acc st).2.bad && peekR mComma (pathLoop f1 acc st).2 then matchLoop f2 (out ++ (pathLoop f1 acc st).1) (hasR mComma (pathLoop f1 acc st).2) else (out ++ (pathLoop f1 acc st).1, (pathLoop f1 acc st).2)) := by
  induction k with
  | zero =>
    intro st h hk fp f1 f2 out acc _ _ _
    have hr : st.rest = [] := List.length_eq_zero_iff.1 (by omega)
    have p1 : ∀ s, peekR s st = false := fun s => by unfold peekR; rw [hr]
    have p2 : ∀ s, peekP s st = false := fun s => by unfold peekP; rw [hr]
    have e1 : pathLoop f1 acc st = (acc, st) := by cases f1 with | zero => rfl | succ n => simp [pathLoop, p1]
    have e2 : spotsLoop fp (out ++ acc) st = (out ++ acc, st) := by cases fp with | zero => rfl | succ n => simp [spotsLoop, p2]
    rw [e1, e2]
    simp only [p1, Bool.and_false]
    exact Or.inr ⟨rfl, h⟩
  | succ k ih =>
    intro st h hk fp f1 f2 out acc hp h1 h2
    by_cases ht : peekR mTo st = true
    · have hc : peekR mComma st = false := peekR_two ht (by decide +kernel)
      have h3 := peekR_some ht
      have h4 := hasR_less ht
      obtain ⟨fp, rfl⟩ : ∃ m', fp = m' + 1 := ⟨fp - 1, by omega⟩
      obtain ⟨f1, rfl⟩ : ∃ m', f1 = m' + 1 := ⟨f1 - 1, by omega⟩
      have k1 := h.has mTo
      simp only [spotsLoop, pathLoop, peek_eq h (s := mComma) (by simp [lits, keywords]), peek_eq h (s := mTo) (by simp [lits, keywords]), accept_eq h (s := mTo) (by simp [lits, keywords]), hc, ht, h.good, Bool.not_false, Bool.and_self, if_true, Bool.false_eq_true, if_false]
      rcases hop_ag k1 with ⟨a, b⟩ | ⟨e, k2⟩
      · refine Or.inl ⟨spotsLoop_bad _ a, ?_⟩
        have hb := pathLoop_bad f1 (out := acc ++ [(stepR (hasR mTo st)).1]) b
        simp [hb]
      · rw [← e]
        have hl := stepR_len (hasR mTo st)
        rw [← e] at hl
        have := ih (hopP (hasR mTo st)).2 k2 (by omega) fp f1 f2 out (acc ++ [(hopP (hasR mTo st)).1]) (by omega) (by omega) (by omega)
        rw [← List.append_assoc] at this
        exact this
    · have e1 : pathLoop f1 acc st = (acc, st) := by cases f1 with | zero => rfl | succ n => simp [pathLoop, ht]
      rw [e1]
      simp only [h.good]
      by_cases hc : peekR mComma st = true
      · have h3 := peekR_some hc
        have h4 := hasR_less hc
        obtain ⟨fp, rfl⟩ : ∃ m', fp = m' + 1 := ⟨fp - 1, by omega⟩
        obtain ⟨f2, rfl⟩ : ∃ m', f2 = m' + 1 := ⟨f2 - 1, by omega⟩
        have k1 := h.has mComma
        simp only [spotsLoop, matchLoop, peek_eq h (s := mComma) (by simp [lits, keywords]), accept_eq h (s := mComma) (by simp [lits, keywords]), hc, k1.good, Bool.not_false, Bool.and_self, if_true, Bool.false_eq_true, if_false]
        unfold pathR
        rcases spot_ag k1 spot0 with ⟨a, b⟩ | ⟨e, k2⟩
        · refine Or.inl ⟨spotsLoop_bad _ a, ?_⟩
          have hb := pathLoop_bad (spotR spot0 (hasR mComma st)).2.rest.length (out := [(spotR spot0 (hasR mComma st)).1]) b
          simp [hb]
        · rw [← e]
          have hl := spotP_len spot0 (hasR mComma st)
          exact ih (spotP spot0 (hasR mComma st)).2 k2 (by omega) fp (spotP spot0 (hasR mComma st)).2.rest.length f2 (out ++ acc) [(spotP spot0 (hasR mComma st)).1] (by omega) (Nat.le_refl _) (by omega)
      · have e2 : spotsLoop fp (out ++ acc) st = (out ++ acc, st) := by
          cases fp with
          | zero => rfl
          | succ n => simp only [spotsLoop, peek_eq h (s := mComma) (by simp [lits, keywords]), peek_eq h (s := mTo) (by simp [lits, keywords]), hc, ht]; rfl
        rw [e2]
        simp only [hc]
        exact Or.inr ⟨rfl, h⟩
/-- All paths of a match, ahead of their bound. -/
theorem paths_ag (h : Ok st) {n : Nat} (hn : st.rest.length < n) : Ag (spotsLoop (spotP spot0 st).2.rest.length [(spotP spot0 st).1] (spotP spot0 st).2) (matchLoop n [] st) := by
  obtain ⟨n, rfl⟩ : ∃ m', n = m' + 1 := ⟨n - 1, by omega⟩
  simp only [matchLoop, h.good]
  unfold pathR
  rcases spot_ag h spot0 with ⟨a, b⟩ | ⟨e, k2⟩
  · refine Or.inl ⟨spotsLoop_bad _ a, ?_⟩
    have hb := pathLoop_bad (spotR spot0 st).2.rest.length (out := [(spotR spot0 st).1]) b
    simp [hb]
  · rw [← e]
    have hl := spotP_len spot0 st
    exact spots_ag _ (spotP spot0 st).2 k2 (Nat.le_refl _) _ (spotP spot0 st).2.rest.length n [] [(spotP spot0 st).1] (Nat.le_refl _) (Nat.le_refl _) (by omega)

end Go.Proofs.YtobgbmfpicmpcaaGreatDoor.Pure

/- The two readers of queries, as plain functions: a make's pairs, what stands behind a match, whole queries; so the two agree on all tokens. No program in this text. -/
namespace Go.Proofs.YtobgbmfpicmpcaaGreatDoor.Pure
variable {st : RS}

/-- A pair of the reference, without a look at the pairs ahead of it. -/
def pair0 (st : RS) : PPair × RS := (⟨(nameR st).1, (countR (-1000000000) 1000000000 (mustR mColon (nameR st).2)).1⟩, (countR (-1000000000) 1000000000 (mustR mColon (nameR st).2)).2)
theorem pair_ag (h : Ok st) : Ag (pairP st) (pair0 st) := by
  unfold pairP pair0
  try simp only
  rcases name_ag h with ⟨a, b⟩ | ⟨e, h1⟩
  · exact Or.inl ⟨numberP_bad (expectP_bad a), countR_bad (mustR_bad b)⟩
  · rw [← e]
    rcases expect_ag h1 (s := mColon) (by simp [lits, keywords]) with ⟨a, b⟩ | ⟨e2, h2⟩
    · exact Or.inl ⟨numberP_bad a, countR_bad b⟩
    · rw [← e2]
      rcases number_ag h2 (-1000000000) 1000000000 with ⟨a, b⟩ | ⟨e3, h3⟩
      · exact Or.inl ⟨a, b⟩
      · exact Or.inr ⟨by rw [e3], h3⟩
theorem pairR_eq (l : List PPair) (st : RS) : pairR l st = ((pair0 st).1, (pair0 st).2.orBad (l.any fun x => eqB x.key (pair0 st).1.key)) := rfl
theorem twiceP_append (b : List PPair) : ∀ (a pre : List PPair), twiceP pre (a ++ b) = (twiceP pre a || twiceP (pre ++ a) b) := by
  intro a
  induction a with
  | nil => intro pre; simp [twiceP]
  | cons x a ih => intro pre; simp only [List.cons_append, twiceP, ih]; simp [Bool.or_assoc]
theorem loopR_more {α : Type} {one : RS → α × RS} {sep : ByteArray} (n : Nat) : ∀ (out : List α) (st : RS), ∃ l, (loopR one sep n out st).1 = out ++ l := by
  induction n with
  | zero => intro out st; exact ⟨[], by simp [loopR]⟩
  | succ n ih =>
    intro out st
    simp only [loopR]
    split
    · obtain ⟨l, hl⟩ := ih (out ++ [(one st).1]) (hasR sep (one st).2)
      exact ⟨(one st).1 :: l, by rw [hl]; simp⟩
    · exact ⟨[(one st).1], rfl⟩
theorem loopR_next {α : Type} {one : RS → α × RS} {sep : ByteArray} (n : Nat) (out : List α) (st : RS) : ∃ l, (loopR one sep (n + 1) out st).1 = (out ++ [(one st).1]) ++ l := by
  simp only [loopR]
  split
  · exact loopR_more n _ _
  · exact ⟨[], by simp⟩
theorem pairs_eq (n : Nat) : ∀ (out : List PPair) (st : RS), st.bad = false → twiceP [] out = false →
    (pairLoop n out st = loopR pair0 mComma n out st ∧ ((loopR pair0 mComma n out st).2.bad = false → twiceP [] (loopR pair0 mComma n out st).1 = false)) ∨
    ((pairLoop n out st).2.bad = true ∧ ((loopR pair0 mComma n out st).2.bad = true ∨ twiceP [] (loopR pair0 mComma n out st).1 = true)) := by
  induction n with
  | zero => intro out st _ ht; exact Or.inl ⟨rfl, fun _ => ht⟩
  | succ n ih =>
    intro out st h ht
    by_cases hb : (pair0 st).2.bad = true
    · refine Or.inl ⟨?_, fun e => ?_⟩
      · have e1 : (pair0 st).2.orBad (out.any fun x => eqB x.key (pair0 st).1.key) = (pair0 st).2 := by
          unfold RS.orBad
          rw [hb]
          cases hq : (pair0 st).2 with
          | mk r b => rw [hq] at hb; simp only at hb; simp [hb]
        simp only [pairLoop, loopR, h, pairR_eq, e1, hb]
        simp
      · simp only [loopR, hb] at e
        simp [hb] at e
    · have hb2 : (pair0 st).2.bad = false := by simpa using hb
      by_cases hd : (out.any fun x => eqB x.key (pair0 st).1.key) = true
      · refine Or.inr ⟨?_, Or.inr ?_⟩
        · simp only [pairLoop, h, pairR_eq, hd, RS.orBad]
          simp
        · obtain ⟨l, hl⟩ := loopR_next (one := pair0) (sep := mComma) n out st
          rw [hl, twiceP_append, twiceP_append]
          simp [twiceP, hd]
      · have hd2 : (out.any fun x => eqB x.key (pair0 st).1.key) = false := by simpa using hd
        have e1 : pairR out st = pair0 st := by rw [pairR_eq, hd2, orBad_false]
        have ht2 : twiceP [] (out ++ [(pair0 st).1]) = false := by rw [twiceP_append, ht]; simp [twiceP, hd2]
        simp only [pairLoop, loopR, h, e1, hb2]
        by_cases hp : peekR mComma (pair0 st).2 = true
        · simp only [hp]
          simpa using ih (out ++ [(pair0 st).1]) (hasR mComma (pair0 st).2) (by rw [hasR_keeps]; exact hb2) ht2
        · simp only [hp]
          exact Or.inl ⟨rfl, fun _ => ht2⟩
theorem creationP_bad {st : RS} (h : (titleP (expectP mOpen st)).2.bad = true) : (creationP st).2.bad = true := by
  unfold creationP; simp only
  by_cases hp : peekP mBrace (titleP (expectP mOpen st)).2 = true
  · simp only [hp, if_true]; split; rfl; exact expectP_bad (expectP_bad (listP_bad pairP_bad (acceptP_bad h)))
  · simp only [hp]; simp only [Bool.false_eq_true, if_false, twiceP]; exact expectP_bad h
theorem makeR_bad {st : RS} (h : (titleR (mustR mOpen st)).2.bad = true) : (makeR st).2.bad = true := by
  unfold makeR; simp only
  refine orBad_bad (mustR_bad ?_)
  have hb : (hasR mBrace (titleR (mustR mOpen st)).2).bad = true := hasR_bad h
  by_cases hp : peekR mBrace (titleR (mustR mOpen st)).2 = true
  · simp only [hp, if_true]; refine mustR_bad ?_; simp [pairLoop, hb]
  · simp only [hp]; exact h
theorem make_ag (h : Ok st) : Ag (creationP st) (makeR st) := by
  have l1 := mustR_len mOpen st
  have l2 := titleR_len (mustR mOpen st)
  rcases expect_ag h (s := mOpen) (by simp [lits, keywords]) with ⟨a, b⟩ | ⟨e, h1⟩
  · exact Or.inl ⟨creationP_bad (titleP_bad a), makeR_bad (titleR_bad b)⟩
  · rcases title_ag h1 with ⟨a, b⟩ | ⟨e2, h2⟩
    · exact Or.inl ⟨creationP_bad a, makeR_bad (by rw [← e]; exact b)⟩
    · unfold creationP makeR
      try simp only
      rw [← e] at l1 l2 ⊢
      rw [← e2] at l2 ⊢
      rw [peek_eq h2 (s := mBrace) (by simp [lits, keywords]), accept_eq h2 (s := mBrace) (by simp [lits, keywords])]
      by_cases hp : peekR mBrace (titleP (expectP mOpen st)).2 = true
      · simp only [hp, if_true]
        have h3 := h2.has mBrace
        have l3 := hasR_len mBrace (titleP (expectP mOpen st)).2
        have hn : (hasR mBrace (titleP (expectP mOpen st)).2).rest.length < st.rest.length + 1 := by omega
        have hpa := list_ag (sep := mComma) (by simp [lits, keywords]) pair_ag pairP_bad (fun {st} _ => pairP_len st) h3 hn
        rcases pairs_eq (st.rest.length + 1) [] (hasR mBrace (titleP (expectP mOpen st)).2) h3.good rfl with ⟨q1, q2⟩ | ⟨q1, q2⟩
        · rw [q1]
          generalize loopR pair0 mComma (st.rest.length + 1) [] (hasR mBrace (titleP (expectP mOpen st)).2) = L at hpa q2 ⊢
          rcases hpa with ⟨a, b⟩ | ⟨e3, h4⟩
          · refine Or.inl ⟨?_, ?_⟩
            · split
              · rfl
              · exact expectP_bad (expectP_bad a)
            · unfold RS.orBad at b ⊢
              simp only [Bool.or_eq_true] at b ⊢
              rcases b with b | b
              · exact Or.inl (mustR_bad (mustR_bad b))
              · exact Or.inr b
          · have hg := h4.good
            rw [e3] at hg h4
            simp only [RS.orBad, Bool.or_eq_false_iff] at hg
            rw [e3]
            simp only at h4 ⊢
            rw [q2 hg.1]
            have e5 : L.2.orBad (decide (6 < L.1.length)) = L.2 := by rw [hg.2, orBad_false]
            rw [e5] at h4 ⊢
            rw [hg.2]
            simp only [Bool.false_eq_true, if_false, orBad_false]
            rcases expect_ag h4 (s := mUnbrace) (by simp [lits, keywords]) with ⟨a, b⟩ | ⟨e6, h6⟩
            · exact Or.inl ⟨expectP_bad a, mustR_bad b⟩
            · rw [← e6]
              rcases expect_ag h6 (s := mClose) (by simp [lits, keywords]) with ⟨a, b⟩ | ⟨e7, h7⟩
              · exact Or.inl ⟨a, b⟩
              · exact Or.inr ⟨by rw [e7], h7⟩
        · refine Or.inl ⟨?_, orBad_bad (mustR_bad (mustR_bad q1))⟩
          rcases hpa with ⟨a, b⟩ | ⟨e3, h4⟩
          · split
            · rfl
            · exact expectP_bad (expectP_bad a)
          · have hg := h4.good
            rw [e3] at hg
            simp only [RS.orBad, Bool.or_eq_false_iff] at hg
            rw [e3]
            simp only
            rcases q2 with q2 | q2
            · rw [hg.1] at q2; cases q2
            · rw [q2]; rfl
      · simp only [hp]
        simp only [Bool.false_eq_true, if_false, twiceP, List.length_nil]
        rcases expect_ag h2 (s := mClose) (by simp [lits, keywords]) with ⟨a, b⟩ | ⟨e7, h7⟩
        · exact Or.inl ⟨a, orBad_bad b⟩
        · refine Or.inr ⟨?_, h7⟩
          rw [e7]
          simp [orBad_false]

end Go.Proofs.YtobgbmfpicmpcaaGreatDoor.Pure

