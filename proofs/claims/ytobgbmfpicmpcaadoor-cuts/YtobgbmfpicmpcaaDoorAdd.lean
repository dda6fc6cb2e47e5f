/- The program's 'add' lays one token behind those gathered; 'addWord' does so where the word is not too long. -/
import Derived.Test.YtobgbmfpicmpcaaDoorInv
import Derived.Deep.QuietTactic
import Derived.BigQuiet
import Derived.Lib.QuietBelow
namespace Go.Proofs.YtobgbmfpicmpcaaDoor
open Go.RowKit Go.Sort

set_option maxHeartbeats 400000 in
theorem clone (t : ByteArray) (w : World) (hlim : t.size ≤ 281474976710656) : Calls Tryd.prog 26 #[.string t] w fun e w' => e = .returned (.string t) ∧ Below w.heap.size w w' := by
  go_enter Tryd.func26, Tryd.ntmps26
  go_wp2_with (go_at_call 30; refine (Tryd.stringslite_Clone t _ hlim).mono ?_; rintro e w' ⟨rfl, hb⟩)
  go_ret
  exact ⟨rfl, hb⟩

theorem own_shape {w : World} {B n : Nat} {v : Value} {xs : List Value} (h : w.ownsRow B 27 3 v (n + 1) xs) : ∃ g cap, v = .slice (some ⟨g, 0, none⟩) (n + 1) cap := by
  rcases h.2 with ⟨_, h0⟩ | ⟨g, cap, cur, rfl, _⟩
  · omega
  · exact ⟨g, cap, rfl⟩
theorem Box.grown {W w2 : World} {b : Nat} {s : ByteArray} {f a : Int} {lv : Value} {o : Obj} {r : Option Nat} (h : Box W b s f a lv) (hg : (W.alloc o).grownBy w2 r) (hne : r ≠ some b) : Box w2 b s f a lv := by
  have h1 : Box (W.alloc o) b s f a lv := h.old ((Below.refl _ _).alloc (Nat.le_refl _) o)
  unfold Box; rw [hg.block b h1.lt (fun e => hne e.symm)]; exact h1

/-- Behind an append to the machine's list and its store. -/
theorem Inv.added {w0 W w2 : World} {b : Nat} {s : ByteArray} {f a : Int} {lv v' : Value} {acc : List Tok} {kd vl : Int} {tx : ByteArray} {o : Obj} (hB : Below w0.heap.size w0 W) (hbge : w0.heap.size ≤ b) (hx : Box W b s f a lv)
    (hown : W.ownsRow w0.heap.size 27 3 lv acc.length (tokCells acc)) (hown' : w2.ownsRow w0.heap.size 27 3 v' (acc.length + 1) (tokCells acc ++ [.int .i64 kd, .string tx, .int .i64 vl])) (hg : (W.alloc o).grownBy w2 lv.ownBlock) :
    Inv w0 b s f a (acc ++ [⟨kd, tx, vl⟩]) (w2.setCell ⟨b, 3, none⟩ v') := by
  have R := rel_append hB (Nat.le_refl _) hown hown' hg
  have hx2 := hx.grown hg (hx.ne hown)
  exact ⟨R.1.setCell hbge _, hbge, v', hx2.setList v', ownsRow_setCell_other R.2 (hx2.ne R.2) _⟩

set_option maxRecDepth 100000 in
set_option maxHeartbeats 1000000 in
theorem add {w0 W : World} {b : Nat} {s : ByteArray} {f a : Nat} {acc : List Tok} (kd vl : Int) (hinv : Inv w0 b s (f : Nat) (a : Nat) acc W) (hs : s.size ≤ 2000) (hfa : f ≤ a) (ha : a ≤ s.size) (hal : acc.length ≤ 2000) :
    Calls Tryd.prog 23 #[.pointer (some ⟨b, 0, none⟩), .int .i64 kd, .int .i64 vl] W fun e W' => e = .returned (.tuple #[]) ∧ Inv w0 b s (f : Nat) (a : Nat) (acc ++ [⟨kd, s.extract f a, vl⟩]) W' := by
  obtain ⟨i0, hi, hz0, hz1, hz2⟩ := info_parts Tryd.info27
  have HI : Hid (Inv w0 b s (f : Nat) (a : Nat) acc W) := hinv
  obtain ⟨lv, hx, ho⟩ := hinv.cut
  obtain ⟨c0, c1, c2, c3⟩ := hx.cells
  have k0 := cell_regrown c0
  have k1 := cell_regrown c1
  have k2 := cell_regrown c2
  have hz : (s.extract f a).size ≤ 281474976710656 := by rw [size_extract' _ _ _ ha]; omega
  have cC : ∀ d os, Calls Tryd.prog 26 #[.string (s.extract f a)] (grow (redrawn W d) os) fun e w'' => e = .returned (.string (s.extract f a)) ∧ ∃ p : Regrown, w'' = grow (redrawn W p.d) p.os := fun d os => Calls.regrown_of (clone _ _ hz)
  clear hinv hx ho c0 c1 c2 c3 hz
  go_enter Tryd.func23, Tryd.ntmps23
  go_wp2
  refine wp_region_quiet_below (by kernel_rfl) (by kernel_rfl) ?_
  repeat (quiet_step (exact cC _ _))
  refine wpQuiet_nil ?_
  intro W1 hw'
  have hI1 : Inv w0 b s (f : Nat) (a : Nat) acc W1 := by
    obtain ⟨⟨dq, osq⟩, rfl⟩ := hw'
    exact HI.out.old (below_regrown W dq osq)
  clear hw' cC k0 k1 k2 HI
  have hB1 := hI1.below
  have hsz := hB1.size
  have HB : Hid (Below w0.heap.size w0 W1) := hB1
  have hbge := hI1.bge
  obtain ⟨lv, hx, ho⟩ := hI1.cut
  have HX : Hid (Box W1 b s (f : Nat) (a : Nat) lv) := hx
  obtain ⟨c0, c1, c2, c3⟩ := hx.cells
  clear hB1 hI1 hx c0 c1 c2
  go_wp2_with (at_builtin; refine wpList_append_own _ rfl _ _ 22 rfl w0.heap.size 27 i0 (.agg #[.int .i64 0, .string ⟨#[]⟩, .int .i64 0]) 3 32 Tryd.underlying22 hi hz0 hz1 hz2 rfl (by decide) _ _ _ rfl (ho.alloc _) _ 1 1 [.int .i64 kd, .string (s.extract f a), .int .i64 vl] rfl rfl three_cells three_one (by unfold maxLen; omega) (by omega) (by simp; omega) ?_; intro v' w2 hown' hgrow _; have hx2 := HX.out.grown hgrow (HX.out.ne ho); have cc3 := hx2.cells.2.2.2; have ff3 := hx2.free 3; obtain ⟨gg, gcap, hshape⟩ := own_shape hown'; subst hshape)
  go_end0
  exact ⟨rfl, Inv.added HB.out hbge HX.out ho hown' hgrow⟩

end Go.Proofs.YtobgbmfpicmpcaaDoor
