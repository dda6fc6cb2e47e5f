/- What stands in memory while the owner of a query writes over its lists: the query's copy, the answer's block, the local, the four rows, the four lists of rows. No walk in this text. -/
import Derived.Lib.QuietBelow
import Derived.Test.YtobgbmfpicmpcaaGreatDoorC14
namespace Go.Proofs.YtobgbmfpicmpcaaGreatDoor
open Go.RowKit

structure OwnAt (B : Nat) (W : World) (X R O : Nat) (q : PQuery) (Ms Mc Mi Mp : List Value) (vs vc vi vp : Value) (ns nc ni np : Nat) (xs xc xi xp : List Value) (os oc oi op : Value) (js jc ji jp : Nat) (us uc ui up : List Value) (w : World) : Prop where
  low : Below B W w
  hB : B ≤ W.heap.size
  lx : Loc w X (qC q vs vc vi vp) 29
  lr : Loc w R #[.slice none 0 0, .slice none 0 0, .slice none 0 0, .slice none 0 0] 39
  lo : Loc w O #[os, oc, oi, op] 39
  bx : B ≤ X
  br : B ≤ R
  bo : B ≤ O
  ro : R ≠ O
  rs : w.ownsRow B 85 5 vs ns xs
  ls : w.ownsRow B 22 1 os js us
  ms : ∀ u ∈ us, MarkedK B 85 5 Ms ns w u
  rc : w.ownsRow B 87 7 vc nc xc
  lc : w.ownsRow B 23 1 oc jc uc
  mc : ∀ u ∈ uc, MarkedK B 87 7 Mc nc w u
  ri : w.ownsRow B 89 2 vi ni xi
  li : w.ownsRow B 24 1 oi ji ui
  mi : ∀ u ∈ ui, MarkedK B 89 2 Mi ni w u
  rp : w.ownsRow B 91 2 vp np xp
  lp : w.ownsRow B 27 1 op jp up
  mp : ∀ u ∈ up, MarkedK B 91 2 Mp np w u
variable {B : Nat} {W w w2 : World} {X R O ns nc ni np js jc ji jp : Nat} {q : PQuery} {vs vc vi vp os oc oi op : Value} {Ms Mc Mi Mp xs xc xi xp us uc ui up : List Value}
theorem below_grown {B : Nat} {W w w2 : World} {r : Option Nat} (h : Below B W w) (hB : B ≤ W.heap.size) (g : w.grownBy w2 r) (hr : ∀ x, r = some x → B ≤ x) : Below B W w2 := by
  have hs := h.size
  refine ⟨g.os.trans h.os, g.tape.trans h.tape, g.output.trans h.output, Nat.le_trans hs g.size, fun k hk => (g.block k (by omega) ?_).trans (h.block k hk)⟩
  intro e
  have := hr k e.symm
  omega
theorem OwnAt.quiet (h : OwnAt B W X R O q Ms Mc Mi Mp vs vc vi vp ns nc ni np xs xc xi xp os oc oi op js jc ji jp us uc ui up w) (g : w.grownBy w2 none) : OwnAt B W X R O q Ms Mc Mi Mp vs vc vi vp ns nc ni np xs xc xi xp os oc oi op js jc ji jp us uc ui up w2 :=
  ⟨below_grown h.low h.hB g (fun x e => by cases e), h.hB, h.lx.grown g (by simp), h.lr.grown g (by simp), h.lo.grown g (by simp), h.bx, h.br, h.bo, h.ro, kept_none h.rs g, kept_none h.ls g, fun u hu => (h.ms u hu).quiet g, kept_none h.rc g, kept_none h.lc g, fun u hu => (h.mc u hu).quiet g, kept_none h.ri g, kept_none h.li g, fun u hu => (h.mi u hu).quiet g, kept_none h.rp g, kept_none h.lp g, fun u hu => (h.mp u hu).quiet g⟩
theorem OwnAt.later (h : OwnAt B W X R O q Ms Mc Mi Mp vs vc vi vp ns nc ni np xs xc xi xp os oc oi op js jc ji jp us uc ui up w) (hb : Below w.heap.size w w2) : OwnAt B W X R O q Ms Mc Mi Mp vs vc vi vp ns nc ni np xs xc xi xp os oc oi op js jc ji jp us uc ui up w2 := h.quiet (grown_below hb none)
theorem OwnAt.alloc (h : OwnAt B W X R O q Ms Mc Mi Mp vs vc vi vp ns nc ni np xs xc xi xp os oc oi op js jc ji jp us uc ui up w) (o : Obj) : OwnAt B W X R O q Ms Mc Mi Mp vs vc vi vp ns nc ni np xs xc xi xp os oc oi op js jc ji jp us uc ui up (w.alloc o) := h.quiet (grown_alloc w o none)
theorem OwnAt.drew (h : OwnAt B W X R O q Ms Mc Mi Mp vs vc vi vp ns nc ni np xs xc xi xp os oc oi op js jc ji jp us uc ui up w) (n : Nat) : OwnAt B W X R O q Ms Mc Mi Mp vs vc vi vp ns nc ni np xs xc xi xp os oc oi op js jc ji jp us uc ui up (w.drewN n) := h.quiet (grown_drew w n none)
/-- The row of kind s is written over. -/
theorem OwnAt.fill_s {x2 : List Value} (h : OwnAt B W X R O q Ms Mc Mi Mp vs vc vi vp ns nc ni np xs xc xi xp os oc oi op js jc ji jp [] uc ui up w) (g : w.grownBy w2 vs.ownBlock) (ho : w2.ownsRow B 85 5 vs ns x2) : OwnAt B W X R O q Ms Mc Mi Mp vs vc vi vp ns nc ni np x2 xc xi xp os oc oi op js jc ji jp [] uc ui up w2 :=
  ⟨below_grown h.low h.hB g (fun x e => (h.rs.lt x e).1), h.hB, h.lx.byRow h.rs g (by decide), h.lr.byRow h.rs g (by decide), h.lo.byRow h.rs g (by decide), h.bx, h.br, h.bo, h.ro, ho, h.ls.kept g (row_row h.ls h.rs (by decide)), fun u hu => absurd hu (List.not_mem_nil), h.rc.kept g (row_row h.rc h.rs (by decide)), h.lc.kept g (row_row h.lc h.rs (by decide)), fun u hu => (h.mc u hu).byType h.rs (by decide) g, h.ri.kept g (row_row h.ri h.rs (by decide)), h.li.kept g (row_row h.li h.rs (by decide)), fun u hu => (h.mi u hu).byType h.rs (by decide) g, h.rp.kept g (row_row h.rp h.rs (by decide)), h.lp.kept g (row_row h.lp h.rs (by decide)), fun u hu => (h.mp u hu).byType h.rs (by decide) g⟩
/-- The list of kind s has one row more. -/
theorem OwnAt.list_s {o2 : Value} (h : OwnAt B W X R O q Ms Mc Mi Mp vs vc vi vp ns nc ni np (mC Ms ns) xc xi xp os oc oi op js jc ji jp us uc ui up w) (g : w.grownBy w2 os.ownBlock) (ho : w2.ownsRow B 22 1 o2 (js + 1) (us ++ [vs])) : OwnAt B W X R O q Ms Mc Mi Mp vs vc vi vp ns nc ni np (mC Ms ns) xc xi xp o2 oc oi op (js + 1) jc ji jp (us ++ [vs]) uc ui up (w2.setCell ⟨O, 0, none⟩ o2) := by
  have hl2 : Loc w2 O #[os, oc, oi, op] 39 := h.lo.byRow h.ls g (by decide)
  have g2 := grown_set w2 O 0 o2
  have hr2 := h.rs.kept g (row_row h.rs h.ls (by decide))
  have hX : X ≠ O := by
    intro e
    have h1 := h.lx
    have h2 := h.lo
    unfold Loc at h1 h2
    rw [e, h2] at h1
    simp at h1
  refine ⟨below_grown (below_grown h.low h.hB g (fun x e => (h.ls.lt x e).1)) h.hB g2 (fun x e => by injection e with e; rw [← e]; exact h.bo), h.hB, (h.lx.byRow h.ls g (by decide)).setOther hX 0 o2, (h.lr.byRow h.ls g (by decide)).setOther h.ro 0 o2, hl2.set 0 o2, h.bx, h.br, h.bo, h.ro, hr2.kept g2 (Or.inr (row_loc hr2 hl2 (by decide))), ho.kept g2 (Or.inr (row_loc ho hl2 (by decide))), ?_, (h.rc.kept g (row_row h.rc h.ls (by decide))).kept g2 (Or.inr (row_loc (h.rc.kept g (row_row h.rc h.ls (by decide))) hl2 (by decide))), (h.lc.kept g (row_row h.lc h.ls (by decide))).kept g2 (Or.inr (row_loc (h.lc.kept g (row_row h.lc h.ls (by decide))) hl2 (by decide))), fun u hu => ((h.mc u hu).byType h.ls (by decide) g).byLoc hl2 (by decide) g2, (h.ri.kept g (row_row h.ri h.ls (by decide))).kept g2 (Or.inr (row_loc (h.ri.kept g (row_row h.ri h.ls (by decide))) hl2 (by decide))), (h.li.kept g (row_row h.li h.ls (by decide))).kept g2 (Or.inr (row_loc (h.li.kept g (row_row h.li h.ls (by decide))) hl2 (by decide))), fun u hu => ((h.mi u hu).byType h.ls (by decide) g).byLoc hl2 (by decide) g2, (h.rp.kept g (row_row h.rp h.ls (by decide))).kept g2 (Or.inr (row_loc (h.rp.kept g (row_row h.rp h.ls (by decide))) hl2 (by decide))), (h.lp.kept g (row_row h.lp h.ls (by decide))).kept g2 (Or.inr (row_loc (h.lp.kept g (row_row h.lp h.ls (by decide))) hl2 (by decide))), fun u hu => ((h.mp u hu).byType h.ls (by decide) g).byLoc hl2 (by decide) g2⟩
  intro u hu
  rcases List.mem_append.1 hu with hu | hu
  · exact ((h.ms u hu).byType h.ls (by decide) g).byLoc hl2 (by decide) g2
  · rw [List.mem_singleton.1 hu]; exact ⟨ns, Nat.le_refl _, hr2.kept g2 (Or.inr (row_loc hr2 hl2 (by decide)))⟩
/-- The row of kind s has one mark more. -/
theorem OwnAt.grow_s {v2 : Value} (hk : Ms.length = 5) (h : OwnAt B W X R O q Ms Mc Mi Mp vs vc vi vp ns nc ni np (mC Ms ns) xc xi xp os oc oi op js jc ji jp us uc ui up w) (g : w.grownBy w2 vs.ownBlock) (ho : w2.ownsRow B 85 5 v2 (ns + 1) (mC Ms ns ++ Ms)) (hold : w2.ownsRow B 85 5 vs ns (mC Ms ns)) : OwnAt B W X R O q Ms Mc Mi Mp v2 vc vi vp (ns + 1) nc ni np (mC Ms (ns + 1)) xc xi xp os oc oi op js jc ji jp us uc ui up (w2.setCell ⟨X, 1, none⟩ v2) := by
  have hl2 : Loc w2 X (qC q vs vc vi vp) 29 := h.lx.byRow h.rs g (by decide)
  have g2 := grown_set w2 X 1 v2
  have hO : O ≠ X := by
    intro e
    have h1 := h.lo
    have h2 := h.lx
    unfold Loc at h1 h2
    rw [e, h2] at h1
    simp at h1
  have hR : R ≠ X := by
    intro e
    have h1 := h.lr
    have h2 := h.lx
    unfold Loc at h1 h2
    rw [e, h2] at h1
    simp at h1
  rw [mC_succ] at ho
  exact ⟨below_grown (below_grown h.low h.hB g (fun x e => (h.rs.lt x e).1)) h.hB g2 (fun x e => by injection e with e; rw [← e]; exact h.bx), h.hB, hl2.set 1 v2, (h.lr.byRow h.rs g (by decide)).setOther hR 1 v2, (h.lo.byRow h.rs g (by decide)).setOther hO 1 v2, h.bx, h.br, h.bo, h.ro, ho.kept g2 (Or.inr (row_loc ho hl2 (by decide))), (h.ls.kept g (row_row h.ls h.rs (by decide))).kept g2 (Or.inr (row_loc (h.ls.kept g (row_row h.ls h.rs (by decide))) hl2 (by decide))), fun u hu => ((h.ms u hu).grown (by decide) hk h.rs g hold).byLoc hl2 (by decide) g2, (h.rc.kept g (row_row h.rc h.rs (by decide))).kept g2 (Or.inr (row_loc (h.rc.kept g (row_row h.rc h.rs (by decide))) hl2 (by decide))), (h.lc.kept g (row_row h.lc h.rs (by decide))).kept g2 (Or.inr (row_loc (h.lc.kept g (row_row h.lc h.rs (by decide))) hl2 (by decide))), fun u hu => ((h.mc u hu).byType h.rs (by decide) g).byLoc hl2 (by decide) g2, (h.ri.kept g (row_row h.ri h.rs (by decide))).kept g2 (Or.inr (row_loc (h.ri.kept g (row_row h.ri h.rs (by decide))) hl2 (by decide))), (h.li.kept g (row_row h.li h.rs (by decide))).kept g2 (Or.inr (row_loc (h.li.kept g (row_row h.li h.rs (by decide))) hl2 (by decide))), fun u hu => ((h.mi u hu).byType h.rs (by decide) g).byLoc hl2 (by decide) g2, (h.rp.kept g (row_row h.rp h.rs (by decide))).kept g2 (Or.inr (row_loc (h.rp.kept g (row_row h.rp h.rs (by decide))) hl2 (by decide))), (h.lp.kept g (row_row h.lp h.rs (by decide))).kept g2 (Or.inr (row_loc (h.lp.kept g (row_row h.lp h.rs (by decide))) hl2 (by decide))), fun u hu => ((h.mp u hu).byType h.rs (by decide) g).byLoc hl2 (by decide) g2⟩
/-- The row of kind c is written over. -/
theorem OwnAt.fill_c {x2 : List Value} (h : OwnAt B W X R O q Ms Mc Mi Mp vs vc vi vp ns nc ni np xs xc xi xp os oc oi op js jc ji jp us [] ui up w) (g : w.grownBy w2 vc.ownBlock) (ho : w2.ownsRow B 87 7 vc nc x2) : OwnAt B W X R O q Ms Mc Mi Mp vs vc vi vp ns nc ni np xs x2 xi xp os oc oi op js jc ji jp us [] ui up w2 :=
  ⟨below_grown h.low h.hB g (fun x e => (h.rc.lt x e).1), h.hB, h.lx.byRow h.rc g (by decide), h.lr.byRow h.rc g (by decide), h.lo.byRow h.rc g (by decide), h.bx, h.br, h.bo, h.ro, h.rs.kept g (row_row h.rs h.rc (by decide)), h.ls.kept g (row_row h.ls h.rc (by decide)), fun u hu => (h.ms u hu).byType h.rc (by decide) g, ho, h.lc.kept g (row_row h.lc h.rc (by decide)), fun u hu => absurd hu (List.not_mem_nil), h.ri.kept g (row_row h.ri h.rc (by decide)), h.li.kept g (row_row h.li h.rc (by decide)), fun u hu => (h.mi u hu).byType h.rc (by decide) g, h.rp.kept g (row_row h.rp h.rc (by decide)), h.lp.kept g (row_row h.lp h.rc (by decide)), fun u hu => (h.mp u hu).byType h.rc (by decide) g⟩
/-- The list of kind c has one row more. -/
theorem OwnAt.list_c {o2 : Value} (h : OwnAt B W X R O q Ms Mc Mi Mp vs vc vi vp ns nc ni np xs (mC Mc nc) xi xp os oc oi op js jc ji jp us uc ui up w) (g : w.grownBy w2 oc.ownBlock) (ho : w2.ownsRow B 23 1 o2 (jc + 1) (uc ++ [vc])) : OwnAt B W X R O q Ms Mc Mi Mp vs vc vi vp ns nc ni np xs (mC Mc nc) xi xp os o2 oi op js (jc + 1) ji jp us (uc ++ [vc]) ui up (w2.setCell ⟨O, 1, none⟩ o2) := by
  have hl2 : Loc w2 O #[os, oc, oi, op] 39 := h.lo.byRow h.lc g (by decide)
  have g2 := grown_set w2 O 1 o2
  have hr2 := h.rc.kept g (row_row h.rc h.lc (by decide))
  have hX : X ≠ O := by
    intro e
    have h1 := h.lx
    have h2 := h.lo
    unfold Loc at h1 h2
    rw [e, h2] at h1
    simp at h1
  refine ⟨below_grown (below_grown h.low h.hB g (fun x e => (h.lc.lt x e).1)) h.hB g2 (fun x e => by injection e with e; rw [← e]; exact h.bo), h.hB, (h.lx.byRow h.lc g (by decide)).setOther hX 1 o2, (h.lr.byRow h.lc g (by decide)).setOther h.ro 1 o2, hl2.set 1 o2, h.bx, h.br, h.bo, h.ro, (h.rs.kept g (row_row h.rs h.lc (by decide))).kept g2 (Or.inr (row_loc (h.rs.kept g (row_row h.rs h.lc (by decide))) hl2 (by decide))), (h.ls.kept g (row_row h.ls h.lc (by decide))).kept g2 (Or.inr (row_loc (h.ls.kept g (row_row h.ls h.lc (by decide))) hl2 (by decide))), fun u hu => ((h.ms u hu).byType h.lc (by decide) g).byLoc hl2 (by decide) g2, hr2.kept g2 (Or.inr (row_loc hr2 hl2 (by decide))), ho.kept g2 (Or.inr (row_loc ho hl2 (by decide))), ?_, (h.ri.kept g (row_row h.ri h.lc (by decide))).kept g2 (Or.inr (row_loc (h.ri.kept g (row_row h.ri h.lc (by decide))) hl2 (by decide))), (h.li.kept g (row_row h.li h.lc (by decide))).kept g2 (Or.inr (row_loc (h.li.kept g (row_row h.li h.lc (by decide))) hl2 (by decide))), fun u hu => ((h.mi u hu).byType h.lc (by decide) g).byLoc hl2 (by decide) g2, (h.rp.kept g (row_row h.rp h.lc (by decide))).kept g2 (Or.inr (row_loc (h.rp.kept g (row_row h.rp h.lc (by decide))) hl2 (by decide))), (h.lp.kept g (row_row h.lp h.lc (by decide))).kept g2 (Or.inr (row_loc (h.lp.kept g (row_row h.lp h.lc (by decide))) hl2 (by decide))), fun u hu => ((h.mp u hu).byType h.lc (by decide) g).byLoc hl2 (by decide) g2⟩
  intro u hu
  rcases List.mem_append.1 hu with hu | hu
  · exact ((h.mc u hu).byType h.lc (by decide) g).byLoc hl2 (by decide) g2
  · rw [List.mem_singleton.1 hu]; exact ⟨nc, Nat.le_refl _, hr2.kept g2 (Or.inr (row_loc hr2 hl2 (by decide)))⟩
/-- The row of kind c has one mark more. -/
theorem OwnAt.grow_c {v2 : Value} (hk : Mc.length = 7) (h : OwnAt B W X R O q Ms Mc Mi Mp vs vc vi vp ns nc ni np xs (mC Mc nc) xi xp os oc oi op js jc ji jp us uc ui up w) (g : w.grownBy w2 vc.ownBlock) (ho : w2.ownsRow B 87 7 v2 (nc + 1) (mC Mc nc ++ Mc)) (hold : w2.ownsRow B 87 7 vc nc (mC Mc nc)) : OwnAt B W X R O q Ms Mc Mi Mp vs v2 vi vp ns (nc + 1) ni np xs (mC Mc (nc + 1)) xi xp os oc oi op js jc ji jp us uc ui up (w2.setCell ⟨X, 2, none⟩ v2) := by
  have hl2 : Loc w2 X (qC q vs vc vi vp) 29 := h.lx.byRow h.rc g (by decide)
  have g2 := grown_set w2 X 2 v2
  have hO : O ≠ X := by
    intro e
    have h1 := h.lo
    have h2 := h.lx
    unfold Loc at h1 h2
    rw [e, h2] at h1
    simp at h1
  have hR : R ≠ X := by
    intro e
    have h1 := h.lr
    have h2 := h.lx
    unfold Loc at h1 h2
    rw [e, h2] at h1
    simp at h1
  rw [mC_succ] at ho
  exact ⟨below_grown (below_grown h.low h.hB g (fun x e => (h.rc.lt x e).1)) h.hB g2 (fun x e => by injection e with e; rw [← e]; exact h.bx), h.hB, hl2.set 2 v2, (h.lr.byRow h.rc g (by decide)).setOther hR 2 v2, (h.lo.byRow h.rc g (by decide)).setOther hO 2 v2, h.bx, h.br, h.bo, h.ro, (h.rs.kept g (row_row h.rs h.rc (by decide))).kept g2 (Or.inr (row_loc (h.rs.kept g (row_row h.rs h.rc (by decide))) hl2 (by decide))), (h.ls.kept g (row_row h.ls h.rc (by decide))).kept g2 (Or.inr (row_loc (h.ls.kept g (row_row h.ls h.rc (by decide))) hl2 (by decide))), fun u hu => ((h.ms u hu).byType h.rc (by decide) g).byLoc hl2 (by decide) g2, ho.kept g2 (Or.inr (row_loc ho hl2 (by decide))), (h.lc.kept g (row_row h.lc h.rc (by decide))).kept g2 (Or.inr (row_loc (h.lc.kept g (row_row h.lc h.rc (by decide))) hl2 (by decide))), fun u hu => ((h.mc u hu).grown (by decide) hk h.rc g hold).byLoc hl2 (by decide) g2, (h.ri.kept g (row_row h.ri h.rc (by decide))).kept g2 (Or.inr (row_loc (h.ri.kept g (row_row h.ri h.rc (by decide))) hl2 (by decide))), (h.li.kept g (row_row h.li h.rc (by decide))).kept g2 (Or.inr (row_loc (h.li.kept g (row_row h.li h.rc (by decide))) hl2 (by decide))), fun u hu => ((h.mi u hu).byType h.rc (by decide) g).byLoc hl2 (by decide) g2, (h.rp.kept g (row_row h.rp h.rc (by decide))).kept g2 (Or.inr (row_loc (h.rp.kept g (row_row h.rp h.rc (by decide))) hl2 (by decide))), (h.lp.kept g (row_row h.lp h.rc (by decide))).kept g2 (Or.inr (row_loc (h.lp.kept g (row_row h.lp h.rc (by decide))) hl2 (by decide))), fun u hu => ((h.mp u hu).byType h.rc (by decide) g).byLoc hl2 (by decide) g2⟩
/-- The row of kind i is written over. -/
theorem OwnAt.fill_i {x2 : List Value} (h : OwnAt B W X R O q Ms Mc Mi Mp vs vc vi vp ns nc ni np xs xc xi xp os oc oi op js jc ji jp us uc [] up w) (g : w.grownBy w2 vi.ownBlock) (ho : w2.ownsRow B 89 2 vi ni x2) : OwnAt B W X R O q Ms Mc Mi Mp vs vc vi vp ns nc ni np xs xc x2 xp os oc oi op js jc ji jp us uc [] up w2 :=
  ⟨below_grown h.low h.hB g (fun x e => (h.ri.lt x e).1), h.hB, h.lx.byRow h.ri g (by decide), h.lr.byRow h.ri g (by decide), h.lo.byRow h.ri g (by decide), h.bx, h.br, h.bo, h.ro, h.rs.kept g (row_row h.rs h.ri (by decide)), h.ls.kept g (row_row h.ls h.ri (by decide)), fun u hu => (h.ms u hu).byType h.ri (by decide) g, h.rc.kept g (row_row h.rc h.ri (by decide)), h.lc.kept g (row_row h.lc h.ri (by decide)), fun u hu => (h.mc u hu).byType h.ri (by decide) g, ho, h.li.kept g (row_row h.li h.ri (by decide)), fun u hu => absurd hu (List.not_mem_nil), h.rp.kept g (row_row h.rp h.ri (by decide)), h.lp.kept g (row_row h.lp h.ri (by decide)), fun u hu => (h.mp u hu).byType h.ri (by decide) g⟩
/-- The list of kind i has one row more. -/
theorem OwnAt.list_i {o2 : Value} (h : OwnAt B W X R O q Ms Mc Mi Mp vs vc vi vp ns nc ni np xs xc (mC Mi ni) xp os oc oi op js jc ji jp us uc ui up w) (g : w.grownBy w2 oi.ownBlock) (ho : w2.ownsRow B 24 1 o2 (ji + 1) (ui ++ [vi])) : OwnAt B W X R O q Ms Mc Mi Mp vs vc vi vp ns nc ni np xs xc (mC Mi ni) xp os oc o2 op js jc (ji + 1) jp us uc (ui ++ [vi]) up (w2.setCell ⟨O, 2, none⟩ o2) := by
  have hl2 : Loc w2 O #[os, oc, oi, op] 39 := h.lo.byRow h.li g (by decide)
  have g2 := grown_set w2 O 2 o2
  have hr2 := h.ri.kept g (row_row h.ri h.li (by decide))
  have hX : X ≠ O := by
    intro e
    have h1 := h.lx
    have h2 := h.lo
    unfold Loc at h1 h2
    rw [e, h2] at h1
    simp at h1
  refine ⟨below_grown (below_grown h.low h.hB g (fun x e => (h.li.lt x e).1)) h.hB g2 (fun x e => by injection e with e; rw [← e]; exact h.bo), h.hB, (h.lx.byRow h.li g (by decide)).setOther hX 2 o2, (h.lr.byRow h.li g (by decide)).setOther h.ro 2 o2, hl2.set 2 o2, h.bx, h.br, h.bo, h.ro, (h.rs.kept g (row_row h.rs h.li (by decide))).kept g2 (Or.inr (row_loc (h.rs.kept g (row_row h.rs h.li (by decide))) hl2 (by decide))), (h.ls.kept g (row_row h.ls h.li (by decide))).kept g2 (Or.inr (row_loc (h.ls.kept g (row_row h.ls h.li (by decide))) hl2 (by decide))), fun u hu => ((h.ms u hu).byType h.li (by decide) g).byLoc hl2 (by decide) g2, (h.rc.kept g (row_row h.rc h.li (by decide))).kept g2 (Or.inr (row_loc (h.rc.kept g (row_row h.rc h.li (by decide))) hl2 (by decide))), (h.lc.kept g (row_row h.lc h.li (by decide))).kept g2 (Or.inr (row_loc (h.lc.kept g (row_row h.lc h.li (by decide))) hl2 (by decide))), fun u hu => ((h.mc u hu).byType h.li (by decide) g).byLoc hl2 (by decide) g2, hr2.kept g2 (Or.inr (row_loc hr2 hl2 (by decide))), ho.kept g2 (Or.inr (row_loc ho hl2 (by decide))), ?_, (h.rp.kept g (row_row h.rp h.li (by decide))).kept g2 (Or.inr (row_loc (h.rp.kept g (row_row h.rp h.li (by decide))) hl2 (by decide))), (h.lp.kept g (row_row h.lp h.li (by decide))).kept g2 (Or.inr (row_loc (h.lp.kept g (row_row h.lp h.li (by decide))) hl2 (by decide))), fun u hu => ((h.mp u hu).byType h.li (by decide) g).byLoc hl2 (by decide) g2⟩
  intro u hu
  rcases List.mem_append.1 hu with hu | hu
  · exact ((h.mi u hu).byType h.li (by decide) g).byLoc hl2 (by decide) g2
  · rw [List.mem_singleton.1 hu]; exact ⟨ni, Nat.le_refl _, hr2.kept g2 (Or.inr (row_loc hr2 hl2 (by decide)))⟩
/-- The row of kind i has one mark more. -/
theorem OwnAt.grow_i {v2 : Value} (hk : Mi.length = 2) (h : OwnAt B W X R O q Ms Mc Mi Mp vs vc vi vp ns nc ni np xs xc (mC Mi ni) xp os oc oi op js jc ji jp us uc ui up w) (g : w.grownBy w2 vi.ownBlock) (ho : w2.ownsRow B 89 2 v2 (ni + 1) (mC Mi ni ++ Mi)) (hold : w2.ownsRow B 89 2 vi ni (mC Mi ni)) : OwnAt B W X R O q Ms Mc Mi Mp vs vc v2 vp ns nc (ni + 1) np xs xc (mC Mi (ni + 1)) xp os oc oi op js jc ji jp us uc ui up (w2.setCell ⟨X, 3, none⟩ v2) := by
  have hl2 : Loc w2 X (qC q vs vc vi vp) 29 := h.lx.byRow h.ri g (by decide)
  have g2 := grown_set w2 X 3 v2
  have hO : O ≠ X := by
    intro e
    have h1 := h.lo
    have h2 := h.lx
    unfold Loc at h1 h2
    rw [e, h2] at h1
    simp at h1
  have hR : R ≠ X := by
    intro e
    have h1 := h.lr
    have h2 := h.lx
    unfold Loc at h1 h2
    rw [e, h2] at h1
    simp at h1
  rw [mC_succ] at ho
  exact ⟨below_grown (below_grown h.low h.hB g (fun x e => (h.ri.lt x e).1)) h.hB g2 (fun x e => by injection e with e; rw [← e]; exact h.bx), h.hB, hl2.set 3 v2, (h.lr.byRow h.ri g (by decide)).setOther hR 3 v2, (h.lo.byRow h.ri g (by decide)).setOther hO 3 v2, h.bx, h.br, h.bo, h.ro, (h.rs.kept g (row_row h.rs h.ri (by decide))).kept g2 (Or.inr (row_loc (h.rs.kept g (row_row h.rs h.ri (by decide))) hl2 (by decide))), (h.ls.kept g (row_row h.ls h.ri (by decide))).kept g2 (Or.inr (row_loc (h.ls.kept g (row_row h.ls h.ri (by decide))) hl2 (by decide))), fun u hu => ((h.ms u hu).byType h.ri (by decide) g).byLoc hl2 (by decide) g2, (h.rc.kept g (row_row h.rc h.ri (by decide))).kept g2 (Or.inr (row_loc (h.rc.kept g (row_row h.rc h.ri (by decide))) hl2 (by decide))), (h.lc.kept g (row_row h.lc h.ri (by decide))).kept g2 (Or.inr (row_loc (h.lc.kept g (row_row h.lc h.ri (by decide))) hl2 (by decide))), fun u hu => ((h.mc u hu).byType h.ri (by decide) g).byLoc hl2 (by decide) g2, ho.kept g2 (Or.inr (row_loc ho hl2 (by decide))), (h.li.kept g (row_row h.li h.ri (by decide))).kept g2 (Or.inr (row_loc (h.li.kept g (row_row h.li h.ri (by decide))) hl2 (by decide))), fun u hu => ((h.mi u hu).grown (by decide) hk h.ri g hold).byLoc hl2 (by decide) g2, (h.rp.kept g (row_row h.rp h.ri (by decide))).kept g2 (Or.inr (row_loc (h.rp.kept g (row_row h.rp h.ri (by decide))) hl2 (by decide))), (h.lp.kept g (row_row h.lp h.ri (by decide))).kept g2 (Or.inr (row_loc (h.lp.kept g (row_row h.lp h.ri (by decide))) hl2 (by decide))), fun u hu => ((h.mp u hu).byType h.ri (by decide) g).byLoc hl2 (by decide) g2⟩
/-- The row of kind p is written over. -/
theorem OwnAt.fill_p {x2 : List Value} (h : OwnAt B W X R O q Ms Mc Mi Mp vs vc vi vp ns nc ni np xs xc xi xp os oc oi op js jc ji jp us uc ui [] w) (g : w.grownBy w2 vp.ownBlock) (ho : w2.ownsRow B 91 2 vp np x2) : OwnAt B W X R O q Ms Mc Mi Mp vs vc vi vp ns nc ni np xs xc xi x2 os oc oi op js jc ji jp us uc ui [] w2 :=
  ⟨below_grown h.low h.hB g (fun x e => (h.rp.lt x e).1), h.hB, h.lx.byRow h.rp g (by decide), h.lr.byRow h.rp g (by decide), h.lo.byRow h.rp g (by decide), h.bx, h.br, h.bo, h.ro, h.rs.kept g (row_row h.rs h.rp (by decide)), h.ls.kept g (row_row h.ls h.rp (by decide)), fun u hu => (h.ms u hu).byType h.rp (by decide) g, h.rc.kept g (row_row h.rc h.rp (by decide)), h.lc.kept g (row_row h.lc h.rp (by decide)), fun u hu => (h.mc u hu).byType h.rp (by decide) g, h.ri.kept g (row_row h.ri h.rp (by decide)), h.li.kept g (row_row h.li h.rp (by decide)), fun u hu => (h.mi u hu).byType h.rp (by decide) g, ho, h.lp.kept g (row_row h.lp h.rp (by decide)), fun u hu => absurd hu (List.not_mem_nil)⟩
/-- The list of kind p has one row more. -/
theorem OwnAt.list_p {o2 : Value} (h : OwnAt B W X R O q Ms Mc Mi Mp vs vc vi vp ns nc ni np xs xc xi (mC Mp np) os oc oi op js jc ji jp us uc ui up w) (g : w.grownBy w2 op.ownBlock) (ho : w2.ownsRow B 27 1 o2 (jp + 1) (up ++ [vp])) : OwnAt B W X R O q Ms Mc Mi Mp vs vc vi vp ns nc ni np xs xc xi (mC Mp np) os oc oi o2 js jc ji (jp + 1) us uc ui (up ++ [vp]) (w2.setCell ⟨O, 3, none⟩ o2) := by
  have hl2 : Loc w2 O #[os, oc, oi, op] 39 := h.lo.byRow h.lp g (by decide)
  have g2 := grown_set w2 O 3 o2
  have hr2 := h.rp.kept g (row_row h.rp h.lp (by decide))
  have hX : X ≠ O := by
    intro e
    have h1 := h.lx
    have h2 := h.lo
    unfold Loc at h1 h2
    rw [e, h2] at h1
    simp at h1
  refine ⟨below_grown (below_grown h.low h.hB g (fun x e => (h.lp.lt x e).1)) h.hB g2 (fun x e => by injection e with e; rw [← e]; exact h.bo), h.hB, (h.lx.byRow h.lp g (by decide)).setOther hX 3 o2, (h.lr.byRow h.lp g (by decide)).setOther h.ro 3 o2, hl2.set 3 o2, h.bx, h.br, h.bo, h.ro, (h.rs.kept g (row_row h.rs h.lp (by decide))).kept g2 (Or.inr (row_loc (h.rs.kept g (row_row h.rs h.lp (by decide))) hl2 (by decide))), (h.ls.kept g (row_row h.ls h.lp (by decide))).kept g2 (Or.inr (row_loc (h.ls.kept g (row_row h.ls h.lp (by decide))) hl2 (by decide))), fun u hu => ((h.ms u hu).byType h.lp (by decide) g).byLoc hl2 (by decide) g2, (h.rc.kept g (row_row h.rc h.lp (by decide))).kept g2 (Or.inr (row_loc (h.rc.kept g (row_row h.rc h.lp (by decide))) hl2 (by decide))), (h.lc.kept g (row_row h.lc h.lp (by decide))).kept g2 (Or.inr (row_loc (h.lc.kept g (row_row h.lc h.lp (by decide))) hl2 (by decide))), fun u hu => ((h.mc u hu).byType h.lp (by decide) g).byLoc hl2 (by decide) g2, (h.ri.kept g (row_row h.ri h.lp (by decide))).kept g2 (Or.inr (row_loc (h.ri.kept g (row_row h.ri h.lp (by decide))) hl2 (by decide))), (h.li.kept g (row_row h.li h.lp (by decide))).kept g2 (Or.inr (row_loc (h.li.kept g (row_row h.li h.lp (by decide))) hl2 (by decide))), fun u hu => ((h.mi u hu).byType h.lp (by decide) g).byLoc hl2 (by decide) g2, hr2.kept g2 (Or.inr (row_loc hr2 hl2 (by decide))), ho.kept g2 (Or.inr (row_loc ho hl2 (by decide))), ?_⟩
  intro u hu
  rcases List.mem_append.1 hu with hu | hu
  · exact ((h.mp u hu).byType h.lp (by decide) g).byLoc hl2 (by decide) g2
  · rw [List.mem_singleton.1 hu]; exact ⟨np, Nat.le_refl _, hr2.kept g2 (Or.inr (row_loc hr2 hl2 (by decide)))⟩
/-- The row of kind p has one mark more. -/
theorem OwnAt.grow_p {v2 : Value} (hk : Mp.length = 2) (h : OwnAt B W X R O q Ms Mc Mi Mp vs vc vi vp ns nc ni np xs xc xi (mC Mp np) os oc oi op js jc ji jp us uc ui up w) (g : w.grownBy w2 vp.ownBlock) (ho : w2.ownsRow B 91 2 v2 (np + 1) (mC Mp np ++ Mp)) (hold : w2.ownsRow B 91 2 vp np (mC Mp np)) : OwnAt B W X R O q Ms Mc Mi Mp vs vc vi v2 ns nc ni (np + 1) xs xc xi (mC Mp (np + 1)) os oc oi op js jc ji jp us uc ui up (w2.setCell ⟨X, 16, none⟩ v2) := by
  have hl2 : Loc w2 X (qC q vs vc vi vp) 29 := h.lx.byRow h.rp g (by decide)
  have g2 := grown_set w2 X 16 v2
  have hO : O ≠ X := by
    intro e
    have h1 := h.lo
    have h2 := h.lx
    unfold Loc at h1 h2
    rw [e, h2] at h1
    simp at h1
  have hR : R ≠ X := by
    intro e
    have h1 := h.lr
    have h2 := h.lx
    unfold Loc at h1 h2
    rw [e, h2] at h1
    simp at h1
  rw [mC_succ] at ho
  exact ⟨below_grown (below_grown h.low h.hB g (fun x e => (h.rp.lt x e).1)) h.hB g2 (fun x e => by injection e with e; rw [← e]; exact h.bx), h.hB, hl2.set 16 v2, (h.lr.byRow h.rp g (by decide)).setOther hR 16 v2, (h.lo.byRow h.rp g (by decide)).setOther hO 16 v2, h.bx, h.br, h.bo, h.ro, (h.rs.kept g (row_row h.rs h.rp (by decide))).kept g2 (Or.inr (row_loc (h.rs.kept g (row_row h.rs h.rp (by decide))) hl2 (by decide))), (h.ls.kept g (row_row h.ls h.rp (by decide))).kept g2 (Or.inr (row_loc (h.ls.kept g (row_row h.ls h.rp (by decide))) hl2 (by decide))), fun u hu => ((h.ms u hu).byType h.rp (by decide) g).byLoc hl2 (by decide) g2, (h.rc.kept g (row_row h.rc h.rp (by decide))).kept g2 (Or.inr (row_loc (h.rc.kept g (row_row h.rc h.rp (by decide))) hl2 (by decide))), (h.lc.kept g (row_row h.lc h.rp (by decide))).kept g2 (Or.inr (row_loc (h.lc.kept g (row_row h.lc h.rp (by decide))) hl2 (by decide))), fun u hu => ((h.mc u hu).byType h.rp (by decide) g).byLoc hl2 (by decide) g2, (h.ri.kept g (row_row h.ri h.rp (by decide))).kept g2 (Or.inr (row_loc (h.ri.kept g (row_row h.ri h.rp (by decide))) hl2 (by decide))), (h.li.kept g (row_row h.li h.rp (by decide))).kept g2 (Or.inr (row_loc (h.li.kept g (row_row h.li h.rp (by decide))) hl2 (by decide))), fun u hu => ((h.mi u hu).byType h.rp (by decide) g).byLoc hl2 (by decide) g2, ho.kept g2 (Or.inr (row_loc ho hl2 (by decide))), (h.lp.kept g (row_row h.lp h.rp (by decide))).kept g2 (Or.inr (row_loc (h.lp.kept g (row_row h.lp h.rp (by decide))) hl2 (by decide))), fun u hu => ((h.mp u hu).grown (by decide) hk h.rp g hold).byLoc hl2 (by decide) g2⟩
theorem set_2 (w : World) (g o : Nat) (v0 v1 : Value) : ((w.setCell ⟨g, o, none⟩ v0).setCell ⟨g, o + 1, none⟩ v1) = w.setCells g o [v0, v1] := rfl
theorem set_5 (w : World) (g o : Nat) (v0 v1 v2 v3 v4 : Value) : (((((w.setCell ⟨g, o, none⟩ v0).setCell ⟨g, o + 1, none⟩ v1).setCell ⟨g, o + 2, none⟩ v2).setCell ⟨g, o + 3, none⟩ v3).setCell ⟨g, o + 4, none⟩ v4) = w.setCells g o [v0, v1, v2, v3, v4] := rfl
theorem set_7 (w : World) (g o : Nat) (v0 v1 v2 v3 v4 v5 v6 : Value) : (((((((w.setCell ⟨g, o, none⟩ v0).setCell ⟨g, o + 1, none⟩ v1).setCell ⟨g, o + 2, none⟩ v2).setCell ⟨g, o + 3, none⟩ v3).setCell ⟨g, o + 4, none⟩ v4).setCell ⟨g, o + 5, none⟩ v5).setCell ⟨g, o + 6, none⟩ v6) = w.setCells g o [v0, v1, v2, v3, v4, v5, v6] := rfl

end Go.Proofs.YtobgbmfpicmpcaaGreatDoor

/- A call of a function at a step of a region that draws its order, by its contract. Of no program. -/
namespace Go.Proofs.YtobgbmfpicmpcaaGreatDoor
open Go Go.RowKit

theorem step_call1 {P : Program} (w : World) {ops : Array Oper} {o : Oper} {a : Act} {K : Act → World → Prop} {Q : Exit → Act → World → Prop} {E : Prop} (hgd : o.guard = none) (f : FuncId) (x : Operand) (ts : Array TypeId)
    (hcf : ∀ args w', (callFunc f args).run P w' = .ok (.enter f args) w')
    (ho : o.op = .call { callee := .value (.func f), args := #[x], argTypes := ts }) (v r : Value) (hx : a.eval x = v)
    (hc : Calls P f #[v] w fun e w' => e = .returned r ∧ Below w.heap.size w w') (h : ∀ w', Below w.heap.size w w' → K (a.put o.dst r) w') :
    if Region.wanted o (yielded ops a.tmps) = true then Oper.wp P o a w K Q else E := by
  have hw : Region.wanted o (yielded ops a.tmps) = true := by simp [Region.wanted, hgd]
  rw [if_pos hw]
  unfold Oper.wp execOp
  simp only [ho]
  have e : a.eval (Operand.func f) = .func (.func f) #[] #[] := rfl
  simp [resolve, invoke, hx, e, Deferred.ofValue, hcf]
  rw [Oper.upon_enter]
  refine hc.mono ?_
  rintro e w' ⟨rfl, hb⟩
  exact h w' hb
theorem Tryz.callS (args : Array Value) (w : World) : (callFunc 48 args).run Tryz.prog w = .ok (.enter 48 args) w := by go_simp
theorem Tryz.callC (args : Array Value) (w : World) : (callFunc 49 args).run Tryz.prog w = .ok (.enter 49 args) w := by go_simp
theorem Tryz.callI (args : Array Value) (w : World) : (callFunc 50 args).run Tryz.prog w = .ok (.enter 50 args) w := by go_simp
theorem Tryz.callP (args : Array Value) (w : World) : (callFunc 51 args).run Tryz.prog w = .ok (.enter 51 args) w := by go_simp
theorem Tryz.listS : (Tryz.prog.info? 22).map (fun i => (i.zero, i.size, i.bytes)) = some (some (.slice none 0 0), 1, 24) := by kernel_rfl
theorem Tryz.listC : (Tryz.prog.info? 23).map (fun i => (i.zero, i.size, i.bytes)) = some (some (.slice none 0 0), 1, 24) := by kernel_rfl
theorem Tryz.listI : (Tryz.prog.info? 24).map (fun i => (i.zero, i.size, i.bytes)) = some (some (.slice none 0 0), 1, 24) := by kernel_rfl
theorem Tryz.listP : (Tryz.prog.info? 27).map (fun i => (i.zero, i.size, i.bytes)) = some (some (.slice none 0 0), 1, 24) := by kernel_rfl
theorem slice_one {ao : Option Addr} {n c : Nat} : ∀ u ∈ [Value.slice ao n c], u.oneCell' = true := by
  intro u hu
  simp at hu
  subst hu; rfl
theorem row_shape {w : World} {B k n : Nat} {T : TypeId} {v : Value} {xs : List Value} (h : w.ownsRow B T k v n xs) : ∃ ao cap, v = .slice ao n cap := by
  rcases h.2 with ⟨hv, h0⟩ | ⟨g, cap, cur, hv, _⟩
  · exact ⟨none, 0, by rw [hv, h0]⟩
  · exact ⟨_, cap, hv⟩

end Go.Proofs.YtobgbmfpicmpcaaGreatDoor

/- Lists of marks read as their owner left them. -/
namespace Go.Proofs.YtobgbmfpicmpcaaGreatDoor
open Go.RowKit Go.Sort

/-- What stands in memory while the lists are looked at. -/
structure KAt (B : Nat) (n : Int) (b : UInt8) (W : World) (Z : Nat) (os oc oi op : Value) (us uc ui up : List Value) (w : World) : Prop where
  low : Below W.heap.size W w
  lz : Loc w Z #[os, oc, oi, op] 39
  ls : w.ownsRow B 22 1 os 4 us
  ms : ∀ u ∈ us, MarkedK B 85 5 (mkS n) 3004 w u
  lc : w.ownsRow B 23 1 oc 4 uc
  mc : ∀ u ∈ uc, MarkedK B 87 7 (mkC n) 3004 w u
  li : w.ownsRow B 24 1 oi 4 ui
  mi : ∀ u ∈ ui, MarkedK B 89 2 (mkI b) 3004 w u
  lp : w.ownsRow B 27 1 op 4 up
  mp : ∀ u ∈ up, MarkedK B 91 2 (mkP n) 3004 w u
theorem KAt.later {B : Nat} {n : Int} {b : UInt8} {W w w2 : World} {Z : Nat} {os oc oi op : Value} {us uc ui up : List Value} (h : KAt B n b W Z os oc oi op us uc ui up w) (hb : Below w.heap.size w w2) : KAt B n b W Z os oc oi op us uc ui up w2 := by
  have g := grown_below hb none
  exact ⟨below_of (b := W.heap.size) h.low (grown_below hb _) (Nat.le_refl _), h.lz.grown g (by simp), kept_none h.ls g, fun u hu => (h.ms u hu).quiet g, kept_none h.lc g, fun u hu => (h.mc u hu).quiet g, kept_none h.li g, fun u hu => (h.mi u hu).quiet g, kept_none h.lp g, fun u hu => (h.mp u hu).quiet g⟩
theorem marked_row {B : Nat} {T : TypeId} {k : Nat} {m : List Value} {N len c : Nat} {f : Option Addr} {w : World} (h : MarkedK B T k m N w (.slice f len c)) : w.ownsRow B T k (.slice f len c) len (mC m len) ∧ len ≤ N := by
  obtain ⟨l, h1, h2⟩ := h
  obtain ⟨ao, cap, e⟩ := row_shape h2
  injection e with e1 e2 e3
  subst e2
  exact ⟨h2, h1⟩
theorem marked_at {B : Nat} {T : TypeId} {k : Nat} {m : List Value} {len c g : Nat} {w : World} (hm : m.length = k) (h : w.ownsRow B T k (.slice (some ⟨g, 0, none⟩) len c) len (mC m len)) {j t : Nat} (hj : j < len) (ht : t < k) : w.cell? ⟨g, j * k + t, none⟩ = m[t]? := by
  have : (j + 1) * k ≤ len * k := Nat.mul_le_mul_right k hj
  rw [Nat.succ_mul] at this
  exact (h.cellAt _ (by omega)).trans (mC_at hm hj ht)

set_option maxRecDepth 100000 in
set_option maxHeartbeats 9000000 in
theorem keptLists {B : Nat} {W : World} {n : Int} {b : UInt8} {es ec ei ep : Option Addr} {cs cc ci cp : Nat} {us uc ui up : List Value} (hls : W.ownsRow B 22 1 (.slice es 4 cs) 4 us) (hms : ∀ u ∈ us, MarkedK B 85 5 (mkS n) 3004 W u) (hlc : W.ownsRow B 23 1 (.slice ec 4 cc) 4 uc) (hmc : ∀ u ∈ uc, MarkedK B 87 7 (mkC n) 3004 W u) (hli : W.ownsRow B 24 1 (.slice ei 4 ci) 4 ui) (hmi : ∀ u ∈ ui, MarkedK B 89 2 (mkI b) 3004 W u) (hlp : W.ownsRow B 27 1 (.slice ep 4 cp) 4 up) (hmp : ∀ u ∈ up, MarkedK B 91 2 (mkP n) 3004 W u)
    (hitem : ∀ w, Calls Tryz.prog 50 #[.int .i64 n] w fun e w' => e = .returned (.agg #[.string ⟨#[111, 119, 110]⟩, .string ⟨#[b]⟩]) ∧ Below w.heap.size w w') :
    Calls Tryz.prog 18 #[.agg #[.slice es 4 cs, .slice ec 4 cc, .slice ei 4 ci, .slice ep 4 cp], .int .i64 n] W fun e W' => e = .returned (.bool true) ∧ Below W.heap.size W W' := by
  have g0 := grown_alloc W (.cells #[.slice es 4 cs, .slice ec 4 cc, .slice ei 4 ci, .slice ep 4 cp] 39) none
  have H0 : Hid (KAt B n b W W.heap.size (.slice es 4 cs) (.slice ec 4 cc) (.slice ei 4 ci) (.slice ep 4 cp) us uc ui up (W.alloc (.cells #[.slice es 4 cs, .slice ec 4 cc, .slice ei 4 ci, .slice ep 4 cp] 39))) := ⟨Below.alloc (Below.refl _ _) (Nat.le_refl _) _, Loc.new W _ _, kept_none hls g0, fun u hu => (hms u hu).quiet g0, kept_none hlc g0, fun u hu => (hmc u hu).quiet g0, kept_none hli g0, fun u hu => (hmi u hu).quiet g0, kept_none hlp g0, fun u hu => (hmp u hu).quiet g0⟩
  have Us : Hid (us.length = 4) := by have := hls.1; show _ = _; omega
  have Uc : Hid (uc.length = 4) := by have := hlc.1; show _ = _; omega
  have Ui : Hid (ui.length = 4) := by have := hli.1; show _ = _; omega
  have Up : Hid (up.length = 4) := by have := hlp.1; show _ = _; omega
  clear g0 hls hms hlc hmc hli hmi hlp hmp
  go_enter Tryz.func18, Tryz.ntmps18
  go_wp2_with fail
  obtain ⟨Z, hZ⟩ : ∃ Z, Z = W.heap.size := ⟨_, rfl⟩
  rw [← hZ] at H0 ⊢
  clear hZ
  generalize W.alloc (.cells #[.slice es 4 cs, .slice ec 4 cc, .slice ei 4 ci, .slice ep 4 cp] 39) = W1 at H0 ⊢
  go_loopg [5] 4 (fun m iv w => ∃ k : Nat, iv = .int .i64 (k : Int) ∧ k + m = 4 ∧ KAt B n b W Z (.slice es 4 cs) (.slice ec 4 cc) (.slice ei 4 ci) (.slice ep 4 cp) us uc ui up w)
  case atStart => exact ⟨0, rfl, by omega, H0.out⟩
  case round =>
    obtain ⟨i, rfl, hi, hq⟩ := hrel
    have HQ := Lib.hid hq
    clear hq H0
    by_cases hlt : i < 4
    · have hii : (i : Int) < 4 := by omega
      go_upto_block 1 with fail
      go_cut [6, 7, 8, 9] (fun _ _ _ _ w => KAt B n b W Z (.slice es 4 cs) (.slice ec 4 cc) (.slice ei 4 ci) (.slice ep 4 cp) us uc ui up w)
      case first =>
        go_upto_block 2 with fail
        go_cut [6] (fun _ w => KAt B n b W Z (.slice es 4 cs) (.slice ec 4 cc) (.slice ei 4 ci) (.slice ep 4 cp) us uc ui up w)
        case first =>
          have hu : i < us.length := by have := Us.out; omega
          obtain ⟨len0, _, ho0⟩ := HQ.out.ms us[i] (List.getElem_mem hu)
          obtain ⟨f, c, hsh⟩ := row_shape ho0
          have HSH := Lib.hid hsh
          clear ho0 hsh
          go_wp2_with fail
          go_loopg [6] len0 (fun m iv w => ∃ j : Nat, iv = .int .i64 (j : Int) ∧ j + m = len0 ∧ KAt B n b W Z (.slice es 4 cs) (.slice ec 4 cc) (.slice ei 4 ci) (.slice ep 4 cp) us uc ui up w)
          case atStart => exact ⟨0, rfl, by omega, HQ.out⟩
          case round =>
            obtain ⟨j, rfl, hj, hq⟩ := hrel
            have HR := Lib.hid hq
            clear HQ
            have cz : wr.cell? ⟨Z, 0, none⟩ = some (.slice es 4 cs) := (hq.lz.cell 0).trans rfl
            obtain ⟨ge, ce, he, _⟩ := hq.ls.form (by omega)
            injection he with he1 he2 he3
            subst he1
            clear he2 he3
            have ci : wr.cell? ⟨ge, i, none⟩ = some (.slice f len0 c) := by have := hq.ls.cellAt i (by omega); rw [this, List.getElem?_eq_getElem hu, HSH.out]
            obtain ⟨hrow, hlen⟩ := marked_row (by have := hq.ms _ (List.getElem_mem hu); rw [HSH.out] at this; exact this)
            by_cases hjl : j < len0
            · have hji : (j : Int) < (len0 : Int) := by omega
              obtain ⟨gu, cu, hgu, _⟩ := hrow.form (by omega)
              injection hgu with h1 h2 h3
              subst h1
              clear h2 h3
              have q0 : wr.cell? ⟨gu, j * 5, none⟩ = some (.string ⟨#[111, 119, 110]⟩) := marked_at (m := (mkS n)) rfl hrow hjl (by decide : 0 < 5)
              have q1 : wr.cell? ⟨gu, j * 5 + 1, none⟩ = some (.string ⟨#[]⟩) := marked_at (m := (mkS n)) rfl hrow hjl (by decide : 1 < 5)
              have q2 : wr.cell? ⟨gu, j * 5 + 2, none⟩ = some (.string ⟨#[]⟩) := marked_at (m := (mkS n)) rfl hrow hjl (by decide : 2 < 5)
              have q3 : wr.cell? ⟨gu, j * 5 + 3, none⟩ = some (.int .i64 n) := marked_at (m := (mkS n)) rfl hrow hjl (by decide : 3 < 5)
              have q4 : wr.cell? ⟨gu, j * 5 + 4, none⟩ = some (.int .i64 0) := marked_at (m := (mkS n)) rfl hrow hjl (by decide : 4 < 5)
              have rcz := cell_regrown cz
              have rci := cell_regrown ci
              have rq0 := cell_regrown q0
              have rq1 := cell_regrown q1
              have rq2 := cell_regrown q2
              have rq3 := cell_regrown q3
              have rq4 := cell_regrown q4
              have cB : ∀ d os, Calls Tryz.prog 48 #[.int .i64 n] (grow (redrawn wr d) os) fun e w'' => e = .returned (.agg #[.string ⟨#[111, 119, 110]⟩, .string ⟨#[]⟩, .string ⟨#[]⟩, .int .i64 n, .int .i64 0]) ∧ ∃ p : Regrown, w'' = grow (redrawn wr p.d) p.os := fun d os => Calls.regrown_of (spotMark _ _)
              clear hq hrow
              go_upto_region 7 with fail
              refine wp_region_quiet_below (by kernel_rfl) (by kernel_rfl) ?_
              repeat (quiet_step (exact cB _ _))
              refine wpQuiet_nil ?_
              intro W5 hw5
              have hb5 : Below wr.heap.size wr W5 := by obtain ⟨⟨dq, osq⟩, rfl⟩ := hw5; exact below_regrown wr dq osq
              have H5 := Lib.hid (HR.out.later hb5)
              clear hb5 hw5 cB rcz rci rq0 rq1 rq2 rq3 rq4 cz ci q0 q1 q2 q3 q4
              go_wp2_with fail
              go_roundg (gk - 1)
              case measure => omega
              case rel => exact ⟨j + 1, by simp, by omega, H5.out⟩
            · have hji : ¬ (j : Int) < (len0 : Int) := by omega
              go_wp2_with fail
              go_meet
              case rel => exact HR.out
        case rest =>
          have HK0 := Lib.hid hcut
          clear hcut HQ
          go_upto_block 4 with fail
          go_cut [7] (fun _ w => KAt B n b W Z (.slice es 4 cs) (.slice ec 4 cc) (.slice ei 4 ci) (.slice ep 4 cp) us uc ui up w)
          case first =>
            have hu : i < uc.length := by have := Uc.out; omega
            obtain ⟨len0, _, ho0⟩ := HK0.out.mc uc[i] (List.getElem_mem hu)
            obtain ⟨f, c, hsh⟩ := row_shape ho0
            have HSH := Lib.hid hsh
            clear ho0 hsh
            go_wp2_with fail
            go_loopg [7] len0 (fun m iv w => ∃ j : Nat, iv = .int .i64 (j : Int) ∧ j + m = len0 ∧ KAt B n b W Z (.slice es 4 cs) (.slice ec 4 cc) (.slice ei 4 ci) (.slice ep 4 cp) us uc ui up w)
            case atStart => exact ⟨0, rfl, by omega, HK0.out⟩
            case round =>
              obtain ⟨j, rfl, hj, hq⟩ := hrel
              have HR := Lib.hid hq
              clear HK0
              have cz : wr.cell? ⟨Z, 1, none⟩ = some (.slice ec 4 cc) := (hq.lz.cell 1).trans rfl
              obtain ⟨ge, ce, he, _⟩ := hq.lc.form (by omega)
              injection he with he1 he2 he3
              subst he1
              clear he2 he3
              have ci : wr.cell? ⟨ge, i, none⟩ = some (.slice f len0 c) := by have := hq.lc.cellAt i (by omega); rw [this, List.getElem?_eq_getElem hu, HSH.out]
              obtain ⟨hrow, hlen⟩ := marked_row (by have := hq.mc _ (List.getElem_mem hu); rw [HSH.out] at this; exact this)
              by_cases hjl : j < len0
              · have hji : (j : Int) < (len0 : Int) := by omega
                obtain ⟨gu, cu, hgu, _⟩ := hrow.form (by omega)
                injection hgu with h1 h2 h3
                subst h1
                clear h2 h3
                have q0 : wr.cell? ⟨gu, j * 7, none⟩ = some (.int .i64 n) := marked_at (m := (mkC n)) rfl hrow hjl (by decide : 0 < 7)
                have q1 : wr.cell? ⟨gu, j * 7 + 1, none⟩ = some (.string ⟨#[]⟩) := marked_at (m := (mkC n)) rfl hrow hjl (by decide : 1 < 7)
                have q2 : wr.cell? ⟨gu, j * 7 + 2, none⟩ = some (.string ⟨#[]⟩) := marked_at (m := (mkC n)) rfl hrow hjl (by decide : 2 < 7)
                have q3 : wr.cell? ⟨gu, j * 7 + 3, none⟩ = some (.int .i64 0) := marked_at (m := (mkC n)) rfl hrow hjl (by decide : 3 < 7)
                have q4 : wr.cell? ⟨gu, j * 7 + 4, none⟩ = some (.string ⟨#[]⟩) := marked_at (m := (mkC n)) rfl hrow hjl (by decide : 4 < 7)
                have q5 : wr.cell? ⟨gu, j * 7 + 5, none⟩ = some (.string ⟨#[]⟩) := marked_at (m := (mkC n)) rfl hrow hjl (by decide : 5 < 7)
                have q6 : wr.cell? ⟨gu, j * 7 + 6, none⟩ = some (.int .i64 0) := marked_at (m := (mkC n)) rfl hrow hjl (by decide : 6 < 7)
                have rcz := cell_regrown cz
                have rci := cell_regrown ci
                have rq0 := cell_regrown q0
                have rq1 := cell_regrown q1
                have rq2 := cell_regrown q2
                have rq3 := cell_regrown q3
                have rq4 := cell_regrown q4
                have rq5 := cell_regrown q5
                have rq6 := cell_regrown q6
                have cB : ∀ d os, Calls Tryz.prog 49 #[.int .i64 n] (grow (redrawn wr d) os) fun e w'' => e = .returned (.agg #[.int .i64 n, .string ⟨#[]⟩, .string ⟨#[]⟩, .int .i64 0, .string ⟨#[]⟩, .string ⟨#[]⟩, .int .i64 0]) ∧ ∃ p : Regrown, w'' = grow (redrawn wr p.d) p.os := fun d os => Calls.regrown_of (condMark _ _)
                clear hq hrow
                go_upto_region 12 with fail
                refine wp_region_quiet_below (by kernel_rfl) (by kernel_rfl) ?_
                repeat (quiet_step (exact cB _ _))
                refine wpQuiet_nil ?_
                intro W5 hw5
                have hb5 : Below wr.heap.size wr W5 := by obtain ⟨⟨dq, osq⟩, rfl⟩ := hw5; exact below_regrown wr dq osq
                have H5 := Lib.hid (HR.out.later hb5)
                clear hb5 hw5 cB rcz rci rq0 rq1 rq2 rq3 rq4 rq5 rq6 cz ci q0 q1 q2 q3 q4 q5 q6
                go_wp2_with fail
                go_roundg (gk - 1)
                case measure => omega
                case rel => exact ⟨j + 1, by simp, by omega, H5.out⟩
              · have hji : ¬ (j : Int) < (len0 : Int) := by omega
                go_wp2_with fail
                go_meet
                case rel => exact HR.out
          case rest =>
            have HK1 := Lib.hid hcut
            clear hcut HK0
            go_upto_block 6 with fail
            go_cut [8] (fun _ w => KAt B n b W Z (.slice es 4 cs) (.slice ec 4 cc) (.slice ei 4 ci) (.slice ep 4 cp) us uc ui up w)
            case first =>
              have hu : i < ui.length := by have := Ui.out; omega
              obtain ⟨len0, _, ho0⟩ := HK1.out.mi ui[i] (List.getElem_mem hu)
              obtain ⟨f, c, hsh⟩ := row_shape ho0
              have HSH := Lib.hid hsh
              clear ho0 hsh
              go_wp2_with fail
              go_loopg [8] len0 (fun m iv w => ∃ j : Nat, iv = .int .i64 (j : Int) ∧ j + m = len0 ∧ KAt B n b W Z (.slice es 4 cs) (.slice ec 4 cc) (.slice ei 4 ci) (.slice ep 4 cp) us uc ui up w)
              case atStart => exact ⟨0, rfl, by omega, HK1.out⟩
              case round =>
                obtain ⟨j, rfl, hj, hq⟩ := hrel
                have HR := Lib.hid hq
                clear HK1
                have cz : wr.cell? ⟨Z, 2, none⟩ = some (.slice ei 4 ci) := (hq.lz.cell 2).trans rfl
                obtain ⟨ge, ce, he, _⟩ := hq.li.form (by omega)
                injection he with he1 he2 he3
                subst he1
                clear he2 he3
                have ci : wr.cell? ⟨ge, i, none⟩ = some (.slice f len0 c) := by have := hq.li.cellAt i (by omega); rw [this, List.getElem?_eq_getElem hu, HSH.out]
                obtain ⟨hrow, hlen⟩ := marked_row (by have := hq.mi _ (List.getElem_mem hu); rw [HSH.out] at this; exact this)
                by_cases hjl : j < len0
                · have hji : (j : Int) < (len0 : Int) := by omega
                  obtain ⟨gu, cu, hgu, _⟩ := hrow.form (by omega)
                  injection hgu with h1 h2 h3
                  subst h1
                  clear h2 h3
                  have q0 : wr.cell? ⟨gu, j * 2, none⟩ = some (.string ⟨#[111, 119, 110]⟩) := marked_at (m := (mkI b)) rfl hrow hjl (by decide : 0 < 2)
                  have q1 : wr.cell? ⟨gu, j * 2 + 1, none⟩ = some (.string ⟨#[b]⟩) := marked_at (m := (mkI b)) rfl hrow hjl (by decide : 1 < 2)
                  have rcz := cell_regrown cz
                  have rci := cell_regrown ci
                  have rq0 := cell_regrown q0
                  have rq1 := cell_regrown q1
                  have cB : ∀ d os, Calls Tryz.prog 50 #[.int .i64 n] (grow (redrawn wr d) os) fun e w'' => e = .returned (.agg #[.string ⟨#[111, 119, 110]⟩, .string ⟨#[b]⟩]) ∧ ∃ p : Regrown, w'' = grow (redrawn wr p.d) p.os := fun d os => Calls.regrown_of (hitem _)
                  clear hq hrow
                  go_upto_region 17 with fail
                  refine wp_region_quiet_below (by kernel_rfl) (by kernel_rfl) ?_
                  repeat (quiet_step (exact cB _ _))
                  refine wpQuiet_nil ?_
                  intro W5 hw5
                  have hb5 : Below wr.heap.size wr W5 := by obtain ⟨⟨dq, osq⟩, rfl⟩ := hw5; exact below_regrown wr dq osq
                  have H5 := Lib.hid (HR.out.later hb5)
                  clear hb5 hw5 cB rcz rci rq0 rq1 cz ci q0 q1
                  go_wp2_with fail
                  go_roundg (gk - 1)
                  case measure => omega
                  case rel => exact ⟨j + 1, by simp, by omega, H5.out⟩
                · have hji : ¬ (j : Int) < (len0 : Int) := by omega
                  go_wp2_with fail
                  go_meet
                  case rel => exact HR.out
            case rest =>
              have HK2 := Lib.hid hcut
              clear hcut HK1
              go_upto_block 8 with fail
              have hu : i < up.length := by have := Up.out; omega
              obtain ⟨len0, _, ho0⟩ := HK2.out.mp up[i] (List.getElem_mem hu)
              obtain ⟨f, c, hsh⟩ := row_shape ho0
              have HSH := Lib.hid hsh
              clear ho0 hsh
              go_wp2_with fail
              go_loopg [9] len0 (fun m iv w => ∃ j : Nat, iv = .int .i64 (j : Int) ∧ j + m = len0 ∧ KAt B n b W Z (.slice es 4 cs) (.slice ec 4 cc) (.slice ei 4 ci) (.slice ep 4 cp) us uc ui up w)
              case atStart => exact ⟨0, rfl, by omega, HK2.out⟩
              case round =>
                obtain ⟨j, rfl, hj, hq⟩ := hrel
                have HR := Lib.hid hq
                clear HK2
                have cz : wr.cell? ⟨Z, 3, none⟩ = some (.slice ep 4 cp) := (hq.lz.cell 3).trans rfl
                obtain ⟨ge, ce, he, _⟩ := hq.lp.form (by omega)
                injection he with he1 he2 he3
                subst he1
                clear he2 he3
                have ci : wr.cell? ⟨ge, i, none⟩ = some (.slice f len0 c) := by have := hq.lp.cellAt i (by omega); rw [this, List.getElem?_eq_getElem hu, HSH.out]
                obtain ⟨hrow, hlen⟩ := marked_row (by have := hq.mp _ (List.getElem_mem hu); rw [HSH.out] at this; exact this)
                by_cases hjl : j < len0
                · have hji : (j : Int) < (len0 : Int) := by omega
                  obtain ⟨gu, cu, hgu, _⟩ := hrow.form (by omega)
                  injection hgu with h1 h2 h3
                  subst h1
                  clear h2 h3
                  have q0 : wr.cell? ⟨gu, j * 2, none⟩ = some (.string ⟨#[111, 119, 110]⟩) := marked_at (m := (mkP n)) rfl hrow hjl (by decide : 0 < 2)
                  have q1 : wr.cell? ⟨gu, j * 2 + 1, none⟩ = some (.int .i64 n) := marked_at (m := (mkP n)) rfl hrow hjl (by decide : 1 < 2)
                  have rcz := cell_regrown cz
                  have rci := cell_regrown ci
                  have rq0 := cell_regrown q0
                  have rq1 := cell_regrown q1
                  have cB : ∀ d os, Calls Tryz.prog 51 #[.int .i64 n] (grow (redrawn wr d) os) fun e w'' => e = .returned (.agg #[.string ⟨#[111, 119, 110]⟩, .int .i64 n]) ∧ ∃ p : Regrown, w'' = grow (redrawn wr p.d) p.os := fun d os => Calls.regrown_of (pairMark _ _)
                  clear hq hrow
                  go_upto_region 22 with fail
                  refine wp_region_quiet_below (by kernel_rfl) (by kernel_rfl) ?_
                  repeat (quiet_step (exact cB _ _))
                  refine wpQuiet_nil ?_
                  intro W5 hw5
                  have hb5 : Below wr.heap.size wr W5 := by obtain ⟨⟨dq, osq⟩, rfl⟩ := hw5; exact below_regrown wr dq osq
                  have H5 := Lib.hid (HR.out.later hb5)
                  clear hb5 hw5 cB rcz rci rq0 rq1 cz ci q0 q1
                  go_wp2_with fail
                  go_roundg (gk - 1)
                  case measure => omega
                  case rel => exact ⟨j + 1, by simp, by omega, H5.out⟩
                · have hji : ¬ (j : Int) < (len0 : Int) := by omega
                  go_wp2_with fail
                  go_meet
                  case rel => exact HR.out
      case rest =>
        have H9 := Lib.hid hcut
        clear hcut HQ
        go_wp2_with fail
        go_roundg (gk - 1)
        case measure => omega
        case rel => exact ⟨i + 1, by simp, by omega, H9.out⟩
    · have hii : ¬ (i : Int) < 4 := by omega
      go_wp2_with fail
      refine bodyPost_ret (v := .bool true) ?_ rfl ⟨rfl, HQ.out.low⟩
      simp [results, Tryz.results18, go_sem]

end Go.Proofs.YtobgbmfpicmpcaaGreatDoor

