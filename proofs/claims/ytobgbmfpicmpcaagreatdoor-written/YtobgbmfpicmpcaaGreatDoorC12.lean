/- The program's parser: a make. -/
import Derived.Deep.Onto
import Derived.Test.YtobgbmfpicmpcaaGreatDoorC11
namespace Go.Proofs.YtobgbmfpicmpcaaGreatDoor
open Go.RowKit

/-- A call that answers a query, kept in a block. -/
theorem retOne {fn : Func} {tmps : Array Value} {w : World} {X c : Nat} {cs : Array Value} (hr : fn.results = #[.cell c 29]) (hc : tmps[c]?.getD undef = .pointer (some ⟨X, 0, none⟩)) (hL : Loc w X cs 29) (hs : cs.size = 17) :
    (results fn tmps).run Tryz.prog w = .ok (.agg cs) w := by
  have hl := run_loadVar_mid (P := Tryz.prog) w X 0 29 cs.toList _ hL.range Tryz.underlying29 rfl (by rw [Tryz.sizeQuery]; simp [hs])
  unfold results
  rw [hr]
  simp [hc, hl, asAddr]
theorem grown_far {a w w2 : World} {b X : Nat} (h : a.grownBy w (some b)) (g : w.grownBy w2 (some X)) (hX : a.heap.size ≤ X) : a.grownBy w2 (some b) :=
  ⟨g.os.trans h.os, g.tape.trans h.tape, g.output.trans h.output, Nat.le_trans h.size g.size, fun k hk hne => (g.block k (Nat.lt_of_lt_of_le hk h.size) (by intro e; injection e with e; omega)).trans (h.block k hk hne)⟩

theorem listLoop_count {α : Type} {one : RS → α × RS} {sep : ByteArray} (n : Nat) : ∀ (out : List α) (st : RS), (listLoop one sep n out st).1.length ≤ out.length + n := by
  induction n with
  | zero => intro out st; exact Nat.le_refl _
  | succ n ih =>
    intro out st
    simp only [listLoop]
    split
    · have := ih (out ++ [(one (acceptP sep st)).1]) (one (acceptP sep st)).2
      rw [List.length_append] at this
      simp only [List.length_singleton] at this
      omega
    · simp only; omega
theorem listPair_len {sep : ByteArray} {st : RS} (h : st.rest.length ≤ 2000) : (listP pairP sep 6 st).1.length ≤ 3000 := by
  have h1 := listLoop_count (one := pairP) (sep := sep) (pairP st).2.rest.length [(pairP st).1] (pairP st).2
  have h2 := Pure.pairP_len st
  unfold listP
  simp only [List.length_singleton] at h1 ⊢
  omega

set_option maxRecDepth 100000 in
set_option maxHeartbeats 4000000 in
theorem creation_ {b G : Nat} {st : RS} {W : World} (h : PI b G st W) (hl : st.rest.length ≤ 2000) :
    Calls Tryz.prog 96 #[.pointer (some ⟨b, 0, none⟩)] W fun e W' => ∃ vp, e = .returned (.agg (qC { query0 with kind := 5, label := (creationP st).1.1, pairs := (creationP st).1.2 } (.slice none 0 0) (.slice none 0 0) (.slice none 0 0) vp)) ∧ W'.ownsRow W.heap.size 91 2 vp (creationP st).1.2.length (pairCells (creationP st).1.2) ∧ PI b G (creationP st).2 W' ∧ W.grownBy W' (some b) := by
  have g0 := grown_alloc W (.cells #[.int .i64 0, .slice none 0 0, .slice none 0 0, .slice none 0 0, .int .i64 0, .bool false, .int .i64 0, .int .i64 0, .string ⟨#[]⟩, .string ⟨#[]⟩, .string ⟨#[]⟩, .string ⟨#[]⟩, .int .i64 0, .string ⟨#[]⟩, .string ⟨#[]⟩, .string ⟨#[]⟩, .slice none 0 0] 29) none
  have HP := Lib.hid (h.quiet g0)
  have HL0 := Lib.hid (Loc.new W #[.int .i64 0, .slice none 0 0, .slice none 0 0, .slice none 0 0, .int .i64 0, .bool false, .int .i64 0, .int .i64 0, .string ⟨#[]⟩, .string ⟨#[]⟩, .string ⟨#[]⟩, .string ⟨#[]⟩, .int .i64 0, .string ⟨#[]⟩, .string ⟨#[]⟩, .string ⟨#[]⟩, .slice none 0 0] 29)
  have HG0 := Lib.hid (grown_alloc W (.cells #[.int .i64 0, .slice none 0 0, .slice none 0 0, .slice none 0 0, .int .i64 0, .bool false, .int .i64 0, .int .i64 0, .string ⟨#[]⟩, .string ⟨#[]⟩, .string ⟨#[]⟩, .string ⟨#[]⟩, .int .i64 0, .string ⟨#[]⟩, .string ⟨#[]⟩, .string ⟨#[]⟩, .slice none 0 0] 29) (some b))
  have hsz := size_alloc W (.cells #[.int .i64 0, .slice none 0 0, .slice none 0 0, .slice none 0 0, .int .i64 0, .bool false, .int .i64 0, .int .i64 0, .string ⟨#[]⟩, .string ⟨#[]⟩, .string ⟨#[]⟩, .string ⟨#[]⟩, .int .i64 0, .string ⟨#[]⟩, .string ⟨#[]⟩, .string ⟨#[]⟩, .slice none 0 0] 29)
  have hbw : b < W.heap.size := by obtain ⟨_, _, hb, _⟩ := h.box; exact hb.lt
  have hgw := h.far.2
  have hl1 := Pure.expectP_len mOpen st
  obtain ⟨tl, s1, ht⟩ : ∃ t az, titleP (expectP mOpen st) = (t, az) := ⟨_, _, rfl⟩
  have hl2 := Pure.titleP_len (expectP mOpen st)
  rw [ht] at hl2
  have HT := Lib.hid ht
  clear g0 h ht
  go_enter Tryz.func96, Tryz.ntmps96
  go_wp2_with fail
  obtain ⟨X0, hX0⟩ : ∃ X0, X0 = W.heap.size := ⟨_, rfl⟩
  rw [← hX0] at HL0 ⊢
  have hXW : W.heap.size ≤ X0 := by omega
  have HX0 : Hid (X0 ≠ b ∧ X0 ≠ G) := by show _ ∧ _; omega
  have hXZ : X0 < (W.alloc (.cells #[.int .i64 0, .slice none 0 0, .slice none 0 0, .slice none 0 0, .int .i64 0, .bool false, .int .i64 0, .int .i64 0, .string ⟨#[]⟩, .string ⟨#[]⟩, .string ⟨#[]⟩, .string ⟨#[]⟩, .int .i64 0, .string ⟨#[]⟩, .string ⟨#[]⟩, .string ⟨#[]⟩, .slice none 0 0] 29)).heap.size := by omega
  clear hX0
  generalize W.alloc (.cells #[.int .i64 0, .slice none 0 0, .slice none 0 0, .slice none 0 0, .int .i64 0, .bool false, .int .i64 0, .int .i64 0, .string ⟨#[]⟩, .string ⟨#[]⟩, .string ⟨#[]⟩, .string ⟨#[]⟩, .int .i64 0, .string ⟨#[]⟩, .string ⟨#[]⟩, .string ⟨#[]⟩, .slice none 0 0] 29) = Wz at HP HL0 HG0 hsz hXZ ⊢
  refine (expect_ HP.out mOpen).mono ?_
  rintro e W1 ⟨rfl, h1, g1⟩
  have H1 := Lib.hid h1
  have G1 := Lib.hid g1
  clear h1 g1 HP
  go_wp2_with fail
  refine (title_ H1.out HT.out).mono ?_
  rintro e W2 ⟨rfl, h2, g2⟩
  have g12 := grown_trans G1.out g2
  have hs2 := g12.size
  have H2 : Hid (PQ Wz b G s1 W2.heap.size { query0 with kind := 5, label := tl, pairs := [] } (.slice none 0 0) (.slice none 0 0) (.slice none 0 0) (.slice none 0 0) (W2.alloc (.cells #[.int .i64 5, .slice none 0 0, .slice none 0 0, .slice none 0 0, .int .i64 0, .bool false, .int .i64 0, .int .i64 0, .string ⟨#[]⟩, .string ⟨#[]⟩, .string ⟨#[]⟩, .string ⟨#[]⟩, .int .i64 0, .string ⟨#[]⟩, .string ⟨#[]⟩, .string tl, .slice none 0 0] 29))) :=
    ⟨h2.quiet (grown_alloc W2 _ none), Loc.new W2 _ _, hs2, grown_trans g12 (grown_alloc W2 _ _), ⟨World.ownsRow_nil _ _ _ _, World.ownsRow_nil _ _ _ _, World.ownsRow_nil _ _ _ _, World.ownsRow_nil _ _ _ _⟩, by omega, by omega⟩
  clear h2 g2 g12 H1 G1
  go_wp2_with fail
  obtain ⟨x, hx⟩ : ∃ x, x = W2.heap.size := ⟨_, rfl⟩
  rw [← hx] at H2 ⊢
  clear hx
  generalize W2.alloc (.cells #[.int .i64 5, .slice none 0 0, .slice none 0 0, .slice none 0 0, .int .i64 0, .bool false, .int .i64 0, .int .i64 0, .string ⟨#[]⟩, .string ⟨#[]⟩, .string ⟨#[]⟩, .string ⟨#[]⟩, .int .i64 0, .string ⟨#[]⟩, .string ⟨#[]⟩, .string tl, .slice none 0 0] 29) = W3 at H2 ⊢
  obtain ⟨m, hm⟩ : ∃ m, peekP mBrace s1 = m := ⟨_, rfl⟩
  have HM := Lib.hid hm
  clear hm hs2
  refine (accept_ H2.out.p mBrace m HM.out).mono ?_
  rintro e W4 ⟨rfl, h4, g4⟩
  have H4 := Lib.hid (H2.out.call h4 g4)
  clear h4 g4 H2
  go_upto_if 10 with fail
  go_cut [] (fun w => ∃ l u vp, PQ Wz b G u x { query0 with kind := 5, label := tl, pairs := l } (.slice none 0 0) (.slice none 0 0) (.slice none 0 0) vp w ∧ (if m then listP pairP mComma 6 (acceptP mBrace s1) else ([], s1)).1 = l ∧ (if m then expectP mUnbrace (listP pairP mComma 6 (acceptP mBrace s1)).2 else s1) = u ∧ l.length ≤ 3000)
  case first =>
    cases m with
    | false =>
      go_wp2_with fail
      go_meet
      case rel => exact ⟨[], s1, (.slice none 0 0), by have h := H4.out; rw [show acceptP mBrace s1 = s1 by unfold acceptP; rw [HM.out]; rfl] at h; exact h, rfl, rfl, by simp⟩
    | true =>
      obtain ⟨l, s2, hn⟩ : ∃ l az, listP pairP mComma 6 (acceptP mBrace s1) = (l, az) := ⟨_, _, rfl⟩
      have HN := Lib.hid hn
      have hl3 := Pure.acceptP_len mBrace s1
      clear hn
      go_wp2_with fail
      refine (listPair H4.out.p (by omega) HN.out).mono ?_
      rintro e W5 ⟨v0, rfl, ho, h5, g5⟩
      obtain ⟨ao, ca, rfl, hca⟩ := row_slice (l := l) ho
      have hlen := listPair_len (sep := mComma) (st := acceptP mBrace s1) (by omega)
      rw [HN.out] at hlen
      have Ha := H4.out.call h5 g5
      have c16 : W5.cell? ⟨x, 16, none⟩ = some (.slice none 0 0) := (Ha.lx.cell 16).trans rfl
      have f16 : W5.frozen? ⟨x, 16, none⟩ = false := Ha.lx.free 16
      have H5 := Lib.hid (H4.out.pairs h5 g5 ho)
      clear Ha ho h5 g5 H4
      go_wp2_with fail
      generalize W5.setCell ⟨x, 16, none⟩ (.slice ao l.length ca) = W6 at H5 ⊢
      clear c16 f16
      refine (expect_ H5.out.p mUnbrace).mono ?_
      rintro e W7 ⟨rfl, h7, g7⟩
      have H7 := Lib.hid (H5.out.call h7 g7)
      clear h7 g7 H5
      go_wp2_with fail
      go_meet
      case rel => exact ⟨l, _, _, H7.out, by rw [HN.out]; rfl, by rw [HN.out]; rfl, hlen⟩
  case rest =>
    clear H4
    obtain ⟨l, u, vp, hq, e1, e2, hlen⟩ := hcut
    obtain ⟨pa, pc, rfl, hpc⟩ := row_slice (l := l) hq.rows.rp
    have H5 := Lib.hid hq
    have HC0 : Hid (creationP st = ((tl, l), if twiceP [] l then failP else expectP mClose u)) := by
      show _ = _
      unfold creationP
      simp only [HT.out, HM.out]
      rw [← e1, ← e2]
      cases m <;> rfl
    clear hq e1 e2
    go_wp2_with fail
    refine (expect_ H5.out.p mClose).mono ?_
    rintro e W6 ⟨rfl, h6, g6⟩
    have H6 := Lib.hid (H5.out.call h6 g6)
    clear h6 g6 H5
    have c16 : W6.cell? ⟨x, 16, none⟩ = some (.slice pa l.length pc) := (H6.out.lx.cell 16).trans rfl
    go_wp2_with fail
    refine (hasKeyTwice_ H6.out.rows.rp hlen hpc).mono ?_
    rintro e W7 ⟨rfl, hb7⟩
    have H7 := Lib.hid (H6.out.call (H6.out.p.quiet (grown_below hb7 none)) (grown_below hb7 _))
    clear hb7 H6 c16
    cases htw : twiceP [] l with
    | false =>
      have HC : Hid (creationP st = ((tl, l), expectP mClose u)) := by show _ = _; rw [HC0.out, htw]; rfl
      have HLE : Hid (Loc W7 X0 #[.int .i64 0, .slice none 0 0, .slice none 0 0, .slice none 0 0, .int .i64 0, .bool false, .int .i64 0, .int .i64 0, .string ⟨#[]⟩, .string ⟨#[]⟩, .string ⟨#[]⟩, .string ⟨#[]⟩, .int .i64 0, .string ⟨#[]⟩, .string ⟨#[]⟩, .string ⟨#[]⟩, .slice none 0 0] 29) := HL0.out.grown H7.out.grown (by intro e; injection e with e; exact HX0.out.1 e)
      clear htw
      go_upto_region 9 with fail
      refine wp_region_lit ?_
      refine wpList_load_mid rfl 29 _ rfl x 0 rfl (qC { query0 with kind := 5, label := tl, pairs := l } (.slice none 0 0) (.slice none 0 0) (.slice none 0 0) (.slice pa l.length pc)).toList _ H7.out.lx.range Tryz.underlying29 rfl (by rw [Tryz.sizeQuery]; rfl) ?_
      refine wpList_store_mid rfl 29 _ _ rfl X0 0 (qC { query0 with kind := 5, label := tl, pairs := l } (.slice none 0 0) (.slice none 0 0) (.slice none 0 0) (.slice pa l.length pc)) rfl rfl HLE.out.there Tryz.sizeQuery (qC_one _) ?_
      have hF : Loc (W7.setCells X0 0 (qC { query0 with kind := 5, label := tl, pairs := l } (.slice none 0 0) (.slice none 0 0) (.slice none 0 0) (.slice pa l.length pc)).toList) X0 (qC { query0 with kind := 5, label := tl, pairs := l } (.slice none 0 0) (.slice none 0 0) (.slice none 0 0) (.slice pa l.length pc)) 29 := HLE.out.setAll rfl
      have hG := grown_setMany X0 (qC { query0 with kind := 5, label := tl, pairs := l } (.slice none 0 0) (.slice none 0 0) (.slice none 0 0) (.slice pa l.length pc)).toList 0 W7
      have hP : PI b G (expectP mClose u) (W7.setCells X0 0 (qC { query0 with kind := 5, label := tl, pairs := l } (.slice none 0 0) (.slice none 0 0) (.slice none 0 0) (.slice pa l.length pc)).toList) := H7.out.p.kept hG (by intro e; injection e with e; exact HX0.out.1 e.symm) (by intro e; injection e with e; exact HX0.out.2 e.symm)
      have hRow := H7.out.rows.rp.kept hG (Or.inr (row_loc H7.out.rows.rp HLE.out (by decide)))
      have hGG : W.grownBy (W7.setCells X0 0 (qC { query0 with kind := 5, label := tl, pairs := l } (.slice none 0 0) (.slice none 0 0) (.slice none 0 0) (.slice pa l.length pc)).toList) (some b) := grown_far (grown_trans HG0.out H7.out.grown) hG hXW
      obtain ⟨WF, hWF⟩ : ∃ WF, W7.setCells X0 0 (qC { query0 with kind := 5, label := tl, pairs := l } (.slice none 0 0) (.slice none 0 0) (.slice none 0 0) (.slice pa l.length pc)).toList = WF := ⟨_, rfl⟩
      rw [hWF] at hF hP hRow hGG ⊢
      clear hWF hG
      go_wp2_with fail
      refine bodyPost_ret (v := .agg (qC { query0 with kind := 5, label := tl, pairs := l } (.slice none 0 0) (.slice none 0 0) (.slice none 0 0) (.slice pa l.length pc))) ?_ rfl ⟨.slice pa l.length pc, ?_, ?_, ?_, hGG⟩
      · exact retOne Tryz.results96 rfl hF rfl
      · rw [HC.out]
      · rw [HC.out]; exact row_weaken hRow (by omega)
      · rw [HC.out]; exact hP
    | true =>
      have HC : Hid (creationP st = ((tl, l), failP)) := by show _ = _; rw [HC0.out, htw]; rfl
      clear htw
      go_wp2_with fail
      refine (fail_ H7.out.p).mono ?_
      rintro e W8 ⟨rfl, h8, g8⟩
      have H8 := Lib.hid (H7.out.call h8 g8)
      clear h8 g8 H7
      have HLE : Hid (Loc W8 X0 #[.int .i64 0, .slice none 0 0, .slice none 0 0, .slice none 0 0, .int .i64 0, .bool false, .int .i64 0, .int .i64 0, .string ⟨#[]⟩, .string ⟨#[]⟩, .string ⟨#[]⟩, .string ⟨#[]⟩, .int .i64 0, .string ⟨#[]⟩, .string ⟨#[]⟩, .string ⟨#[]⟩, .slice none 0 0] 29) := HL0.out.grown H8.out.grown (by intro e; injection e with e; exact HX0.out.1 e)
      go_upto_region 9 with fail
      refine wp_region_lit ?_
      refine wpList_load_mid rfl 29 _ rfl x 0 rfl (qC { query0 with kind := 5, label := tl, pairs := l } (.slice none 0 0) (.slice none 0 0) (.slice none 0 0) (.slice pa l.length pc)).toList _ H8.out.lx.range Tryz.underlying29 rfl (by rw [Tryz.sizeQuery]; rfl) ?_
      refine wpList_store_mid rfl 29 _ _ rfl X0 0 (qC { query0 with kind := 5, label := tl, pairs := l } (.slice none 0 0) (.slice none 0 0) (.slice none 0 0) (.slice pa l.length pc)) rfl rfl HLE.out.there Tryz.sizeQuery (qC_one _) ?_
      have hF : Loc (W8.setCells X0 0 (qC { query0 with kind := 5, label := tl, pairs := l } (.slice none 0 0) (.slice none 0 0) (.slice none 0 0) (.slice pa l.length pc)).toList) X0 (qC { query0 with kind := 5, label := tl, pairs := l } (.slice none 0 0) (.slice none 0 0) (.slice none 0 0) (.slice pa l.length pc)) 29 := HLE.out.setAll rfl
      have hG := grown_setMany X0 (qC { query0 with kind := 5, label := tl, pairs := l } (.slice none 0 0) (.slice none 0 0) (.slice none 0 0) (.slice pa l.length pc)).toList 0 W8
      have hP : PI b G failP (W8.setCells X0 0 (qC { query0 with kind := 5, label := tl, pairs := l } (.slice none 0 0) (.slice none 0 0) (.slice none 0 0) (.slice pa l.length pc)).toList) := H8.out.p.kept hG (by intro e; injection e with e; exact HX0.out.1 e.symm) (by intro e; injection e with e; exact HX0.out.2 e.symm)
      have hRow := H8.out.rows.rp.kept hG (Or.inr (row_loc H8.out.rows.rp HLE.out (by decide)))
      have hGG : W.grownBy (W8.setCells X0 0 (qC { query0 with kind := 5, label := tl, pairs := l } (.slice none 0 0) (.slice none 0 0) (.slice none 0 0) (.slice pa l.length pc)).toList) (some b) := grown_far (grown_trans HG0.out H8.out.grown) hG hXW
      obtain ⟨WF, hWF⟩ : ∃ WF, W8.setCells X0 0 (qC { query0 with kind := 5, label := tl, pairs := l } (.slice none 0 0) (.slice none 0 0) (.slice none 0 0) (.slice pa l.length pc)).toList = WF := ⟨_, rfl⟩
      rw [hWF] at hF hP hRow hGG ⊢
      clear hWF hG
      go_wp2_with fail
      refine bodyPost_ret (v := .agg (qC { query0 with kind := 5, label := tl, pairs := l } (.slice none 0 0) (.slice none 0 0) (.slice none 0 0) (.slice pa l.length pc))) ?_ rfl ⟨.slice pa l.length pc, ?_, ?_, ?_, hGG⟩
      · exact retOne Tryz.results96 rfl hF rfl
      · rw [HC.out]
      · rw [HC.out]; exact row_weaken hRow (by omega)
      · rw [HC.out]; exact hP

end Go.Proofs.YtobgbmfpicmpcaaGreatDoor

/- The program's scope: the variables that a query uses. -/
namespace Go.Proofs.YtobgbmfpicmpcaaGreatDoor
open Go.RowKit

set_option maxRecDepth 100000 in
set_option maxHeartbeats 4000000 in
theorem used_ {B : Nat} {q : PQuery} {vs vc vi vp : Value} {W : World} (hrs : W.ownsRow B 85 5 vs q.spots.length (spotCells q.spots)) (hrc : W.ownsRow B 87 7 vc q.conds.length (condCells q.conds)) (hrt : W.ownsRow B 89 2 vi q.items.length (itemCells q.items)) (hl2 : q.conds.length ≤ 3000) (hl3 : q.items.length ≤ 3000) :
    Calls Tryz.prog 102 #[.agg (qC q vs vc vi vp)] W fun e W' => ∃ v, e = .returned v ∧ W'.ownsRow W.heap.size 9 1 v (usedP q).length (strs (usedP q)) ∧ (usedP q).length ≤ 9003 ∧ Below W.heap.size W W' := by
  obtain ⟨i1, hj, hy0, hy1, hy2⟩ := info_parts Tryz.infoString
  obtain ⟨aos, cas, rfl, hcas⟩ := row_slice (l := q.spots) hrs
  obtain ⟨aoc, cac, rfl, hcac⟩ := row_slice (l := q.conds) hrc
  obtain ⟨aoi, cai, rfl, hcai⟩ := row_slice (l := q.items) hrt
  have g0 := grown_alloc W (.cells (qC q (.slice aos q.spots.length cas) (.slice aoc q.conds.length cac) (.slice aoi q.items.length cai) vp) 29) none
  have H0 : Hid (SAt W B W.heap.size (qC q (.slice aos q.spots.length cas) (.slice aoc q.conds.length cac) (.slice aoi q.items.length cai) vp) q (.slice aos q.spots.length cas) (.slice aoc q.conds.length cac) (.slice aoi q.items.length cai) (.slice none 0 0) [] (W.alloc (.cells (qC q (.slice aos q.spots.length cas) (.slice aoc q.conds.length cac) (.slice aoi q.items.length cai) vp) 29))) :=
    ⟨Below.alloc (Below.refl _ _) (Nat.le_refl _) _, Loc.new W _ _, Nat.le_refl _, kept_none hrs g0, kept_none hrc g0, kept_none hrt g0, World.ownsRow_nil _ _ _ _⟩
  clear hrs hrc hrt g0
  go_enter Tryz.func102, Tryz.ntmps102
  go_upto_region 2 with fail
  obtain ⟨X, hX⟩ : ∃ X, X = W.heap.size := ⟨_, rfl⟩
  rw [← hX] at H0 ⊢
  generalize W.alloc (.cells (qC q (.slice aos q.spots.length cas) (.slice aoc q.conds.length cac) (.slice aoi q.items.length cai) vp) 29) = W1 at H0 ⊢
  have hXW : W.heap.size ≤ X := by omega
  clear hX
  have c2 : W1.cell? ⟨X, 2, none⟩ = some (.slice aoc q.conds.length cac) := (H0.out.lq.cell 2).trans rfl
  go_upto_block 0 with fail
  clear c2
  go_cut [3] (fun v w => SAt W B X (qC q (.slice aos q.spots.length cas) (.slice aoc q.conds.length cac) (.slice aoi q.items.length cai) vp) q (.slice aos q.spots.length cas) (.slice aoc q.conds.length cac) (.slice aoi q.items.length cai) v (condNames q.conds) w)
  case first =>
    go_wp2_with fail
    go_loopg [3, 11] q.conds.length (fun m v iv w => ∃ k : Nat, iv = .int .i64 (k : Int) ∧ k + m = q.conds.length ∧ SAt W B X (qC q (.slice aos q.spots.length cas) (.slice aoc q.conds.length cac) (.slice aoi q.items.length cai) vp) q (.slice aos q.spots.length cas) (.slice aoc q.conds.length cac) (.slice aoi q.items.length cai) v (condNames (q.conds.take k)) w)
    case atStart => exact ⟨0, rfl, by omega, H0.out⟩
    case round =>
      obtain ⟨k, rfl, hk, hq⟩ := hrel
      have HQ := Lib.hid hq
      clear H0
      by_cases hlt : k < q.conds.length
      · obtain ⟨g, rfl, hcell⟩ := row_at (l := q.conds) fCond (fun _ => rfl) hq.rc hlt
        obtain ⟨y, hy⟩ : ∃ y, q.conds[k] = y := ⟨_, rfl⟩
        rw [hy] at hcell
        have p0 : wr.cell? ⟨g, k * 7, none⟩ = some (.int .i64 y.op) := hcell 0 (by decide)
        have p1 : wr.cell? ⟨g, k * 7 + 1, none⟩ = some (.string y.a.name) := hcell 1 (by decide)
        have p2 : wr.cell? ⟨g, k * 7 + 2, none⟩ = some (.string y.a.key) := hcell 2 (by decide)
        have p3 : wr.cell? ⟨g, k * 7 + 3, none⟩ = some (.int .i64 y.a.val) := hcell 3 (by decide)
        have p4 : wr.cell? ⟨g, k * 7 + 4, none⟩ = some (.string y.b.name) := hcell 4 (by decide)
        have p5 : wr.cell? ⟨g, k * 7 + 5, none⟩ = some (.string y.b.key) := hcell 5 (by decide)
        have p6 : wr.cell? ⟨g, k * 7 + 6, none⟩ = some (.int .i64 y.b.val) := hcell 6 (by decide)
        have hki : (k : Int) < (q.conds.length : Int) := by omega
        have HNX : Hid (condNames (q.conds.take (k + 1)) = condNames (q.conds.take k) ++ [y.a.name, y.b.name]) := by show _ = _; rw [condNames_next hlt, hy]
        have hnl := condNames_len (q.conds.take k)
        rw [List.length_take_of_le (by omega)] at hnl
        obtain ⟨ns, hns⟩ : ∃ ns, condNames (q.conds.take k) = ns := ⟨_, rfl⟩
        rw [hns] at HQ HNX hnl
        have hnb : ns.length ≤ 6000 := by omega
        have HZ := Lib.hid (Loc.new wr #[.int .i64 y.op, .string y.a.name, .string y.a.key, .int .i64 y.a.val, .string y.b.name, .string y.b.key, .int .i64 y.b.val] 87)
        have H2 := Lib.hid (HQ.out.alloc (.cells #[.int .i64 y.op, .string y.a.name, .string y.a.key, .int .i64 y.a.val, .string y.b.name, .string y.b.key, .int .i64 y.b.val] 87))
        clear hns hlt hnl hcell hy hq HQ
        go_upto_region 5 with fail
        obtain ⟨Z, hZ⟩ : ∃ Z, Z = wr.heap.size := ⟨_, rfl⟩
        rw [← hZ] at HZ ⊢
        clear hZ
        generalize wr.alloc (.cells #[.int .i64 y.op, .string y.a.name, .string y.a.key, .int .i64 y.a.val, .string y.b.name, .string y.b.key, .int .i64 y.b.val] 87) = W3 at HZ H2 ⊢
        clear p0 p1 p2 p3 p4 p5 p6
        have z1 : W3.cell? ⟨Z, 1, none⟩ = some (.string y.a.name) := (HZ.out.cell 1).trans rfl
        have z4 : W3.cell? ⟨Z, 4, none⟩ = some (.string y.b.name) := (HZ.out.cell 4).trans rfl
        have HD := Lib.hid (H2.out.alloc (.cells #[.string y.a.name, .string y.b.name] 9))
        go_wp2_with (at_builtin; go_must (refine wpList_append_lies _ rfl _ _ 56 rfl W.heap.size 9 i1 (.string ⟨#[]⟩) 1 16 Tryz.underlying56 hj hy0 hy1 hy2 rfl (by decide) u3 _ _ rfl HD.out.rl _ 2 2 [.string y.a.name, .string y.b.name] rfl rfl (World.news_of_block (heap_alloc_new W3 _)) two_one (by omega) (by unfold maxLen; omega) (by omega) HD.out.low.size _ rfl ?_; intro g2 cap2 w5 hown hgrow _ _; have H5 := Lib.hid (HD.out.more (l := [y.a.name, y.b.name]) hgrow (by rw [strs_append, List.length_append]; exact hown)); clear hown hgrow))
        go_roundg (gk - 1)
        case measure => omega
        case rel => exact ⟨k + 1, by simp, by omega, by rw [HNX.out]; exact H5.out⟩
      · have hki : ¬ (k : Int) < (q.conds.length : Int) := by omega
        have hk2 : k = q.conds.length := by omega
        clear hq
        go_wp2_with fail
        go_meet
        case rel =>
          rw [hk2, List.take_length] at HQ
          exact HQ.out
  case rest =>
    clear H0
    have H1 := Lib.hid hcut
    have hn0 := condNames_len q.conds
    obtain ⟨n0, hns0⟩ : ∃ n0, condNames q.conds = n0 := ⟨_, rfl⟩
    rw [hns0] at H1 hn0
    have HN0 := Lib.hid hns0
    have hn0b : n0.length ≤ 6000 := by omega
    clear hcut hns0 hn0
    have c3 : wc.cell? ⟨X, 3, none⟩ = some (.slice aoi q.items.length cai) := (H1.out.lq.cell 3).trans rfl
    go_upto_block 2 with fail
    clear c3
    go_cut [3] (fun v w => SAt W B X (qC q (.slice aos q.spots.length cas) (.slice aoc q.conds.length cac) (.slice aoi q.items.length cai) vp) q (.slice aos q.spots.length cas) (.slice aoc q.conds.length cac) (.slice aoi q.items.length cai) v (n0 ++ itemNames q.items) w)
    case first =>
      go_wp2_with fail
      go_loopg [3, 28] q.items.length (fun m v iv w => ∃ k : Nat, iv = .int .i64 (k : Int) ∧ k + m = q.items.length ∧ SAt W B X (qC q (.slice aos q.spots.length cas) (.slice aoc q.conds.length cac) (.slice aoi q.items.length cai) vp) q (.slice aos q.spots.length cas) (.slice aoc q.conds.length cac) (.slice aoi q.items.length cai) v (n0 ++ itemNames (q.items.take k)) w)
      case atStart => exact ⟨0, rfl, by omega, by rw [show itemNames (q.items.take 0) = [] from rfl, List.append_nil]; exact H1.out⟩
      case round =>
        obtain ⟨k, rfl, hk, hq⟩ := hrel
        have HQ := Lib.hid hq
        clear H1
        by_cases hlt : k < q.items.length
        · obtain ⟨g, rfl, hcell⟩ := row_at (l := q.items) fItem (fun _ => rfl) hq.rt hlt
          obtain ⟨y, hy⟩ : ∃ y, q.items[k] = y := ⟨_, rfl⟩
          rw [hy] at hcell
          have p0 : wr.cell? ⟨g, k * 2, none⟩ = some (.string y.name) := hcell 0 (by decide)
          have p1 : wr.cell? ⟨g, k * 2 + 1, none⟩ = some (.string y.key) := hcell 1 (by decide)
          have hki : (k : Int) < (q.items.length : Int) := by omega
          have HNX : Hid (n0 ++ itemNames (q.items.take (k + 1)) = (n0 ++ itemNames (q.items.take k)) ++ [y.name]) := by show _ = _; rw [itemNames_next hlt, hy, List.append_assoc]
          have hnl := itemNames_len (q.items.take k)
          rw [List.length_take_of_le (by omega)] at hnl
          have hnb : (n0 ++ itemNames (q.items.take k)).length ≤ 9000 := by rw [List.length_append]; omega
          obtain ⟨ns, hns⟩ : ∃ ns, n0 ++ itemNames (q.items.take k) = ns := ⟨_, rfl⟩
          rw [hns] at HQ HNX hnb
          have HZ := Lib.hid (Loc.new wr #[.string y.name, .string y.key] 89)
          have H2 := Lib.hid (HQ.out.alloc (.cells #[.string y.name, .string y.key] 89))
          clear hns hlt hnl hcell hy hq HQ
          go_upto_region 10 with fail
          obtain ⟨Z, hZ⟩ : ∃ Z, Z = wr.heap.size := ⟨_, rfl⟩
          rw [← hZ] at HZ ⊢
          clear hZ
          generalize wr.alloc (.cells #[.string y.name, .string y.key] 89) = W3 at HZ H2 ⊢
          clear p0 p1
          have z0 : W3.cell? ⟨Z, 0, none⟩ = some (.string y.name) := (HZ.out.cell 0).trans rfl
          have HD := Lib.hid (H2.out.alloc (.cells #[.string y.name] 9))
          go_wp2_with (at_builtin; go_must (refine wpList_append_lies _ rfl _ _ 56 rfl W.heap.size 9 i1 (.string ⟨#[]⟩) 1 16 Tryz.underlying56 hj hy0 hy1 hy2 rfl (by decide) u3 _ _ rfl HD.out.rl _ 1 1 [.string y.name] rfl rfl (World.news_of_block (heap_alloc_new W3 _)) str_one (by omega) (by unfold maxLen; omega) (by omega) HD.out.low.size _ rfl ?_; intro g2 cap2 w5 hown hgrow _ _; have H5 := Lib.hid (HD.out.more (l := [y.name]) hgrow (by rw [strs_append, List.length_append]; exact hown)); clear hown hgrow))
          go_roundg (gk - 1)
          case measure => omega
          case rel => exact ⟨k + 1, by simp, by omega, by rw [HNX.out]; exact H5.out⟩
        · have hki : ¬ (k : Int) < (q.items.length : Int) := by omega
          have hk2 : k = q.items.length := by omega
          clear hq
          go_wp2_with fail
          go_meet
          case rel =>
            rw [hk2, List.take_length] at HQ
            exact HQ.out
    case rest =>
      clear H1
      have hn1 := itemNames_len q.items
      have H2 := Lib.hid hcut
      have hn1b : (n0 ++ itemNames q.items).length ≤ 9000 := by rw [List.length_append]; omega
      obtain ⟨n1, hns1⟩ : ∃ n1, n0 ++ itemNames q.items = n1 := ⟨_, rfl⟩
      rw [hns1] at H2 hn1b
      have HU : Hid (usedP q = n1 ++ (if q.kind ≠ 6 then [q.name, q.to] else [])) := by
        show _ = _
        unfold usedP
        rw [← hns1, ← HN0.out]
        rfl
      clear hcut hns1 hn1
      obtain ⟨pa, pc, hu⟩ : ∃ ao cap, u3 = .slice ao n1.length cap := by
        obtain ⟨ao, cap, e, _⟩ := row_slice (l := n1) H2.out.rl
        exact ⟨ao, cap, e⟩
      subst hu
      have c0 : wc.cell? ⟨X, 0, none⟩ = some (.int .i64 q.kind) := (H2.out.lq.cell 0).trans rfl
      by_cases h6 : q.kind = 6
      · have HE : Hid (usedP q = n1) := by show _ = _; rw [HU.out, if_neg (by simp [h6])]; exact List.append_nil _
        go_wp2_with fail
        refine bodyPost_ret (v := .slice pa n1.length pc) ?_ rfl ⟨_, rfl, by rw [HE.out]; exact H2.out.rl, by rw [HE.out]; omega, H2.out.low⟩
        simp [results, Tryz.results102, go_sem]
      · have HE : Hid (usedP q = n1 ++ [q.name, q.to]) := by show _ = _; rw [HU.out, if_pos h6]
        have c8 : wc.cell? ⟨X, 8, none⟩ = some (.string q.name) := (H2.out.lq.cell 8).trans rfl
        have c14 : wc.cell? ⟨X, 14, none⟩ = some (.string q.to) := (H2.out.lq.cell 14).trans rfl
        have HD := Lib.hid (H2.out.alloc (.cells #[.string q.name, .string q.to] 9))
        go_wp2_with (at_builtin; go_must (refine wpList_append_lies _ rfl _ _ 56 rfl W.heap.size 9 i1 (.string ⟨#[]⟩) 1 16 Tryz.underlying56 hj hy0 hy1 hy2 rfl (by decide) (.slice pa n1.length pc) _ _ rfl HD.out.rl _ 2 2 [.string q.name, .string q.to] rfl rfl (World.news_of_block (heap_alloc_new wc _)) two_one (by omega) (by unfold maxLen; omega) (by omega) HD.out.low.size _ rfl ?_; intro g2 cap2 w5 hown hgrow _ _; have H5 := Lib.hid (HD.out.more (l := [q.name, q.to]) hgrow (by rw [strs_append, List.length_append]; exact hown)); clear hown hgrow))
        refine bodyPost_ret (v := .slice (some ⟨g2, 0, none⟩) (n1.length + 2) cap2) ?_ rfl ⟨_, rfl, by rw [HE.out]; exact H5.out.rl, by rw [HE.out, List.length_append]; simp; omega, H5.out.low⟩
        simp [results, Tryz.results102, go_sem]

end Go.Proofs.YtobgbmfpicmpcaaGreatDoor

/- The program's scope: every variable is bound. -/
namespace Go.Proofs.YtobgbmfpicmpcaaGreatDoor
open Go.RowKit

set_option maxRecDepth 100000 in
set_option maxHeartbeats 4000000 in
theorem inScope_ {B : Nat} {q : PQuery} {vs vc vi vp : Value} {W : World} (hrs : W.ownsRow B 85 5 vs q.spots.length (spotCells q.spots)) (hrc : W.ownsRow B 87 7 vc q.conds.length (condCells q.conds)) (hrt : W.ownsRow B 89 2 vi q.items.length (itemCells q.items)) (hl1 : q.spots.length ≤ 3000) (hl2 : q.conds.length ≤ 3000) (hl3 : q.items.length ≤ 3000) :
    Calls Tryz.prog 47 #[.agg (qC q vs vc vi vp)] W fun e W' => e = .returned (.bool (inScopeP q)) ∧ Below W.heap.size W W' := by
  obtain ⟨aos, cas, rfl, hcas⟩ := row_slice (l := q.spots) hrs
  obtain ⟨aoc, cac, rfl, hcac⟩ := row_slice (l := q.conds) hrc
  obtain ⟨aoi, cai, rfl, hcai⟩ := row_slice (l := q.items) hrt
  have g0 := grown_alloc W (.cells (qC q (.slice aos q.spots.length cas) (.slice aoc q.conds.length cac) (.slice aoi q.items.length cai) vp) 29) none
  have H0 : Hid (SAt W B W.heap.size (qC q (.slice aos q.spots.length cas) (.slice aoc q.conds.length cac) (.slice aoi q.items.length cai) vp) q (.slice aos q.spots.length cas) (.slice aoc q.conds.length cac) (.slice aoi q.items.length cai) (.slice none 0 0) [] (W.alloc (.cells (qC q (.slice aos q.spots.length cas) (.slice aoc q.conds.length cac) (.slice aoi q.items.length cai) vp) 29))) :=
    ⟨Below.alloc (Below.refl _ _) (Nat.le_refl _) _, Loc.new W _ _, Nat.le_refl _, kept_none hrs g0, kept_none hrc g0, kept_none hrt g0, World.ownsRow_nil _ _ _ _⟩
  clear hrs hrc hrt g0
  go_enter Tryz.func47, Tryz.ntmps47
  go_upto_region 1 with fail
  obtain ⟨X, hX⟩ : ∃ X, X = W.heap.size := ⟨_, rfl⟩
  rw [← hX] at H0 ⊢
  generalize W.alloc (.cells (qC q (.slice aos q.spots.length cas) (.slice aoc q.conds.length cac) (.slice aoi q.items.length cai) vp) 29) = W1 at H0 ⊢
  clear hX
  refine wp_region_lit ?_
  refine wpList_load_mid rfl 29 _ rfl X 0 rfl (qC q (.slice aos q.spots.length cas) (.slice aoc q.conds.length cac) (.slice aoi q.items.length cai) vp).toList _ H0.out.lq.range Tryz.underlying29 rfl (by rw [Tryz.sizeQuery]; rfl) ?_
  go_wp2_with fail
  refine (used_ (vp := vp) H0.out.rs H0.out.rc H0.out.rt hl2 hl3).mono ?_
  rintro e W2 ⟨v0, rfl, ho, hlen, hb2⟩
  obtain ⟨pa, pc, rfl, hpc⟩ := row_slice (l := usedP q) ho
  have H2 : Hid (SAt W B X (qC q (.slice aos q.spots.length cas) (.slice aoc q.conds.length cac) (.slice aoi q.items.length cai) vp) q (.slice aos q.spots.length cas) (.slice aoc q.conds.length cac) (.slice aoi q.items.length cai) (.slice pa (usedP q).length pc) (usedP q) W2) := by
    have h := H0.out.later hb2
    exact ⟨h.low, h.lq, h.nx, h.rs, h.rc, h.rt, ho.mono H0.out.low.size⟩
  obtain ⟨ns, hns⟩ : ∃ ns, usedP q = ns := ⟨_, rfl⟩
  rw [hns] at H2 hlen hpc ⊢
  have HNS := Lib.hid hns
  clear ho hb2 H0 hns
  go_wp2_with fail
  go_loopg [8] ns.length (fun m iv w => ∃ k : Nat, iv = .int .i64 (k : Int) ∧ k + m = ns.length ∧ SAt W B X (qC q (.slice aos q.spots.length cas) (.slice aoc q.conds.length cac) (.slice aoi q.items.length cai) vp) q (.slice aos q.spots.length cas) (.slice aoc q.conds.length cac) (.slice aoi q.items.length cai) (.slice pa ns.length pc) ns w ∧ (ns.take k).all (fun n => n.toList.isEmpty || boundR q.spots n) = true)
  case atStart => exact ⟨0, rfl, by omega, H2.out, rfl⟩
  case round =>
    obtain ⟨k, rfl, hk, hq, hall⟩ := hrel
    have HQ := Lib.hid hq
    have HALL := Lib.hid hall
    clear H2 hall
    by_cases hlt : k < ns.length
    · obtain ⟨g, rfl, hcell⟩ := row_at (l := ns) (fun s => [.string s]) (fun _ => rfl) (by rw [← strs_flat]; exact hq.rl) hlt
      have p0 : wr.cell? ⟨g, k, none⟩ = some (.string ns[k]) := by have := hcell 0 (by decide); simpa using this
      have hki : (k : Int) < (ns.length : Int) := by omega
      obtain ⟨nm, hnm⟩ : ∃ nm, ns[k] = nm := ⟨_, rfl⟩
      have HNX : Hid ((ns.take (k + 1)).all (fun n => n.toList.isEmpty || boundR q.spots n) = (nm.toList.isEmpty || boundR q.spots nm)) := by
        show _ = _
        rw [show ns.take (k + 1) = ns.take k ++ [ns[k]] by rw [List.take_add_one, List.getElem?_eq_getElem hlt]; rfl, List.all_append, HALL.out, hnm]
        simp
      have HNO : Hid ((nm.toList.isEmpty || boundR q.spots nm) = false → inScopeP q = false) := by
        intro e
        have h1 : ns.all (fun n => n.toList.isEmpty || boundR q.spots n) = false := by
          rw [List.all_eq_false]
          exact ⟨ns[k], List.getElem_mem hlt, by rw [hnm, e]; simp⟩
        unfold inScopeP
        rw [HNS.out, h1]
        rfl
      rw [hnm] at p0
      clear hcell hnm hlt hq
      cases he : nm.toList.isEmpty with
      | true =>
        go_wp2_with fail
        go_roundg (gk - 1)
        case measure => omega
        case rel => exact ⟨k + 1, by simp, by omega, HQ.out, by rw [HNX.out, he]; rfl⟩
      | false =>
        have c1 : wr.cell? ⟨X, 1, none⟩ = some (.slice aos q.spots.length cas) := (HQ.out.lq.cell 1).trans rfl
        go_wp2_with fail
        refine (hasSpot_ (n := nm) HQ.out.rs hl1).mono ?_
        rintro e W5 ⟨rfl, hb5⟩
        have H5 := Lib.hid (HQ.out.later hb5)
        clear hb5 c1 p0
        obtain ⟨bd, hbd⟩ : ∃ bd, boundR q.spots nm = bd := ⟨_, rfl⟩
        have HBD := Lib.hid hbd
        rw [hbd]
        clear hbd
        cases bd with
        | true =>
          go_wp2_with fail
          go_roundg (gk - 1)
          case measure => omega
          case rel => exact ⟨k + 1, by simp, by omega, H5.out, by rw [HNX.out, HBD.out]; simp⟩
        | false =>
          have HR : Hid (inScopeP q = false) := HNO.out (by rw [he, HBD.out]; rfl)
          go_wp2_with fail
          refine bodyPost_ret (v := .bool false) ?_ rfl ⟨?_, H5.out.low⟩
          · simp [results, Tryz.results47, go_sem]
          · rw [HR.out]
    · have hki : ¬ (k : Int) < (ns.length : Int) := by omega
      have hk2 : k = ns.length := by omega
      have c0 : wr.cell? ⟨X, 0, none⟩ = some (.int .i64 q.kind) := (HQ.out.lq.cell 0).trans rfl
      have c8 : wr.cell? ⟨X, 8, none⟩ = some (.string q.name) := (HQ.out.lq.cell 8).trans rfl
      have c10 : wr.cell? ⟨X, 10, none⟩ = some (.string q.value.name) := (HQ.out.lq.cell 10).trans rfl
      have HSC : Hid (inScopeP q = (decide (q.kind ≠ 2) || q.value.name.toList.isEmpty || (q.value.name.toList == q.name.toList))) := by
        show _ = _
        have := HALL.out
        rw [hk2, List.take_length] at this
        unfold inScopeP
        rw [HNS.out, this]
        rfl
      clear hq
      by_cases h2 : q.kind = 2
      · cases he : q.value.name.toList.isEmpty with
        | true =>
          go_wp2_with fail
          refine bodyPost_ret (v := .bool true) ?_ rfl ⟨?_, HQ.out.low⟩
          · simp [results, Tryz.results47, go_sem]
          · rw [HSC.out, he]; simp
        | false =>
          cases hf : (q.value.name.toList == q.name.toList) with
          | true =>
            go_wp2_with fail
            refine bodyPost_ret (v := .bool true) ?_ rfl ⟨?_, HQ.out.low⟩
            · simp [results, Tryz.results47, go_sem]
            · rw [HSC.out, hf]; simp
          | false =>
            go_wp2_with fail
            refine bodyPost_ret (v := .bool false) ?_ rfl ⟨?_, HQ.out.low⟩
            · simp [results, Tryz.results47, go_sem]
            · rw [HSC.out, he, hf]; simp [h2]
      · go_wp2_with fail
        refine bodyPost_ret (v := .bool true) ?_ rfl ⟨?_, HQ.out.low⟩
        · simp [results, Tryz.results47, go_sem]
        · rw [HSC.out]; simp [h2]

end Go.Proofs.YtobgbmfpicmpcaaGreatDoor

/- The program's parser: a whole query. -/
namespace Go.Proofs.YtobgbmfpicmpcaaGreatDoor
open Go.RowKit

def QueryPost (b G : Nat) (W : World) (x : PQuery × RS) (e : Ending) (W' : World) : Prop :=
  ∃ vs vc vi vp, e = .returned (.agg (qC x.1 vs vc vi vp)) ∧ QRows W.heap.size x.1 vs vc vi vp W' ∧ PI b G x.2 W' ∧ W.grownBy W' (some b)

set_option maxRecDepth 100000 in
set_option maxHeartbeats 4000000 in
theorem queryMake {b G : Nat} {st : RS} {W : World} (h : PI b G st W) (hl : st.rest.length ≤ 2000) (hc : peekP kCALL st = false) (hm : peekP kCREATE st = true) :
    Calls Tryz.prog 45 #[.pointer (some ⟨b, 0, none⟩)] W (QueryPost b G W (queryP st)) := by
  have g0 := grown_alloc W (.cells #[.int .i64 0, .slice none 0 0, .slice none 0 0, .slice none 0 0, .int .i64 0, .bool false, .int .i64 0, .int .i64 0, .string ⟨#[]⟩, .string ⟨#[]⟩, .string ⟨#[]⟩, .string ⟨#[]⟩, .int .i64 0, .string ⟨#[]⟩, .string ⟨#[]⟩, .string ⟨#[]⟩, .slice none 0 0] 29) none
  have HP := Lib.hid (h.quiet g0)
  have HL0 := Lib.hid (Loc.new W #[.int .i64 0, .slice none 0 0, .slice none 0 0, .slice none 0 0, .int .i64 0, .bool false, .int .i64 0, .int .i64 0, .string ⟨#[]⟩, .string ⟨#[]⟩, .string ⟨#[]⟩, .string ⟨#[]⟩, .int .i64 0, .string ⟨#[]⟩, .string ⟨#[]⟩, .string ⟨#[]⟩, .slice none 0 0] 29)
  have HG0 := Lib.hid (grown_alloc W (.cells #[.int .i64 0, .slice none 0 0, .slice none 0 0, .slice none 0 0, .int .i64 0, .bool false, .int .i64 0, .int .i64 0, .string ⟨#[]⟩, .string ⟨#[]⟩, .string ⟨#[]⟩, .string ⟨#[]⟩, .int .i64 0, .string ⟨#[]⟩, .string ⟨#[]⟩, .string ⟨#[]⟩, .slice none 0 0] 29) (some b))
  have hsz := size_alloc W (.cells #[.int .i64 0, .slice none 0 0, .slice none 0 0, .slice none 0 0, .int .i64 0, .bool false, .int .i64 0, .int .i64 0, .string ⟨#[]⟩, .string ⟨#[]⟩, .string ⟨#[]⟩, .string ⟨#[]⟩, .int .i64 0, .string ⟨#[]⟩, .string ⟨#[]⟩, .string ⟨#[]⟩, .slice none 0 0] 29)
  have hbw : b < W.heap.size := by obtain ⟨_, _, hb, _⟩ := h.box; exact hb.lt
  have hgw := h.far.2
  clear g0 h
  go_enter Tryz.func45, Tryz.ntmps45
  go_wp2_with fail
  obtain ⟨X0, hX0⟩ : ∃ X0, X0 = W.heap.size := ⟨_, rfl⟩
  rw [← hX0] at HL0 ⊢
  have hXW : W.heap.size ≤ X0 := by omega
  have HX0 : Hid (X0 ≠ b ∧ X0 ≠ G) := by show _ ∧ _; omega
  have hXZ : X0 < (W.alloc (.cells #[.int .i64 0, .slice none 0 0, .slice none 0 0, .slice none 0 0, .int .i64 0, .bool false, .int .i64 0, .int .i64 0, .string ⟨#[]⟩, .string ⟨#[]⟩, .string ⟨#[]⟩, .string ⟨#[]⟩, .int .i64 0, .string ⟨#[]⟩, .string ⟨#[]⟩, .string ⟨#[]⟩, .slice none 0 0] 29)).heap.size := by omega
  clear hX0
  generalize W.alloc (.cells #[.int .i64 0, .slice none 0 0, .slice none 0 0, .slice none 0 0, .int .i64 0, .bool false, .int .i64 0, .int .i64 0, .string ⟨#[]⟩, .string ⟨#[]⟩, .string ⟨#[]⟩, .string ⟨#[]⟩, .int .i64 0, .string ⟨#[]⟩, .string ⟨#[]⟩, .string ⟨#[]⟩, .slice none 0 0] 29) = Wz at HP HL0 HG0 hsz hXZ ⊢
  have ea : acceptP kCALL st = st := by unfold acceptP; rw [hc]; rfl
  refine (accept_ HP.out kCALL false hc).mono ?_
  rintro e W1 ⟨rfl, h1, g1⟩
  rw [ea] at h1
  have H1 := Lib.hid h1
  have G1 := Lib.hid (grown_trans HG0.out g1)
  have HL1 := Lib.hid (HL0.out.grown g1 (by intro e; injection e with e; exact HX0.out.1 e))
  clear h1 g1 HP HG0 HL0 ea
  go_wp2_with fail
  refine (accept_ H1.out kCREATE true hm).mono ?_
  rintro e W2 ⟨rfl, h2, g2⟩
  have H2 := Lib.hid h2
  have G2 := Lib.hid (grown_trans G1.out g2)
  have HL2 := Lib.hid (HL1.out.grown g2 (by intro e; injection e with e; exact HX0.out.1 e))
  have hl3 := Pure.acceptP_len kCREATE st
  clear h2 g2 H1 G1 HL1
  go_wp2_with fail
  refine (creation_ H2.out (by omega)).mono ?_
  rintro e W3 ⟨vp, rfl, ho, h3, g3⟩
  have HL3 := Lib.hid (HL2.out.grown g3 (by intro e; injection e with e; exact HX0.out.1 e))
  have G3 := Lib.hid (grown_trans G2.out g3)
  have ho' := row_weaken ho G2.out.size
  have HC : Hid (queryP st = ({ query0 with kind := 5, label := (creationP (acceptP kCREATE st)).1.1, pairs := (creationP (acceptP kCREATE st)).1.2 }, (creationP (acceptP kCREATE st)).2)) := by show _ = _; unfold queryP; rw [hc, hm]; rfl
  obtain ⟨⟨⟨l0, p0⟩, s3⟩, hcr⟩ : ∃ c, creationP (acceptP kCREATE st) = c := ⟨_, rfl⟩
  rw [hcr] at ho' h3 HC ⊢
  obtain ⟨pa, pc, rfl, hpc⟩ := row_slice (l := p0) ho'
  have HRow := Lib.hid ho'
  have H3 := Lib.hid h3
  clear ho ho' h3 g3 hcr H2 G2 HL2
  rename_i KK hKK
  refine hKK _ _ ?_
  refine wpList_store_mid rfl 29 _ _ rfl X0 0 (qC { query0 with kind := 5, label := l0, pairs := p0 } (.slice none 0 0) (.slice none 0 0) (.slice none 0 0) (.slice pa p0.length pc)) rfl rfl HL3.out.there Tryz.sizeQuery (qC_one _) ?_
  have hF : Loc (W3.setCells X0 0 (qC { query0 with kind := 5, label := l0, pairs := p0 } (.slice none 0 0) (.slice none 0 0) (.slice none 0 0) (.slice pa p0.length pc)).toList) X0 (qC { query0 with kind := 5, label := l0, pairs := p0 } (.slice none 0 0) (.slice none 0 0) (.slice none 0 0) (.slice pa p0.length pc)) 29 := HL3.out.setAll rfl
  have hG := grown_setMany X0 (qC { query0 with kind := 5, label := l0, pairs := p0 } (.slice none 0 0) (.slice none 0 0) (.slice none 0 0) (.slice pa p0.length pc)).toList 0 W3
  have hP : PI b G s3 (W3.setCells X0 0 (qC { query0 with kind := 5, label := l0, pairs := p0 } (.slice none 0 0) (.slice none 0 0) (.slice none 0 0) (.slice pa p0.length pc)).toList) := H3.out.kept hG (by intro e; injection e with e; exact HX0.out.1 e.symm) (by intro e; injection e with e; exact HX0.out.2 e.symm)
  have hRow := HRow.out.kept hG (Or.inr (row_loc HRow.out HL3.out (by decide)))
  have hGG : W.grownBy (W3.setCells X0 0 (qC { query0 with kind := 5, label := l0, pairs := p0 } (.slice none 0 0) (.slice none 0 0) (.slice none 0 0) (.slice pa p0.length pc)).toList) (some b) := grown_far G3.out hG hXW
  obtain ⟨WF, hWF⟩ : ∃ WF, W3.setCells X0 0 (qC { query0 with kind := 5, label := l0, pairs := p0 } (.slice none 0 0) (.slice none 0 0) (.slice none 0 0) (.slice pa p0.length pc)).toList = WF := ⟨_, rfl⟩
  rw [hWF] at hF hP hRow hGG ⊢
  clear hWF hG
  go_wp2_with fail
  refine bodyPost_ret (v := .agg (qC { query0 with kind := 5, label := l0, pairs := p0 } (.slice none 0 0) (.slice none 0 0) (.slice none 0 0) (.slice pa p0.length pc))) ?_ rfl ?_
  · exact retOne Tryz.results45 rfl hF rfl
  · rw [HC.out]
    exact ⟨_, _, _, _, rfl, ⟨World.ownsRow_nil _ _ _ _, World.ownsRow_nil _ _ _ _, World.ownsRow_nil _ _ _ _, hRow⟩, hP, hGG⟩

end Go.Proofs.YtobgbmfpicmpcaaGreatDoor

/- The program's parser: a whole query that calls a view. -/
namespace Go.Proofs.YtobgbmfpicmpcaaGreatDoor
open Go.RowKit

set_option maxRecDepth 100000 in
/-- A query of a kind and a name is built. -/
theorem wpList_callQuery {ops : Array Oper} {rest : List Oper} {op : Oper} {a : Act} {w : World} {Q : Exit → Act → World → Prop} {t : Nat} {n0 : ByteArray} (hgd : op.guard = none) (ho : op.op = .build 29 #[(0, .const (.int .i64 6)), (8, .tmp t)]) (hx : a.tmps[t]? = some (.string n0)) (h : wpList Tryz.prog ops Q rest (a.put op.dst (.agg #[.int .i64 6, .slice none 0 0, .slice none 0 0, .slice none 0 0, .int .i64 0, .bool false, .int .i64 0, .int .i64 0, .string n0, .string ⟨#[]⟩, .string ⟨#[]⟩, .string ⟨#[]⟩, .int .i64 0, .string ⟨#[]⟩, .string ⟨#[]⟩, .string ⟨#[]⟩, .slice none 0 0])) w) : wpList Tryz.prog ops Q (op :: rest) a w :=
  wpList_plain hgd fun _ hK => by
    unfold Oper.wp execOp
    simp only [ho]
    obtain ⟨ts, ds⟩ := a
    go_simp
    exact hK _ _ h

set_option maxRecDepth 100000 in
set_option maxHeartbeats 4000000 in
theorem queryCall {b G : Nat} {st : RS} {W : World} (h : PI b G st W) (hc : peekP kCALL st = true) :
    Calls Tryz.prog 45 #[.pointer (some ⟨b, 0, none⟩)] W (QueryPost b G W (queryP st)) := by
  have g0 := grown_alloc W (.cells #[.int .i64 0, .slice none 0 0, .slice none 0 0, .slice none 0 0, .int .i64 0, .bool false, .int .i64 0, .int .i64 0, .string ⟨#[]⟩, .string ⟨#[]⟩, .string ⟨#[]⟩, .string ⟨#[]⟩, .int .i64 0, .string ⟨#[]⟩, .string ⟨#[]⟩, .string ⟨#[]⟩, .slice none 0 0] 29) none
  have HP := Lib.hid (h.quiet g0)
  have HL0 := Lib.hid (Loc.new W #[.int .i64 0, .slice none 0 0, .slice none 0 0, .slice none 0 0, .int .i64 0, .bool false, .int .i64 0, .int .i64 0, .string ⟨#[]⟩, .string ⟨#[]⟩, .string ⟨#[]⟩, .string ⟨#[]⟩, .int .i64 0, .string ⟨#[]⟩, .string ⟨#[]⟩, .string ⟨#[]⟩, .slice none 0 0] 29)
  have HG0 := Lib.hid (grown_alloc W (.cells #[.int .i64 0, .slice none 0 0, .slice none 0 0, .slice none 0 0, .int .i64 0, .bool false, .int .i64 0, .int .i64 0, .string ⟨#[]⟩, .string ⟨#[]⟩, .string ⟨#[]⟩, .string ⟨#[]⟩, .int .i64 0, .string ⟨#[]⟩, .string ⟨#[]⟩, .string ⟨#[]⟩, .slice none 0 0] 29) (some b))
  have hsz := size_alloc W (.cells #[.int .i64 0, .slice none 0 0, .slice none 0 0, .slice none 0 0, .int .i64 0, .bool false, .int .i64 0, .int .i64 0, .string ⟨#[]⟩, .string ⟨#[]⟩, .string ⟨#[]⟩, .string ⟨#[]⟩, .int .i64 0, .string ⟨#[]⟩, .string ⟨#[]⟩, .string ⟨#[]⟩, .slice none 0 0] 29)
  have hbw : b < W.heap.size := by obtain ⟨_, _, hb, _⟩ := h.box; exact hb.lt
  have hgw := h.far.2
  clear g0 h
  go_enter Tryz.func45, Tryz.ntmps45
  go_wp2_with fail
  obtain ⟨X0, hX0⟩ : ∃ X0, X0 = W.heap.size := ⟨_, rfl⟩
  rw [← hX0] at HL0 ⊢
  have hXW : W.heap.size ≤ X0 := by omega
  have HX0 : Hid (X0 ≠ b ∧ X0 ≠ G) := by show _ ∧ _; omega
  have hXZ : X0 < (W.alloc (.cells #[.int .i64 0, .slice none 0 0, .slice none 0 0, .slice none 0 0, .int .i64 0, .bool false, .int .i64 0, .int .i64 0, .string ⟨#[]⟩, .string ⟨#[]⟩, .string ⟨#[]⟩, .string ⟨#[]⟩, .int .i64 0, .string ⟨#[]⟩, .string ⟨#[]⟩, .string ⟨#[]⟩, .slice none 0 0] 29)).heap.size := by omega
  clear hX0
  generalize W.alloc (.cells #[.int .i64 0, .slice none 0 0, .slice none 0 0, .slice none 0 0, .int .i64 0, .bool false, .int .i64 0, .int .i64 0, .string ⟨#[]⟩, .string ⟨#[]⟩, .string ⟨#[]⟩, .string ⟨#[]⟩, .int .i64 0, .string ⟨#[]⟩, .string ⟨#[]⟩, .string ⟨#[]⟩, .slice none 0 0] 29) = Wz at HP HL0 HG0 hsz hXZ ⊢
  obtain ⟨n0, s2, hn⟩ : ∃ n az, nameP (acceptP kCALL st) = (n, az) := ⟨_, _, rfl⟩
  have HN := Lib.hid hn
  have HC : Hid (queryP st = ({ query0 with kind := 6, name := n0 }, s2)) := by show _ = _; unfold queryP; rw [hc]; simp only [hn]; rfl
  clear hn
  refine (accept_ HP.out kCALL true hc).mono ?_
  rintro e W1 ⟨rfl, h1, g1⟩
  have H1 := Lib.hid h1
  have G1 := Lib.hid (grown_trans HG0.out g1)
  have HL1 := Lib.hid (HL0.out.grown g1 (by intro e; injection e with e; exact HX0.out.1 e))
  clear h1 g1 HP HG0 HL0
  go_wp2_with fail
  refine (name_ H1.out HN.out).mono ?_
  rintro e W2 ⟨rfl, h2, g2⟩
  have H2 := Lib.hid h2
  have G2 := Lib.hid (grown_trans G1.out g2)
  have HL2 := Lib.hid (HL1.out.grown g2 (by intro e; injection e with e; exact HX0.out.1 e))
  clear h2 g2 H1 G1 HL1
  rename_i KK hKK
  refine hKK _ _ ?_
  refine wpList_callQuery (n0 := n0) rfl rfl rfl ?_
  refine wpList_store_mid rfl 29 _ _ rfl X0 0 (qC { query0 with kind := 6, name := n0 } (.slice none 0 0) (.slice none 0 0) (.slice none 0 0) (.slice none 0 0)) rfl rfl HL2.out.there Tryz.sizeQuery (qC_one _) ?_
  have hF : Loc (W2.setCells X0 0 (qC { query0 with kind := 6, name := n0 } (.slice none 0 0) (.slice none 0 0) (.slice none 0 0) (.slice none 0 0)).toList) X0 (qC { query0 with kind := 6, name := n0 } (.slice none 0 0) (.slice none 0 0) (.slice none 0 0) (.slice none 0 0)) 29 := HL2.out.setAll rfl
  have hG := grown_setMany X0 (qC { query0 with kind := 6, name := n0 } (.slice none 0 0) (.slice none 0 0) (.slice none 0 0) (.slice none 0 0)).toList 0 W2
  have hP : PI b G s2 (W2.setCells X0 0 (qC { query0 with kind := 6, name := n0 } (.slice none 0 0) (.slice none 0 0) (.slice none 0 0) (.slice none 0 0)).toList) := H2.out.kept hG (by intro e; injection e with e; exact HX0.out.1 e.symm) (by intro e; injection e with e; exact HX0.out.2 e.symm)
  have hGG : W.grownBy (W2.setCells X0 0 (qC { query0 with kind := 6, name := n0 } (.slice none 0 0) (.slice none 0 0) (.slice none 0 0) (.slice none 0 0)).toList) (some b) := grown_far G2.out hG hXW
  obtain ⟨WF, hWF⟩ : ∃ WF, W2.setCells X0 0 (qC { query0 with kind := 6, name := n0 } (.slice none 0 0) (.slice none 0 0) (.slice none 0 0) (.slice none 0 0)).toList = WF := ⟨_, rfl⟩
  rw [hWF] at hF hP hGG ⊢
  clear hWF hG
  go_wp2_with fail
  refine bodyPost_ret (v := .agg (qC { query0 with kind := 6, name := n0 } (.slice none 0 0) (.slice none 0 0) (.slice none 0 0) (.slice none 0 0))) ?_ rfl ?_
  · exact retOne Tryz.results45 rfl hF rfl
  · rw [HC.out]
    exact ⟨_, _, _, _, rfl, ⟨World.ownsRow_nil _ _ _ _, World.ownsRow_nil _ _ _ _, World.ownsRow_nil _ _ _ _, World.ownsRow_nil _ _ _ _⟩, hP, hGG⟩

end Go.Proofs.YtobgbmfpicmpcaaGreatDoor

/- The program's parser: no part of it leaves more tokens than it found. -/
namespace Go.Proofs.YtobgbmfpicmpcaaGreatDoor
open Go.RowKit

theorem hopP_len (st : RS) : (hopP st).2.rest.length ≤ st.rest.length :=
  Nat.le_trans (Pure.spotP_len _ _) (stepP_len st)
theorem spotsLoop_len (n : Nat) : ∀ (out : List PSpot) (st : RS), (spotsLoop n out st).2.rest.length ≤ st.rest.length := by
  induction n with
  | zero => intro out st; exact Nat.le_refl _
  | succ n ih =>
    intro out st
    simp only [spotsLoop]
    split
    · exact Nat.le_trans (ih _ _) (Nat.le_trans (Pure.spotP_len _ _) (Pure.acceptP_len _ _))
    · split
      · exact Nat.le_trans (ih _ _) (Nat.le_trans (hopP_len _) (Pure.acceptP_len _ _))
      · exact Nat.le_refl _
theorem spotsP_len (st : RS) : (spotsP st).2.rest.length ≤ st.rest.length := by
  unfold spotsP
  simp only
  split
  · exact Nat.zero_le _
  · exact Nat.le_trans (spotsLoop_len _ _ _) (Pure.spotP_len _ _)
theorem listLoop_len {α : Type} {one : RS → α × RS} {sep : ByteArray} (h : ∀ st, (one st).2.rest.length ≤ st.rest.length) (n : Nat) : ∀ (out : List α) (st : RS), (listLoop one sep n out st).2.rest.length ≤ st.rest.length := by
  induction n with
  | zero => intro out st; exact Nat.le_refl _
  | succ n ih =>
    intro out st
    simp only [listLoop]
    split
    · exact Nat.le_trans (ih _ _) (Nat.le_trans (h _) (Pure.acceptP_len _ _))
    · exact Nat.le_refl _
theorem whereP_len (st : RS) : (whereP st).2.rest.length ≤ st.rest.length := by
  unfold whereP
  split
  · unfold listP
    simp only
    split
    · exact Nat.zero_le _
    · exact Nat.le_trans (listLoop_len Pure.condP_len _ _ _) (Nat.le_trans (Pure.condP_len _) (Pure.acceptP_len _ _))
  · exact Nat.le_refl _

end Go.Proofs.YtobgbmfpicmpcaaGreatDoor

/- The program's parser: a whole query that matches. -/
namespace Go.Proofs.YtobgbmfpicmpcaaGreatDoor
open Go.RowKit

set_option maxRecDepth 100000 in
set_option maxHeartbeats 4000000 in
theorem queryMatch {b G : Nat} {st : RS} {W : World} (h : PI b G st W) (hl : st.rest.length ≤ 2000) (hc : peekP kCALL st = false) (hm : peekP kCREATE st = false) :
    Calls Tryz.prog 45 #[.pointer (some ⟨b, 0, none⟩)] W (QueryPost b G W (queryP st)) := by
  have g0 := grown_alloc W (.cells #[.int .i64 0, .slice none 0 0, .slice none 0 0, .slice none 0 0, .int .i64 0, .bool false, .int .i64 0, .int .i64 0, .string ⟨#[]⟩, .string ⟨#[]⟩, .string ⟨#[]⟩, .string ⟨#[]⟩, .int .i64 0, .string ⟨#[]⟩, .string ⟨#[]⟩, .string ⟨#[]⟩, .slice none 0 0] 29) none
  have HP := Lib.hid (h.quiet g0)
  have HL0 := Lib.hid (Loc.new W #[.int .i64 0, .slice none 0 0, .slice none 0 0, .slice none 0 0, .int .i64 0, .bool false, .int .i64 0, .int .i64 0, .string ⟨#[]⟩, .string ⟨#[]⟩, .string ⟨#[]⟩, .string ⟨#[]⟩, .int .i64 0, .string ⟨#[]⟩, .string ⟨#[]⟩, .string ⟨#[]⟩, .slice none 0 0] 29)
  have HG0 := Lib.hid (grown_alloc W (.cells #[.int .i64 0, .slice none 0 0, .slice none 0 0, .slice none 0 0, .int .i64 0, .bool false, .int .i64 0, .int .i64 0, .string ⟨#[]⟩, .string ⟨#[]⟩, .string ⟨#[]⟩, .string ⟨#[]⟩, .int .i64 0, .string ⟨#[]⟩, .string ⟨#[]⟩, .string ⟨#[]⟩, .slice none 0 0] 29) (some b))
  have hsz := size_alloc W (.cells #[.int .i64 0, .slice none 0 0, .slice none 0 0, .slice none 0 0, .int .i64 0, .bool false, .int .i64 0, .int .i64 0, .string ⟨#[]⟩, .string ⟨#[]⟩, .string ⟨#[]⟩, .string ⟨#[]⟩, .int .i64 0, .string ⟨#[]⟩, .string ⟨#[]⟩, .string ⟨#[]⟩, .slice none 0 0] 29)
  have hbw : b < W.heap.size := by obtain ⟨_, _, hb, _⟩ := h.box; exact hb.lt
  have hgw := h.far.2
  clear g0 h
  go_enter Tryz.func45, Tryz.ntmps45
  go_wp2_with fail
  obtain ⟨X0, hX0⟩ : ∃ X0, X0 = W.heap.size := ⟨_, rfl⟩
  rw [← hX0] at HL0 ⊢
  have hXW : W.heap.size ≤ X0 := by omega
  have HX0 : Hid (X0 ≠ b ∧ X0 ≠ G) := by show _ ∧ _; omega
  have hXZ : X0 < (W.alloc (.cells #[.int .i64 0, .slice none 0 0, .slice none 0 0, .slice none 0 0, .int .i64 0, .bool false, .int .i64 0, .int .i64 0, .string ⟨#[]⟩, .string ⟨#[]⟩, .string ⟨#[]⟩, .string ⟨#[]⟩, .int .i64 0, .string ⟨#[]⟩, .string ⟨#[]⟩, .string ⟨#[]⟩, .slice none 0 0] 29)).heap.size := by omega
  clear hX0
  generalize W.alloc (.cells #[.int .i64 0, .slice none 0 0, .slice none 0 0, .slice none 0 0, .int .i64 0, .bool false, .int .i64 0, .int .i64 0, .string ⟨#[]⟩, .string ⟨#[]⟩, .string ⟨#[]⟩, .string ⟨#[]⟩, .int .i64 0, .string ⟨#[]⟩, .string ⟨#[]⟩, .string ⟨#[]⟩, .slice none 0 0] 29) = Wz at HP HL0 HG0 hsz hXZ ⊢
  have ea : acceptP kCALL st = st := by unfold acceptP; rw [hc]; rfl
  have eb : acceptP kCREATE st = st := by unfold acceptP; rw [hm]; rfl
  refine (accept_ HP.out kCALL false hc).mono ?_
  rintro e W1 ⟨rfl, h1, g1⟩
  rw [ea] at h1
  have H1 := Lib.hid h1
  have G1 := Lib.hid g1
  clear h1 g1 HP ea
  go_wp2_with fail
  refine (accept_ H1.out kCREATE false hm).mono ?_
  rintro e W2 ⟨rfl, h2, g2⟩
  rw [eb] at h2
  have H2 := Lib.hid h2
  have G2 := Lib.hid (grown_trans G1.out g2)
  clear h2 g2 H1 G1 eb
  go_wp2_with fail
  refine (expect_ H2.out kMATCH).mono ?_
  rintro e W3 ⟨rfl, h3, g3⟩
  have H3 := Lib.hid h3
  have G3 := Lib.hid (grown_trans G2.out g3)
  have hl3 := Pure.expectP_len kMATCH st
  clear h3 g3 H2 G2
  obtain ⟨l, s4, hsp⟩ : ∃ l az, spotsP (expectP kMATCH st) = (l, az) := ⟨_, _, rfl⟩
  have HS := Lib.hid hsp
  have HC0 : Hid (queryP st = actionP { query0 with spots := l, conds := (whereP s4).1 } (whereP s4).2) := by show _ = _; unfold queryP; rw [hc, hm]; simp only [hsp]; rfl
  have hl4 : s4.rest.length ≤ 2000 := by have := spotsP_len (expectP kMATCH st); rw [hsp] at this; simp only at this; omega
  clear hsp
  go_wp2_with fail
  refine (spots_ H3.out (by omega) HS.out).mono ?_
  rintro e W4 ⟨v0, rfl, ho, h4, g4⟩
  obtain ⟨sa, sc, rfl, hsc⟩ := row_slice (l := l) ho
  have g14 := grown_trans G3.out g4
  have hs4 := g14.size
  have H4 : Hid (PQ Wz b G s4 W4.heap.size { query0 with spots := l, conds := [] } (.slice sa l.length sc) (.slice none 0 0) (.slice none 0 0) (.slice none 0 0) (W4.alloc (.cells #[.int .i64 0, .slice sa l.length sc, .slice none 0 0, .slice none 0 0, .int .i64 0, .bool false, .int .i64 0, .int .i64 0, .string ⟨#[]⟩, .string ⟨#[]⟩, .string ⟨#[]⟩, .string ⟨#[]⟩, .int .i64 0, .string ⟨#[]⟩, .string ⟨#[]⟩, .string ⟨#[]⟩, .slice none 0 0] 29))) :=
    ⟨h4.quiet (grown_alloc W4 _ none), Loc.new W4 _ _, hs4, grown_trans g14 (grown_alloc W4 _ _), ⟨kept_none (row_weaken ho G3.out.size) (grown_alloc W4 _ none), World.ownsRow_nil _ _ _ _, World.ownsRow_nil _ _ _ _, World.ownsRow_nil _ _ _ _⟩, by omega, by omega⟩
  clear h4 g4 g14 H3 G3 ho
  go_wp2_with fail
  obtain ⟨x, hx⟩ : ∃ x, x = W4.heap.size := ⟨_, rfl⟩
  rw [← hx] at H4 ⊢
  clear hx
  generalize W4.alloc (.cells #[.int .i64 0, .slice sa l.length sc, .slice none 0 0, .slice none 0 0, .int .i64 0, .bool false, .int .i64 0, .int .i64 0, .string ⟨#[]⟩, .string ⟨#[]⟩, .string ⟨#[]⟩, .string ⟨#[]⟩, .int .i64 0, .string ⟨#[]⟩, .string ⟨#[]⟩, .string ⟨#[]⟩, .slice none 0 0] 29) = W5 at H4 ⊢
  obtain ⟨m, hmm⟩ : ∃ m, peekP kWHERE s4 = m := ⟨_, rfl⟩
  have HM := Lib.hid hmm
  clear hmm hs4
  refine (accept_ H4.out.p kWHERE m HM.out).mono ?_
  rintro e W6 ⟨rfl, h6, g6⟩
  have H6 := Lib.hid (H4.out.call h6 g6)
  clear h6 g6 H4
  go_upto_if 21 with fail
  go_cut [] (fun w => ∃ vc, PQ Wz b G (whereP s4).2 x { query0 with spots := l, conds := (whereP s4).1 } (.slice sa l.length sc) vc (.slice none 0 0) (.slice none 0 0) w)
  case first =>
    cases m with
    | false =>
      go_wp2_with fail
      go_meet
      case rel => exact ⟨(.slice none 0 0), by have h := H6.out; rw [show acceptP kWHERE s4 = s4 by unfold acceptP; rw [HM.out]; rfl] at h; rw [show whereP s4 = ([], s4) by unfold whereP; rw [HM.out]; rfl]; exact h⟩
    | true =>
      obtain ⟨cl, s7, hn⟩ : ∃ l az, listP condP kAND 6 (acceptP kWHERE s4) = (l, az) := ⟨_, _, rfl⟩
      have HN := Lib.hid hn
      have hl7 := Pure.acceptP_len kWHERE s4
      clear hn
      go_wp2_with fail
      refine (listCond H6.out.p (by omega) HN.out).mono ?_
      rintro e W7 ⟨v0, rfl, ho, h7, g7⟩
      obtain ⟨ao, ca, rfl, hca⟩ := row_slice (l := cl) ho
      have Ha := H6.out.call h7 g7
      have c2 : W7.cell? ⟨x, 2, none⟩ = some (.slice none 0 0) := (Ha.lx.cell 2).trans rfl
      have f2 : W7.frozen? ⟨x, 2, none⟩ = false := Ha.lx.free 2
      have H7 := Lib.hid (H6.out.conds h7 g7 ho)
      clear Ha ho h7 g7 H6
      go_wp2_with fail
      go_meet
      case rel => exact ⟨_, by rw [show whereP s4 = (cl, s7) by unfold whereP; rw [HM.out]; exact HN.out]; exact H7.out⟩
  case rest =>
    obtain ⟨vc, hq⟩ := hcut
    have hl5 := whereP_len s4
    obtain ⟨⟨l2, s5⟩, hw⟩ : ∃ c, whereP s4 = c := ⟨_, rfl⟩
    rw [hw] at hq HC0 hl5
    simp only at hq HC0 hl5
    have H7 := Lib.hid hq
    clear hq hw H6
    go_wp2_with fail
    refine (action_ H7.out (by omega)).mono ?_
    rintro e W8 ⟨rfl, vi, hq⟩
    obtain ⟨⟨q9, s9⟩, ha⟩ : ∃ c, actionP { query0 with spots := l, conds := l2 } s5 = c := ⟨_, rfl⟩
    rw [ha] at hq HC0
    simp only at hq
    obtain ⟨na, nc, evs, _⟩ := row_slice (l := q9.spots) hq.rows.rs
    obtain ⟨ca, cc, rfl, _⟩ := row_slice (l := q9.conds) hq.rows.rc
    obtain ⟨ia, ic, rfl, _⟩ := row_slice (l := q9.items) hq.rows.rt
    have H8 := Lib.hid hq
    have HL8 := Lib.hid (HL0.out.grown H8.out.grown (by intro e; injection e with e; exact HX0.out.1 e))
    clear hq ha H7 evs
    go_upto_region 10 with fail
    refine wp_region_lit ?_
    refine wpList_load_mid rfl 29 _ rfl x 0 rfl (qC q9 (.slice sa l.length sc) (.slice ca q9.conds.length cc) (.slice ia q9.items.length ic) (.slice none 0 0)).toList _ H8.out.lx.range Tryz.underlying29 rfl (by rw [Tryz.sizeQuery]; rfl) ?_
    refine wpList_store_mid rfl 29 _ _ rfl X0 0 (qC q9 (.slice sa l.length sc) (.slice ca q9.conds.length cc) (.slice ia q9.items.length ic) (.slice none 0 0)) rfl rfl HL8.out.there Tryz.sizeQuery (qC_one _) ?_
    have hF : Loc (W8.setCells X0 0 (qC q9 (.slice sa l.length sc) (.slice ca q9.conds.length cc) (.slice ia q9.items.length ic) (.slice none 0 0)).toList) X0 (qC q9 (.slice sa l.length sc) (.slice ca q9.conds.length cc) (.slice ia q9.items.length ic) (.slice none 0 0)) 29 := HL8.out.setAll rfl
    have hG := grown_setMany X0 (qC q9 (.slice sa l.length sc) (.slice ca q9.conds.length cc) (.slice ia q9.items.length ic) (.slice none 0 0)).toList 0 W8
    have hP : PI b G s9 (W8.setCells X0 0 (qC q9 (.slice sa l.length sc) (.slice ca q9.conds.length cc) (.slice ia q9.items.length ic) (.slice none 0 0)).toList) := H8.out.p.kept hG (by intro e; injection e with e; exact HX0.out.1 e.symm) (by intro e; injection e with e; exact HX0.out.2 e.symm)
    have hR := rows_loc H8.out.rows HL8.out hG
    have hGG : W.grownBy (W8.setCells X0 0 (qC q9 (.slice sa l.length sc) (.slice ca q9.conds.length cc) (.slice ia q9.items.length ic) (.slice none 0 0)).toList) (some b) := grown_far (grown_trans HG0.out H8.out.grown) hG hXW
    obtain ⟨WF, hWF⟩ : ∃ WF, W8.setCells X0 0 (qC q9 (.slice sa l.length sc) (.slice ca q9.conds.length cc) (.slice ia q9.items.length ic) (.slice none 0 0)).toList = WF := ⟨_, rfl⟩
    rw [hWF] at hF hP hR hGG ⊢
    clear hWF hG
    go_wp2_with fail
    refine bodyPost_ret (v := .agg (qC q9 (.slice sa l.length sc) (.slice ca q9.conds.length cc) (.slice ia q9.items.length ic) (.slice none 0 0))) ?_ rfl ?_
    · exact retOne Tryz.results45 rfl hF rfl
    · rw [HC0.out]
      exact ⟨_, _, _, _, rfl, ⟨row_weaken hR.rs (by omega), row_weaken hR.rc (by omega), row_weaken hR.rt (by omega), row_weaken hR.rp (by omega)⟩, hP, hGG⟩

end Go.Proofs.YtobgbmfpicmpcaaGreatDoor

/- Words that are joined by blanks are cut into these words again. No program in this text. -/
namespace Go.Proofs.YtobgbmfpicmpcaaGreatDoor.Pure

/-- A word that, wherever it stands ahead of a blank or of the end, is the token t. -/
structure WordOk (w : ByteArray) (t : Tok) : Prop where
  ne : 0 < w.size
  nb : bt w 0 ≠ 32
  cut : ∀ (s : ByteArray) (k : Nat), (∀ j, j < w.size → bt s (k + j) = bt w j) → k + w.size ≤ s.size → (bt s (k + w.size) = 32 ∨ k + w.size = s.size) → one s k = some (k + w.size, t)
theorem extract_word {w s : ByteArray} {k : Nat} (h : ∀ j, j < w.size → bt s (k + j) = bt w j) (hk : k + w.size ≤ s.size) : s.extract k (k + w.size) = w := by
  have hz := size_extract' s k (k + w.size) hk
  refine ext_bt (by omega) fun j hj => ?_
  rw [bt_extract s k (k + w.size) j hk (by omega), h j (by omega)]
theorem span_to {p : Int → Bool} {s : ByteArray} {e : Nat} : ∀ (n k : Nat), k + n = e → e ≤ s.size → (∀ j, k ≤ j → j < e → p (bt s j) = true) → (e < s.size → p (bt s e) = false) → span p s k = e
  | 0, k, h, he, _, hs => by
    obtain rfl : k = e := by omega
    exact span_stop hs
  | n + 1, k, h, he, hp, hs => by
    rw [span_go (by omega) (hp k (Nat.le_refl _) (by omega))]
    exact span_to n (k + 1) (by omega) he (fun j hj h2 => hp j (by omega) h2) hs
theorem end_stop {p : Int → Bool} {s : ByteArray} {e : Nat} (h32 : p 32 = false) (h : bt s e = 32 ∨ e = s.size) : e < s.size → p (bt s e) = false := by
  intro hl
  rcases h with h | h
  · rw [h]; exact h32
  · omega
theorem isWord_parts {w : ByteArray} (h : isWord w = true) : 1 ≤ w.size ∧ w.size ≤ 8 ∧ letB (bt w 0) = true ∧ ∀ j, j < w.size → alnB (bt w j) = true := by
  unfold isWord at h
  simp only [Bool.and_eq_true, decide_eq_true_eq] at h
  exact ⟨h.1.1.1, h.1.1.2, h.1.2, h.2⟩
theorem word_ok {w : ByteArray} (h : isWord w = true) : WordOk w ⟨1, w, 0⟩ := by
  obtain ⟨h1, h8, hl, ha⟩ := isWord_parts h
  refine ⟨h1, ?_, ?_⟩
  · intro e; rw [e] at hl; exact absurd hl (by decide)
  · intro s k hw hk he
    have hl' : letB (bt s k) = true := by have := hw 0 (by omega); rw [Nat.add_zero] at this; rw [this]; exact hl
    have hsp : span alnB s k = k + w.size := span_to w.size k rfl hk (fun j hj h2 => by
      have := hw (j - k) (by omega)
      rw [show k + (j - k) = j by omega] at this
      rw [this]; exact ha _ (by omega)) (end_stop (by decide) he)
    unfold one
    rw [if_pos hl', hsp, if_neg (by omega), extract_word hw hk]
theorem keyword_word : keywords.all isWord = true := by decide +kernel
theorem key_ok {w : ByteArray} (h : w ∈ keywords) : WordOk w ⟨1, w, 0⟩ := word_ok (List.all_eq_true.1 keyword_word w h)
def marks : List ByteArray := [mOpen, mClose, mColon, mComma, mDot, mDots, mStar, mTo, mArrow, mBrace, mUnbrace, mEq, mNe, mLt, mLe, mGt, mGe]
theorem mark1 {c : UInt8} (h : c.toNat = 46 ∨ c.toNat = 60 ∨ c.toNat = 62 ∨ c.toNat = 40 ∨ c.toNat = 41 ∨ c.toNat = 58 ∨ c.toNat = 44 ∨ c.toNat = 61 ∨ c.toNat = 42 ∨ c.toNat = 123 ∨ c.toNat = 125) : WordOk ⟨#[c]⟩ ⟨3, ⟨#[c]⟩, 0⟩ := by
  have hz : (⟨#[c]⟩ : ByteArray).size = 1 := rfl
  have h0 : bt (⟨#[c]⟩ : ByteArray) 0 = (c.toNat : Int) := rfl
  refine ⟨by omega, by omega, ?_⟩
  intro s k hw hk he
  have ex := extract_word hw hk
  rw [hz] at hw hk he ex ⊢
  have hc := hw 0 (by omega)
  rw [Nat.add_zero, h0] at hc
  have hd : bt s (k + 1) = 32 ∨ bt s (k + 1) = -1 := by
    rcases he with e | e
    · exact Or.inl e
    · exact Or.inr (bt_out (by omega))
  have hm : markLen s k = 1 := by
    unfold markLen
    simp only
    repeat' split
    all_goals omega
  have hl : letB (bt s k) = false := letB_no (by omega)
  have hg : digB (bt s k) = false := digB_no (by omega)
  unfold one
  rw [hl, hg, hm, ex]
  simp
  omega
theorem mark2 {c d : UInt8} (h : (c.toNat = 45 ∧ d.toNat = 91) ∨ (c.toNat = 46 ∧ d.toNat = 46) ∨ (c.toNat = 60 ∧ d.toNat = 61) ∨ (c.toNat = 60 ∧ d.toNat = 62) ∨ (c.toNat = 62 ∧ d.toNat = 61)) : WordOk ⟨#[c, d]⟩ ⟨3, ⟨#[c, d]⟩, 0⟩ := by
  have hz : (⟨#[c, d]⟩ : ByteArray).size = 2 := rfl
  have h0 : bt (⟨#[c, d]⟩ : ByteArray) 0 = (c.toNat : Int) := rfl
  have h1 : bt (⟨#[c, d]⟩ : ByteArray) 1 = (d.toNat : Int) := rfl
  refine ⟨by omega, by omega, ?_⟩
  intro s k hw hk he
  have ex := extract_word hw hk
  rw [hz] at hw hk he ex ⊢
  have hc := hw 0 (by omega)
  have hd := hw 1 (by omega)
  rw [Nat.add_zero, h0] at hc
  rw [h1] at hd
  have hm : markLen s k = 2 := by
    unfold markLen
    simp only
    repeat' split
    all_goals omega
  have hl : letB (bt s k) = false := letB_no (by omega)
  have hg : digB (bt s k) = false := digB_no (by omega)
  have hg2 : digB (bt s (k + 1)) = false := digB_no (by omega)
  unfold one
  rw [hl, hg, hg2, hm, ex]
  simp
theorem mark3 : WordOk mArrow ⟨3, mArrow, 0⟩ := by
  have hz : mArrow.size = 3 := rfl
  have h0 : bt mArrow 0 = 93 := rfl
  have h1 : bt mArrow 1 = 45 := rfl
  have h2 : bt mArrow 2 = 62 := rfl
  refine ⟨by omega, by omega, ?_⟩
  intro s k hw hk he
  have ex := extract_word hw hk
  rw [hz] at hw hk he ex ⊢
  have hc := hw 0 (by omega)
  have hd := hw 1 (by omega)
  have hf := hw 2 (by omega)
  rw [Nat.add_zero, h0] at hc
  rw [h1] at hd
  rw [h2] at hf
  have hm : markLen s k = 3 := by
    unfold markLen
    simp only
    repeat' split
    all_goals omega
  have hl : letB (bt s k) = false := letB_no (by omega)
  have hg : digB (bt s k) = false := digB_no (by omega)
  have hg2 : digB (bt s (k + 1)) = false := digB_no (by omega)
  unfold one
  rw [hl, hg, hg2, hm, ex]
  simp
theorem mark_ok {w : ByteArray} (h : w ∈ marks) : WordOk w ⟨3, w, 0⟩ := by
  simp only [marks, List.mem_cons, List.not_mem_nil, or_false] at h
  rcases h with rfl | rfl | rfl | rfl | rfl | rfl | rfl | rfl | rfl | rfl | rfl | rfl | rfl | rfl | rfl | rfl | rfl
  · exact mark1 (by decide)
  · exact mark1 (by decide)
  · exact mark1 (by decide)
  · exact mark1 (by decide)
  · exact mark1 (by decide)
  · exact mark2 (by decide)
  · exact mark1 (by decide)
  · exact mark2 (by decide)
  · exact mark3
  · exact mark1 (by decide)
  · exact mark1 (by decide)
  · exact mark1 (by decide)
  · exact mark2 (by decide)
  · exact mark1 (by decide)
  · exact mark2 (by decide)
  · exact mark1 (by decide)
  · exact mark2 (by decide)
/-- A numeral. -/
theorem dec_rec {u : Nat} (h : ¬ u < 10) : Lib.decDigits u = Lib.decDigits (u / 10) ++ [UInt8.ofNat (48 + u % 10)] := by rw [Lib.decDigits, dif_neg h]
theorem u8_small (n : Nat) (h : n < 256) : (UInt8.ofNat n).toNat = n := by simp; omega
theorem dec_digits (n : Nat) : ∀ u, u ≤ n → (∀ c ∈ Lib.decDigits u, 48 ≤ c.toNat ∧ c.toNat ≤ 57) ∧ digs 0 (Lib.decDigits u) = u ∧ (∃ c r, Lib.decDigits u = c :: r ∧ (c.toNat = 48 → u = 0 ∧ r = [])) := by
  induction n with
  | zero =>
    intro u hu
    obtain rfl : u = 0 := by omega
    rw [Lib.decDigits_one (by omega)]
    refine ⟨?_, ?_, _, _, rfl, fun _ => ⟨rfl, rfl⟩⟩
    · intro c hc
      rw [List.mem_singleton.1 hc, u8_small _ (by omega)]; omega
    · rw [digs_cons, digs_nil, dgt_eq, u8_small _ (by omega)]
  | succ n ih =>
    intro u hu
    by_cases h : u < 10
    · rw [Lib.decDigits_one h]
      refine ⟨?_, ?_, _, _, rfl, fun e => ⟨?_, rfl⟩⟩
      · intro c hc
        rw [List.mem_singleton.1 hc, u8_small _ (by omega)]; omega
      · rw [digs_cons, digs_nil, dgt_eq, u8_small _ (by omega)]; omega
      · rw [u8_small _ (by omega)] at e; omega
    · rw [dec_rec h]
      obtain ⟨ha, hd, c, r, hcr, hc⟩ := ih (u / 10) (by omega)
      refine ⟨?_, ?_, ?_⟩
      · intro x hx
        rcases List.mem_append.1 hx with hx | hx
        · exact ha x hx
        · rw [List.mem_singleton.1 hx, u8_small _ (by omega)]; omega
      · rw [digs_snoc, hd, dgt_eq, u8_small _ (by omega)]; omega
      · rw [hcr]
        exact ⟨c, r ++ [UInt8.ofNat (48 + u % 10)], rfl, fun e => absurd (hc e).1 (by omega)⟩

end Go.Proofs.YtobgbmfpicmpcaaGreatDoor.Pure

/- Numerals are cut as numbers; a joined text is cut into its words. No program in this text. -/
namespace Go.Proofs.YtobgbmfpicmpcaaGreatDoor.Pure

theorem all_bt {w : ByteArray} {P : Int → Prop} (h : ∀ c ∈ w.data.toList, P (c.toNat : Int)) : ∀ j, j < w.size → P (bt w j) := by
  intro j hj
  have hl : j < w.data.toList.length := by rw [len_toList]; exact hj
  rw [bt_get hl]
  exact h _ (List.getElem_mem hl)
theorem number_ok {n : Int} (h0 : -1000000000 ≤ n) (h1 : n ≤ 1000000000) : WordOk (decB n) ⟨2, decB n, n⟩ := by
  have hd : (decB n).data.toList = Lib.itoa n := by simp [decB]
  by_cases hn : n < 0
  · obtain ⟨u, rfl⟩ : ∃ u : Nat, n = -(u : Int) := ⟨n.natAbs, by omega⟩
    have hi : Lib.itoa (-(u : Int)) = 45 :: Lib.decDigits u := by unfold Lib.itoa; rw [if_pos (by omega)]; simp
    obtain ⟨ha, hg, c, r, hcr, hc⟩ := dec_digits u u (Nat.le_refl _)
    rw [hi] at hd
    have hz : (decB (-(u : Int))).size = (c :: r).length + 1 := by rw [← len_toList, hd, hcr]; rfl
    have hcut : ∀ j, j < (decB (-(u : Int))).size → bt (decB (-(u : Int))) j = (((45 :: Lib.decDigits u)[j]?.getD 0).toNat : Int) := by
      intro j hj
      have hl : j < (decB (-(u : Int))).data.toList.length := by rw [len_toList]; exact hj
      rw [bt_get hl]
      have e : (45 :: Lib.decDigits u)[j]? = some ((decB (-(u : Int))).data.toList[j]) := by rw [← hd]; exact List.getElem?_eq_getElem hl
      rw [e]; rfl
    have b0 : bt (decB (-(u : Int))) 0 = 45 := by rw [hcut 0 (by omega)]; rfl
    have bd : ∀ j, 1 ≤ j → j < (decB (-(u : Int))).size → 48 ≤ bt (decB (-(u : Int))) j ∧ bt (decB (-(u : Int))) j ≤ 57 := by
      intro j h1 hj
      obtain ⟨i, rfl⟩ : ∃ i, j = i + 1 := ⟨j - 1, by omega⟩
      rw [hcut _ hj, List.getElem?_cons_succ]
      have hi : i < (Lib.decDigits u).length := by rw [hcr]; omega
      rw [List.getElem?_eq_getElem hi]
      have := ha _ (List.getElem_mem hi)
      simp only [Option.getD_some]
      omega
    refine ⟨by omega, by omega, ?_⟩
    intro s k hw hk he
    have s0 : bt s k = 45 := by have := hw 0 (by omega); rw [Nat.add_zero, b0] at this; exact this
    have s1 : digB (bt s (k + 1)) = true := by rw [hw 1 (by rw [hz]; simp)]; exact digB_yes (bd 1 (by omega) (by rw [hz]; simp))
    have hsp : span digB s (k + 1) = k + (decB (-(u : Int))).size := span_to ((decB (-(u : Int))).size - 1) (k + 1) (by omega) hk (fun j hj h2 => by
      have := hw (j - k) (by omega)
      rw [show k + (j - k) = j by omega] at this
      rw [this]; exact digB_yes (bd _ (by omega) (by omega))) (end_stop (by decide) he)
    have hv : numL (decB (-(u : Int))).data.toList = some (-(u : Int)) := by
      rw [hd]
      have h45 : (45 : UInt8).toNat = 45 := rfl
      unfold numL
      simp only
      rw [if_pos h45, if_neg, hg]
      rintro (e | e)
      · rw [hcr] at e
        simp only [List.head?_cons, Option.map_some, Option.some.injEq] at e
        have := (hc e).1
        omega
      · rw [hg] at e; omega
    unfold one
    rw [s0, s1, hsp, extract_word hw hk, hv]
    rfl
  · obtain ⟨u, rfl⟩ : ∃ u : Nat, n = (u : Int) := ⟨n.toNat, by omega⟩
    have hi : Lib.itoa (u : Int) = Lib.decDigits u := by unfold Lib.itoa; rw [if_neg (by omega)]; simp
    obtain ⟨ha, hg, c, r, hcr, hc⟩ := dec_digits u u (Nat.le_refl _)
    rw [hi] at hd
    have hz : (decB (u : Int)).size = (c :: r).length := by rw [← len_toList, hd, hcr]
    have hpos : 0 < (decB (u : Int)).size := by rw [hz]; simp
    have bd : ∀ j, j < (decB (u : Int)).size → 48 ≤ bt (decB (u : Int)) j ∧ bt (decB (u : Int)) j ≤ 57 :=
      all_bt (P := fun x => 48 ≤ x ∧ x ≤ 57) (by rw [hd]; intro c hc; have := ha c hc; omega)
    have b0 := bd 0 hpos
    refine ⟨hpos, by omega, ?_⟩
    intro s k hw hk he
    have s0 : bt s k = bt (decB (u : Int)) 0 := by have := hw 0 hpos; rw [Nat.add_zero] at this; exact this
    have hsp : span digB s (k + 1) = k + (decB (u : Int)).size := span_to ((decB (u : Int)).size - 1) (k + 1) (by omega) hk (fun j hj h2 => by
      have := hw (j - k) (by omega)
      rw [show k + (j - k) = j by omega] at this
      rw [this]; exact digB_yes (bd _ (by omega))) (end_stop (by decide) he)
    have hv : numL (decB (u : Int)).data.toList = some (u : Int) := by
      rw [hd, hcr]
      have hc48 := ha c (by rw [hcr]; simp)
      unfold numL
      simp only
      rw [if_neg (by omega), if_neg, ← hcr, hg]
      rintro (⟨e, e2⟩ | e)
      · exact e2 (hc e).2
      · rw [← hcr, hg] at e; omega
    unfold one
    rw [s0, letB_no (by omega), digB_yes b0, hsp, extract_word hw hk, hv]
    rfl
theorem bt_drop {s : ByteArray} {k : Nat} {l : List UInt8} (h : s.data.toList.drop k = l) (j : Nat) (hj : j < l.length) : bt s (k + j) = ((l[j]'hj).toNat : Int) := by
  have hl : k + j < s.data.toList.length := by
    have := congrArg List.length h
    rw [List.length_drop] at this
    omega
  rw [bt_get hl]
  subst h
  rw [List.getElem_drop]
theorem run_word {s : ByteArray} {k : Nat} {w : ByteArray} {t : Tok} {r : List ByteArray} (hw : WordOk w t) (h : s.data.toList.drop k = bl w ++ spaced r) : run s k = (run s (k + w.size)).map (t :: ·) ∧ s.data.toList.drop (k + w.size) = spaced r := by
  have hlen : (bl w).length = w.size := len_toList w
  have hz := congrArg List.length h
  rw [List.length_drop, List.length_append, hlen, len_toList] at hz
  have hd : s.data.toList.drop (k + w.size) = spaced r := by
    rw [← List.drop_drop, h, List.drop_append, hlen]
    simp [← hlen]
  have h1 : ∀ j, j < w.size → bt s (k + j) = bt w j := by
    intro j hj
    rw [bt_drop h j (by rw [List.length_append, hlen]; omega), bt_get (by rw [len_toList]; exact hj), List.getElem_append_left (by rw [hlen]; exact hj)]
    rfl
  have hne := hw.ne
  have he : bt s (k + w.size) = 32 ∨ k + w.size = s.size := by
    cases r with
    | nil =>
      right
      rw [spaced_nil] at hz
      simp only [List.length_nil] at hz
      omega
    | cons a r =>
      left
      rw [spaced_cons] at hd
      have := bt_drop hd 0 (by simp)
      rw [Nat.add_zero] at this
      rw [this]; rfl
  have ho := hw.cut s k h1 (by omega) he
  refine ⟨run_tok (by omega) ?_ ho, hd⟩
  have := h1 0 hne
  rw [Nat.add_zero] at this
  rw [this]; exact hw.nb
theorem run_spaced : ∀ (ps : List (ByteArray × Tok)), (∀ p ∈ ps, WordOk p.1 p.2) → ∀ (s : ByteArray) (k : Nat), s.data.toList.drop k = spaced (ps.map (·.1)) → run s k = some (ps.map (·.2))
  | [], _, s, k, h => by
    rw [List.map_nil, spaced_nil] at h
    have := congrArg List.length h
    rw [List.length_drop, len_toList] at this
    simp only [List.length_nil] at this
    rw [run_end (by omega)]; rfl
  | (w, t) :: r, hp, s, k, h => by
    simp only [List.map_cons] at h ⊢
    rw [spaced_cons] at h
    have h32 := bt_drop h 0 (by simp)
    rw [Nat.add_zero] at h32
    have hz := congrArg List.length h
    rw [List.length_drop, len_toList] at hz
    simp only [List.length_cons] at hz
    have hd : s.data.toList.drop (k + 1) = bl w ++ spaced (r.map (·.1)) := by rw [← List.drop_drop, h]; rfl
    obtain ⟨e1, e2⟩ := run_word (hp (w, t) (by simp)) hd
    rw [run_blank (by omega) (by rw [h32]; rfl), e1, run_spaced r (fun p h => hp p (by simp [h])) s _ e2]
    rfl
/-- A text of words is cut into these. -/
theorem run_joined {ps : List (ByteArray × Tok)} (hp : ∀ p ∈ ps, WordOk p.1 p.2) : run ⟨(joined (ps.map (·.1))).toArray⟩ 0 = some (ps.map (·.2)) := by
  cases ps with
  | nil => rw [run_end]; rfl; simp [joined, Lib.join, List.intercalate, ByteArray.size]
  | cons p r =>
    obtain ⟨w, t⟩ := p
    have h : (⟨(joined (((w, t) :: r).map (·.1))).toArray⟩ : ByteArray).data.toList.drop 0 = bl w ++ spaced (r.map (·.1)) := by
      simp only [List.map_cons, List.drop_zero]
      rw [joined_cons]
    obtain ⟨e1, e2⟩ := run_word (hp (w, t) (by simp)) h
    rw [e1, run_spaced r (fun p h => hp p (by simp [h])) _ _ e2]
    rfl

end Go.Proofs.YtobgbmfpicmpcaaGreatDoor.Pure

/- Words that were written are read: terms, spots, conditions, items, pairs. No program in this text. -/
namespace Go.Proofs.YtobgbmfpicmpcaaGreatDoor

/-- What reading can answer, part by part. -/
def inInt (n : Int) : Prop := -1000000000 ≤ n ∧ n ≤ 1000000000
def GoodTerm (t : PTerm) : Prop := (t.name = e0 ∧ t.key = e0 ∧ inInt t.val) ∨ (isName t.name = true ∧ isName t.key = true ∧ t.val = 0)
structure GoodSpot (s : PSpot) : Prop where
  nam : isName s.name = true
  lab : s.label = e0 ∨ isTitle s.label = true
  typ : (s.type = e0 ∧ s.least = 0 ∧ s.most = 0) ∨ (isTitle s.type = true ∧ 0 ≤ s.least ∧ s.least ≤ s.most ∧ s.most ≤ 4)
structure GoodCond (c : PCond) : Prop where
  ops : 1 ≤ c.op ∧ c.op ≤ 8
  lef : GoodTerm c.a
  rig : (c.op ≤ 6 ∧ GoodTerm c.b) ∨ (7 ≤ c.op ∧ c.b = term0)
def GoodItem (x : PItem) : Prop := (x.name = e0 ∧ x.key = e0) ∨ (isName x.name = true ∧ (x.key = e0 ∨ isName x.key = true))
def GoodPair (p : PPair) : Prop := isName p.key = true ∧ inInt p.val

end Go.Proofs.YtobgbmfpicmpcaaGreatDoor
namespace Go.Proofs.YtobgbmfpicmpcaaGreatDoor.Pure

def tokOf (w : ByteArray) : Tok := ((one w 0).map (·.2)).getD tok0
theorem tokOf_of {w : ByteArray} {t : Tok} (h : WordOk w t) : tokOf w = t := by
  have := h.cut w 0 (fun j _ => by rw [Nat.zero_add]) (by omega) (Or.inr (by omega))
  unfold tokOf
  rw [this]; rfl
theorem lits_split {w : ByteArray} (h : w ∈ lits) : w ∈ keywords ∨ w ∈ marks := List.mem_append.1 h
theorem lit_ok {w : ByteArray} (h : w ∈ lits) : ∃ k, WordOk w ⟨k, w, 0⟩ := by
  rcases lits_split h with h | h
  · exact ⟨1, key_ok h⟩
  · exact ⟨3, mark_ok h⟩
theorem lit_text {w : ByteArray} (h : w ∈ lits) : (tokOf w).text = w := by
  obtain ⟨k, hk⟩ := lit_ok h
  rw [tokOf_of hk]
theorem name_word {w : ByteArray} (h : isName w = true) : isWord w = true ∧ 97 ≤ bt w 0 := by
  unfold isName at h
  simpa using h
theorem title_word {w : ByteArray} (h : isTitle w = true) : isWord w = true ∧ bt w 0 < 97 ∧ isKeyword w = false := by
  unfold isTitle at h
  simp only [Bool.and_eq_true, decide_eq_true_eq, Bool.not_eq_true'] at h
  exact ⟨h.1.1, h.1.2, h.2⟩
theorem tok_name {w : ByteArray} (h : isName w = true) : tokOf w = ⟨1, w, 0⟩ := tokOf_of (word_ok (name_word h).1)
theorem tok_title {w : ByteArray} (h : isTitle w = true) : tokOf w = ⟨1, w, 0⟩ := tokOf_of (word_ok (title_word h).1)
theorem tok_num {n : Int} (h : inInt n) : tokOf (decB n) = ⟨2, decB n, n⟩ := tokOf_of (number_ok h.1 h.2)
def K (ws : List ByteArray) : List Tok := ws.map tokOf
theorem K_nil : K [] = [] := rfl
theorem K_cons (w : ByteArray) (r : List ByteArray) : K (w :: r) = tokOf w :: K r := rfl
theorem K_append (a b : List ByteArray) : K (a ++ b) = K a ++ K b := by unfold K; rw [List.map_append]
theorem peek_yes {w : ByteArray} (h : w ∈ lits) (r : List Tok) : peekP w ⟨tokOf w :: r, false⟩ = true := by
  unfold peekP; simp only [lit_text h]; exact eqB_refl w
theorem peek_lit {v w : ByteArray} (h : v ∈ lits) (r : List Tok) : peekP w ⟨tokOf v :: r, false⟩ = eqB v w := by
  unfold peekP; simp only [lit_text h]
theorem accept_yes {w : ByteArray} (h : w ∈ lits) (r : List Tok) : acceptP w ⟨tokOf w :: r, false⟩ = ⟨r, false⟩ := by
  unfold acceptP; rw [peek_yes h, if_pos rfl]; rfl
theorem accept_no {w : ByteArray} {st : RS} (h : peekP w st = false) : acceptP w st = st := by unfold acceptP; rw [h]; rfl
theorem expect_yes {w : ByteArray} (h : w ∈ lits) (r : List Tok) : expectP w ⟨tokOf w :: r, false⟩ = ⟨r, false⟩ := by
  unfold expectP; rw [peek_yes h, if_pos rfl, accept_yes h]
theorem lits_first : lits.all (fun w => decide (bt w 0 < 97 ∨ 122 < bt w 0)) = true := by decide +kernel
theorem peek_name {n w : ByteArray} (h : isName n = true) (hw : w ∈ lits) (r : List Tok) : peekP w ⟨tokOf n :: r, false⟩ = false := by
  unfold peekP
  simp only [tok_name h]
  cases he : eqB n w
  · rfl
  · obtain rfl := eqB_eq he
    have h1 := List.all_eq_true.1 lits_first n hw
    simp only [decide_eq_true_eq] at h1
    have h2 := (name_word h).2
    have h3 := of_letB (isWord_parts (name_word h).1).2.2.1
    omega
theorem name_ok {n : ByteArray} (h : isName n = true) (r : List Tok) : nameP ⟨tokOf n :: r, false⟩ = (n, ⟨r, false⟩) := by
  have hk : kindP (tokOf n) = 1 := by rw [tok_name h]; unfold kindP kindW; simp [h]
  unfold nameP takeP seesP
  simp only [hk, decide_true, if_true, List.headD_cons, List.tail_cons]
  rw [tok_name h]
theorem title_ok {n : ByteArray} (h : isTitle n = true) (r : List Tok) : titleP ⟨tokOf n :: r, false⟩ = (n, ⟨r, false⟩) := by
  have hn : isName n = false := by
    cases hx : isName n
    · rfl
    · have a := (name_word hx).2; have b := (title_word h).2.1; omega
  have hk : kindP (tokOf n) = 2 := by rw [tok_title h]; unfold kindP kindW; simp [h, hn]
  unfold titleP takeP seesP
  simp only [hk, decide_true, if_true, List.headD_cons, List.tail_cons]
  rw [tok_title h]
theorem num_kind {n : Int} (h : inInt n) : kindP (tokOf (decB n)) = 4 := by rw [tok_num h]; rfl
theorem num_ok {n lo hi : Int} (h : inInt n) (hlo : lo ≤ n) (hhi : n ≤ hi) (r : List Tok) : numberP lo hi ⟨tokOf (decB n) :: r, false⟩ = (n, ⟨r, false⟩) := by
  have hk := num_kind h
  have ht : takeP 4 ⟨tokOf (decB n) :: r, false⟩ = (tokOf (decB n), ⟨r, false⟩) := by
    unfold takeP seesP
    simp [hk]
  unfold numberP
  rw [ht, tok_num h]
  simp only
  rw [if_neg (by omega)]
theorem e0_isEmpty : e0.toList.isEmpty = true := by decide +kernel
theorem word_nonempty {w : ByteArray} (h : isWord w = true) : w.toList.isEmpty = false := by
  have := (isWord_parts h).1
  cases he : w.toList.isEmpty
  · rfl
  · rw [ByteArray.toList_eq] at he
    have hl := len_toList w
    rw [List.isEmpty_iff.1 he] at hl
    simp at hl
    omega
theorem name_nonempty {w : ByteArray} (h : isName w = true) : w.toList.isEmpty = false := word_nonempty (name_word h).1
theorem title_nonempty {w : ByteArray} (h : isTitle w = true) : w.toList.isEmpty = false := word_nonempty (title_word h).1

theorem prop_ok {n k : ByteArray} (h1 : isName n = true) (h2 : isName k = true) (r : List Tok) : propP ⟨tokOf n :: tokOf mDot :: tokOf k :: r, false⟩ = ((n, k), ⟨r, false⟩) := by
  unfold propP
  simp only [name_ok h1, expect_yes (w := mDot) (by simp [lits]), name_ok h2]
theorem term_ok {t : PTerm} (h : GoodTerm t) (r : List Tok) : termP ⟨K (termW t) ++ r, false⟩ = (t, ⟨r, false⟩) := by
  rcases h with ⟨h1, h2, h3⟩ | ⟨h1, h2, h3⟩
  · have hw : termW t = [decB t.val] := by unfold termW; rw [h1, e0_isEmpty]; rfl
    rw [hw, K_cons, K_nil, List.cons_append, List.nil_append]
    unfold termP
    have hs : seesP 4 ⟨tokOf (decB t.val) :: r, false⟩ = true := by unfold seesP; simp [num_kind h3]
    rw [hs, if_pos rfl, num_ok h3 h3.1 h3.2]
    cases t; simp only at h1 h2 h3 ⊢; rw [h1, h2]
  · have hw : termW t = [t.name, mDot, t.key] := by unfold termW; rw [name_nonempty h1]; rfl
    rw [hw]
    simp only [K_cons, K_nil, List.cons_append, List.nil_append]
    unfold termP
    have hs : seesP 4 ⟨tokOf t.name :: tokOf mDot :: tokOf t.key :: r, false⟩ = false := by
      unfold seesP; simp only [tok_name h1]; unfold kindP kindW; simp [h1]
    rw [hs, if_neg (by simp), prop_ok h1 h2]
    cases t; simp only at h1 h2 h3 ⊢; rw [h3]
theorem node_ok {s : PSpot} (h : GoodSpot s) (x : PSpot) (hx : x.label = e0) (r : List Tok) : spotP x ⟨K (nodeW s) ++ r, false⟩ = (⟨s.name, s.label, x.type, x.least, x.most⟩, ⟨r, false⟩) := by
  unfold nodeW
  rcases h.lab with hl | hl
  · rw [hl, e0_isEmpty]
    simp only [if_true, List.nil_append, List.cons_append, K_cons, K_nil]
    unfold spotP
    simp only [expect_yes (w := mOpen) (by simp [lits]), name_ok h.nam, peek_lit (v := mClose) (w := mColon) (by simp [lits]), show eqB mClose mColon = false by decide +kernel, Bool.false_eq_true, if_false, expect_yes (w := mClose) (by simp [lits]), hx]
  · rw [title_nonempty hl]
    simp only [Bool.false_eq_true, if_false, List.nil_append, List.cons_append, K_cons, K_nil]
    unfold spotP
    simp only [expect_yes (w := mOpen) (by simp [lits]), name_ok h.nam, peek_yes (w := mColon) (by simp [lits]), accept_yes (w := mColon) (by simp [lits]), title_ok hl, if_true, expect_yes (w := mClose) (by simp [lits])]
theorem small_int {n : Int} (h0 : 0 ≤ n) (h4 : n ≤ 4) : inInt n := ⟨by omega, by omega⟩
theorem step_ok {s : PSpot} (ht : isTitle s.type = true) (h0 : 0 ≤ s.least) (h1 : s.least ≤ s.most) (h4 : s.most ≤ 4) (r : List Tok) : stepP (acceptP mTo ⟨K (stepW s) ++ r, false⟩) = (⟨e0, e0, s.type, s.least, s.most⟩, ⟨r, false⟩) := by
  unfold stepW
  by_cases hs : s.least = 1 ∧ s.most = 1
  · rw [if_pos hs]
    simp only [List.nil_append, List.cons_append, K_cons, K_nil]
    rw [accept_yes (by simp [lits])]
    unfold stepP starP
    simp only [title_ok ht, peek_lit (v := mArrow) (w := mStar) (by simp [lits]), show eqB mArrow mStar = false by decide +kernel, Bool.false_eq_true, if_false, expect_yes (w := mArrow) (by simp [lits]), hs.1, hs.2]
  · rw [if_neg hs]
    simp only [List.nil_append, List.cons_append, K_cons, K_nil]
    rw [accept_yes (by simp [lits])]
    unfold stepP starP
    simp only [title_ok ht, peek_yes (w := mStar) (by simp [lits]), accept_yes (w := mStar) (by simp [lits]), if_true, num_ok (small_int h0 (by omega)) h0 (show s.least ≤ 4 by omega), expect_yes (w := mDots) (by simp [lits]), num_ok (small_int (by omega) h4) h1 h4, expect_yes (w := mArrow) (by simp [lits])]
theorem hop_ok {s : PSpot} (h : GoodSpot s) (ht : isTitle s.type = true) (h0 : 0 ≤ s.least) (h1 : s.least ≤ s.most) (h4 : s.most ≤ 4) (r : List Tok) : hopP (acceptP mTo ⟨K (stepW s ++ nodeW s) ++ r, false⟩) = (s, ⟨r, false⟩) := by
  unfold hopP
  rw [K_append, List.append_assoc, step_ok ht h0 h1 h4, node_ok h _ rfl]

end Go.Proofs.YtobgbmfpicmpcaaGreatDoor.Pure

