/- The program's parser: lists. -/
import Derived.Test.YtobgbmfpicmpcaaGreatDoorC06
namespace Go.Proofs.YtobgbmfpicmpcaaGreatDoor
open Go.RowKit

theorem peekP_some {s : ByteArray} {st : RS} (h : peekP s st = true) : 0 < st.rest.length := by
  unfold peekP at h
  split at h
  · cases h
  · rename_i e; rw [e]; simp
theorem acceptP_less {s : ByteArray} {st : RS} (h : peekP s st = true) : (acceptP s st).rest.length + 1 = st.rest.length := by
  have := peekP_some h
  unfold acceptP; rw [if_pos h]; simp; omega
theorem listLoop_more {α : Type} {one : RS → α × RS} {sep : ByteArray} {n : Nat} {out : List α} {st s2 : RS} {x : α} (h : peekP sep st = true) (hx : one (acceptP sep st) = (x, s2)) : listLoop one sep (n + 1) out st = listLoop one sep n (out ++ [x]) s2 := by
  simp only [listLoop, h, if_true, hx]
theorem listLoop_end {α : Type} {one : RS → α × RS} {sep : ByteArray} {n : Nat} {out : List α} {st : RS} (h : peekP sep st = false) : listLoop one sep n out st = (out, st) := by
  cases n with
  | zero => rfl
  | succ n => simp only [listLoop, h]; rfl
/-- The parser beside a row that the call has made. -/
structure PL (W0 : World) (b G : Nat) (st : RS) (T : TypeId) (k : Nat) (v : Value) (n : Nat) (xs : List Value) (w : World) : Prop where
  p : PI b G st w
  row : w.ownsRow W0.heap.size T k v n xs
  grown : W0.grownBy w (some b)
  gw : G < W0.heap.size
  bw : b < W0.heap.size
theorem PL.call {W0 w w' : World} {b G : Nat} {st st' : RS} {T : TypeId} {k n : Nat} {v : Value} {xs : List Value} (h : PL W0 b G st T k v n xs w) (h1 : PI b G st' w') (g1 : w.grownBy w' (some b)) : PL W0 b G st' T k v n xs w' := by
  refine ⟨h1, h.row.kept g1 (Or.inr ?_), grown_trans h.grown g1, h.gw, h.bw⟩
  intro e
  have := (h.row.lt b e).1
  have := h.bw
  omega
theorem PL.quiet {W0 w w' : World} {b G : Nat} {st : RS} {T : TypeId} {k n : Nat} {v : Value} {xs : List Value} (h : PL W0 b G st T k v n xs w) (g : w.grownBy w' none) : PL W0 b G st T k v n xs w' := h.call (h.p.quiet g) (grown_any g _)
theorem PL.more {W0 w w2 : World} {b G : Nat} {st : RS} {T : TypeId} {k n n2 : Nat} {v v2 : Value} {xs xs2 : List Value} (h : PL W0 b G st T k v n xs w) (g : w.grownBy w2 v.ownBlock) (ho : w2.ownsRow W0.heap.size T k v2 n2 xs2) : PL W0 b G st T k v2 n2 xs2 w2 := by
  have hs := h.grown.size
  have hb := h.bw
  have hg := h.gw
  refine ⟨h.p.kept g ?_ ?_, ho, ⟨g.os.trans h.grown.os, g.tape.trans h.grown.tape, g.output.trans h.grown.output, Nat.le_trans hs g.size, fun j hj hne => (g.block j (by omega) ?_).trans (h.grown.block j hj hne)⟩, h.gw, h.bw⟩
  · intro e; have := (h.row.lt b e.symm).1; omega
  · intro e; have := (h.row.lt G e.symm).1; omega
  · intro e; have := (h.row.lt j e.symm).1; omega

set_option maxRecDepth 100000 in
set_option maxHeartbeats 4000000 in
theorem listPair {b G : Nat} {st s1 : RS} {sep : ByteArray} {l : List PPair} {W : World} (h : PI b G st W) (hl : st.rest.length ≤ 2000) (hn : listP pairP sep 6 st = (l, s1)) :
    Calls Tryz.prog 157 #[.pointer (some ⟨b, 0, none⟩), .string sep, .int .i64 6, .func (.func 158) #[.pointer (some ⟨b, 0, none⟩)] #[]] W fun e W' => ∃ v, e = .returned v ∧ W'.ownsRow W.heap.size 91 2 v l.length (pairCells l) ∧ PI b G s1 W' ∧ W.grownBy W' (some b) := by
  obtain ⟨i1, hj, hy0, hy1, hy2⟩ := info_parts Tryz.infoPair
  obtain ⟨x0, a1, ha⟩ : ∃ x0 az, pairP st = (x0, az) := ⟨_, _, rfl⟩
  obtain ⟨L, a2, hL⟩ : ∃ L az, listLoop pairP sep a1.rest.length [x0] a1 = (L, az) := ⟨_, _, rfl⟩
  have e : (L, if 6 < L.length then failP else a2) = (l, s1) := by rw [← hn]; unfold listP; simp only [ha, hL]
  injection e with e1 e2
  subst e1
  have hl1 := Pure.pairP_len st
  rw [ha] at hl1
  have HA := Lib.hid ha
  have HL := Lib.hid hL
  have HE := Lib.hid e2
  have HH := Lib.hid h
  have hgw := h.far.2
  have hbw : b < W.heap.size := by obtain ⟨_, _, hb, _⟩ := h.box; exact hb.lt
  clear h hn ha hL e2
  go_enter Tryz.func157, Tryz.ntmps157
  go_wp2_with fail
  refine (pair_ HH.out HA.out).mono ?_
  rintro e W1 ⟨rfl, h1, g1⟩
  have hsz := g1.size
  have H1 : Hid (PL W b G a1 91 2 (.slice (some ⟨W1.heap.size, 0, none⟩) 1 1) 1 (pairCells [x0]) (W1.alloc (.cells #[.string x0.key, .int .i64 x0.val] 91))) :=
    ⟨h1.quiet (grown_alloc W1 _ none), World.ownsRow_lit (size := 2) W1 #[.string x0.key, .int .i64 x0.val] 1 hsz (by unfold maxLen; omega) rfl, grown_trans g1 (grown_alloc W1 _ _), hgw, hbw⟩
  clear h1 g1 HH
  go_upto_block 0 with fail
  obtain ⟨V, hV⟩ : ∃ V, V = Value.slice (some ⟨W1.heap.size, 0, none⟩) 1 1 := ⟨_, rfl⟩
  rw [← hV] at H1 ⊢
  clear hV
  generalize W1.alloc (.cells #[.string x0.key, .int .i64 x0.val] 91) = W2 at H1 ⊢
  clear hsz
  go_cut [9] (fun v w => PL W b G a2 91 2 v L.length (pairCells L) w ∧ L.length + a2.rest.length ≤ 2001)
  case first =>
    go_wp2_with fail
    go_loopg [9] (a1.rest.length + 1) (fun m v w => ∃ out s' n, PL W b G s' 91 2 v out.length (pairCells out) w ∧ listLoop pairP sep n out s' = (L, a2) ∧ s'.rest.length ≤ n ∧ s'.rest.length + 1 ≤ m ∧ out.length + s'.rest.length ≤ 2001)
    case atStart => exact ⟨[x0], a1, a1.rest.length, H1.out, HL.out, Nat.le_refl _, by omega, by simp; omega⟩
    case round =>
      obtain ⟨out, s', n, hq, hlp, hsn, hsm, hos⟩ := hrel
      have HQ := Lib.hid hq
      have HLP := Lib.hid hlp
      clear hq hlp H1 HL
      cases hm : peekP sep s' with
      | false =>
        have HM := Lib.hid hm
        clear hm
        go_wp2_with fail
        refine (accept_ HQ.out.p sep false HM.out).mono ?_
        rintro e W3 ⟨rfl, h3, g3⟩
        rw [show acceptP sep s' = s' by unfold acceptP; rw [HM.out]; rfl] at h3
        have H3 := Lib.hid (HQ.out.call h3 g3)
        clear h3 g3 HQ
        go_wp2_with fail
        go_meet
        case rel =>
          have e := HLP.out
          rw [listLoop_end HM.out] at e
          injection e with e1 e2
          subst e1; subst e2
          exact ⟨H3.out, hos⟩
      | true =>
        have HM := Lib.hid hm
        have hless := acceptP_less hm
        obtain ⟨x, s2, hx⟩ : ∃ x az, pairP (acceptP sep s') = (x, az) := ⟨_, _, rfl⟩
        have hxl := Pure.pairP_len (acceptP sep s')
        rw [hx] at hxl
        have HX := Lib.hid hx
        obtain ⟨n2, hn2⟩ : ∃ n2, n = n2 + 1 := ⟨n - 1, by omega⟩
        subst hn2
        clear hm hx
        go_wp2_with fail
        refine (accept_ HQ.out.p sep true HM.out).mono ?_
        rintro e W3 ⟨rfl, h3, g3⟩
        have H3 := Lib.hid (HQ.out.call h3 g3)
        clear h3 g3 HQ
        go_wp2_with fail
        refine (pair_ H3.out.p HX.out).mono ?_
        rintro e W4 ⟨rfl, h4, g4⟩
        have H4 := Lib.hid (H3.out.call h4 g4)
        clear h4 g4 H3
        have HD := Lib.hid (H4.out.quiet (grown_alloc W4 (.cells #[.string x.key, .int .i64 x.val] 91) none))
        obtain ⟨pa, pc, hshape⟩ : ∃ ao cap, u9 = .slice ao out.length cap := by
          obtain ⟨ao, cap, e, _⟩ := row_slice (l := out) HD.out.row
          exact ⟨ao, cap, e⟩
        subst hshape
        clear H4
        go_wp2_with (at_builtin; go_must (refine wpList_append_lies _ rfl _ _ 27 rfl W.heap.size 91 i1 (.agg #[.string ⟨#[]⟩, .int .i64 0]) 2 24 Tryz.underlying27 hj hy0 hy1 hy2 rfl (by decide) (.slice pa out.length pc) _ _ rfl HD.out.row _ 1 1 [.string x.key, .int .i64 x.val] rfl rfl (World.news_of_block (heap_alloc_new W4 _)) pair_one (by omega) (by unfold maxLen; omega) (by omega) HD.out.grown.size _ rfl ?_; intro g2 cap2 w5 hown hgrow _ _; have H5 := Lib.hid (HD.out.more hgrow hown); clear hown hgrow))
        go_roundg (gk - 1)
        case measure => omega
        case rel =>
          refine ⟨out ++ [x], s2, n2, ?_, ?_, by omega, by omega, by rw [List.length_append]; simp; omega⟩
          · rw [pairCells_snoc, List.length_append]; exact H5.out
          · rw [← HLP.out, listLoop_more HM.out HX.out]
  case rest =>
    obtain ⟨hq, hos⟩ := hcut
    have HQ := Lib.hid hq
    obtain ⟨pa, pc, hshape⟩ : ∃ ao cap, u9 = .slice ao L.length cap := by
      obtain ⟨ao, cap, e, _⟩ := row_slice (l := L) hq.row
      exact ⟨ao, cap, e⟩
    subst hshape
    clear hq H1
    by_cases h6 : 6 < L.length
    · have HS : Hid (s1 = failP) := by show _ = _; rw [← HE.out, if_pos h6]
      have h6i : (6 : Int) < (L.length : Int) := by omega
      go_wp2_with fail
      refine (fail_ HQ.out.p).mono ?_
      rintro e W3 ⟨rfl, h3, g3⟩
      have H3 := Lib.hid (HQ.out.call h3 g3)
      clear h3 g3
      go_wp2_with fail
      refine bodyPost_ret (v := .slice pa L.length pc) ?_ rfl ⟨_, rfl, H3.out.row, by rw [HS.out]; exact H3.out.p, H3.out.grown⟩
      simp [results, Tryz.results157, go_sem]
    · have HS : Hid (s1 = a2) := by show _ = _; rw [← HE.out, if_neg h6]
      have h6i : ¬ (6 : Int) < (L.length : Int) := by omega
      go_wp2_with fail
      refine bodyPost_ret (v := .slice pa L.length pc) ?_ rfl ⟨_, rfl, HQ.out.row, by rw [HS.out]; exact HQ.out.p, HQ.out.grown⟩
      simp [results, Tryz.results157, go_sem]

set_option maxRecDepth 100000 in
set_option maxHeartbeats 4000000 in
theorem listItem {b G : Nat} {st s1 : RS} {sep : ByteArray} {l : List PItem} {W : World} (h : PI b G st W) (hl : st.rest.length ≤ 2000) (hn : listP itemP sep 6 st = (l, s1)) :
    Calls Tryz.prog 220 #[.pointer (some ⟨b, 0, none⟩), .string sep, .int .i64 6, .func (.func 221) #[.pointer (some ⟨b, 0, none⟩)] #[]] W fun e W' => ∃ v, e = .returned v ∧ W'.ownsRow W.heap.size 89 2 v l.length (itemCells l) ∧ PI b G s1 W' ∧ W.grownBy W' (some b) := by
  obtain ⟨i1, hj, hy0, hy1, hy2⟩ := info_parts Tryz.infoItem
  obtain ⟨x0, a1, ha⟩ : ∃ x0 az, itemP st = (x0, az) := ⟨_, _, rfl⟩
  obtain ⟨L, a2, hL⟩ : ∃ L az, listLoop itemP sep a1.rest.length [x0] a1 = (L, az) := ⟨_, _, rfl⟩
  have e : (L, if 6 < L.length then failP else a2) = (l, s1) := by rw [← hn]; unfold listP; simp only [ha, hL]
  injection e with e1 e2
  subst e1
  have hl1 := Pure.itemP_len st
  rw [ha] at hl1
  have HA := Lib.hid ha
  have HL := Lib.hid hL
  have HE := Lib.hid e2
  have HH := Lib.hid h
  have hgw := h.far.2
  have hbw : b < W.heap.size := by obtain ⟨_, _, hb, _⟩ := h.box; exact hb.lt
  clear h hn ha hL e2
  go_enter Tryz.func220, Tryz.ntmps220
  go_wp2_with fail
  refine (item_ HH.out HA.out).mono ?_
  rintro e W1 ⟨rfl, h1, g1⟩
  have hsz := g1.size
  have H1 : Hid (PL W b G a1 89 2 (.slice (some ⟨W1.heap.size, 0, none⟩) 1 1) 1 (itemCells [x0]) (W1.alloc (.cells #[.string x0.name, .string x0.key] 89))) :=
    ⟨h1.quiet (grown_alloc W1 _ none), World.ownsRow_lit (size := 2) W1 #[.string x0.name, .string x0.key] 1 hsz (by unfold maxLen; omega) rfl, grown_trans g1 (grown_alloc W1 _ _), hgw, hbw⟩
  clear h1 g1 HH
  go_upto_block 0 with fail
  obtain ⟨V, hV⟩ : ∃ V, V = Value.slice (some ⟨W1.heap.size, 0, none⟩) 1 1 := ⟨_, rfl⟩
  rw [← hV] at H1 ⊢
  clear hV
  generalize W1.alloc (.cells #[.string x0.name, .string x0.key] 89) = W2 at H1 ⊢
  clear hsz
  go_cut [9] (fun v w => PL W b G a2 89 2 v L.length (itemCells L) w ∧ L.length + a2.rest.length ≤ 2001)
  case first =>
    go_wp2_with fail
    go_loopg [9] (a1.rest.length + 1) (fun m v w => ∃ out s' n, PL W b G s' 89 2 v out.length (itemCells out) w ∧ listLoop itemP sep n out s' = (L, a2) ∧ s'.rest.length ≤ n ∧ s'.rest.length + 1 ≤ m ∧ out.length + s'.rest.length ≤ 2001)
    case atStart => exact ⟨[x0], a1, a1.rest.length, H1.out, HL.out, Nat.le_refl _, by omega, by simp; omega⟩
    case round =>
      obtain ⟨out, s', n, hq, hlp, hsn, hsm, hos⟩ := hrel
      have HQ := Lib.hid hq
      have HLP := Lib.hid hlp
      clear hq hlp H1 HL
      cases hm : peekP sep s' with
      | false =>
        have HM := Lib.hid hm
        clear hm
        go_wp2_with fail
        refine (accept_ HQ.out.p sep false HM.out).mono ?_
        rintro e W3 ⟨rfl, h3, g3⟩
        rw [show acceptP sep s' = s' by unfold acceptP; rw [HM.out]; rfl] at h3
        have H3 := Lib.hid (HQ.out.call h3 g3)
        clear h3 g3 HQ
        go_wp2_with fail
        go_meet
        case rel =>
          have e := HLP.out
          rw [listLoop_end HM.out] at e
          injection e with e1 e2
          subst e1; subst e2
          exact ⟨H3.out, hos⟩
      | true =>
        have HM := Lib.hid hm
        have hless := acceptP_less hm
        obtain ⟨x, s2, hx⟩ : ∃ x az, itemP (acceptP sep s') = (x, az) := ⟨_, _, rfl⟩
        have hxl := Pure.itemP_len (acceptP sep s')
        rw [hx] at hxl
        have HX := Lib.hid hx
        obtain ⟨n2, hn2⟩ : ∃ n2, n = n2 + 1 := ⟨n - 1, by omega⟩
        subst hn2
        clear hm hx
        go_wp2_with fail
        refine (accept_ HQ.out.p sep true HM.out).mono ?_
        rintro e W3 ⟨rfl, h3, g3⟩
        have H3 := Lib.hid (HQ.out.call h3 g3)
        clear h3 g3 HQ
        go_wp2_with fail
        refine (item_ H3.out.p HX.out).mono ?_
        rintro e W4 ⟨rfl, h4, g4⟩
        have H4 := Lib.hid (H3.out.call h4 g4)
        clear h4 g4 H3
        have HD := Lib.hid (H4.out.quiet (grown_alloc W4 (.cells #[.string x.name, .string x.key] 89) none))
        obtain ⟨pa, pc, hshape⟩ : ∃ ao cap, u9 = .slice ao out.length cap := by
          obtain ⟨ao, cap, e, _⟩ := row_slice (l := out) HD.out.row
          exact ⟨ao, cap, e⟩
        subst hshape
        clear H4
        go_wp2_with (at_builtin; go_must (refine wpList_append_lies _ rfl _ _ 24 rfl W.heap.size 89 i1 (.agg #[.string ⟨#[]⟩, .string ⟨#[]⟩]) 2 32 Tryz.underlying24 hj hy0 hy1 hy2 rfl (by decide) (.slice pa out.length pc) _ _ rfl HD.out.row _ 1 1 [.string x.name, .string x.key] rfl rfl (World.news_of_block (heap_alloc_new W4 _)) two_one (by omega) (by unfold maxLen; omega) (by omega) HD.out.grown.size _ rfl ?_; intro g2 cap2 w5 hown hgrow _ _; have H5 := Lib.hid (HD.out.more hgrow hown); clear hown hgrow))
        go_roundg (gk - 1)
        case measure => omega
        case rel =>
          refine ⟨out ++ [x], s2, n2, ?_, ?_, by omega, by omega, by rw [List.length_append]; simp; omega⟩
          · rw [itemCells_snoc, List.length_append]; exact H5.out
          · rw [← HLP.out, listLoop_more HM.out HX.out]
  case rest =>
    obtain ⟨hq, hos⟩ := hcut
    have HQ := Lib.hid hq
    obtain ⟨pa, pc, hshape⟩ : ∃ ao cap, u9 = .slice ao L.length cap := by
      obtain ⟨ao, cap, e, _⟩ := row_slice (l := L) hq.row
      exact ⟨ao, cap, e⟩
    subst hshape
    clear hq H1
    by_cases h6 : 6 < L.length
    · have HS : Hid (s1 = failP) := by show _ = _; rw [← HE.out, if_pos h6]
      have h6i : (6 : Int) < (L.length : Int) := by omega
      go_wp2_with fail
      refine (fail_ HQ.out.p).mono ?_
      rintro e W3 ⟨rfl, h3, g3⟩
      have H3 := Lib.hid (HQ.out.call h3 g3)
      clear h3 g3
      go_wp2_with fail
      refine bodyPost_ret (v := .slice pa L.length pc) ?_ rfl ⟨_, rfl, H3.out.row, by rw [HS.out]; exact H3.out.p, H3.out.grown⟩
      simp [results, Tryz.results220, go_sem]
    · have HS : Hid (s1 = a2) := by show _ = _; rw [← HE.out, if_neg h6]
      have h6i : ¬ (6 : Int) < (L.length : Int) := by omega
      go_wp2_with fail
      refine bodyPost_ret (v := .slice pa L.length pc) ?_ rfl ⟨_, rfl, HQ.out.row, by rw [HS.out]; exact HQ.out.p, HQ.out.grown⟩
      simp [results, Tryz.results220, go_sem]

set_option maxRecDepth 100000 in
set_option maxHeartbeats 4000000 in
theorem listCond {b G : Nat} {st s1 : RS} {sep : ByteArray} {l : List PCond} {W : World} (h : PI b G st W) (hl : st.rest.length ≤ 2000) (hn : listP condP sep 6 st = (l, s1)) :
    Calls Tryz.prog 99 #[.pointer (some ⟨b, 0, none⟩), .string sep, .int .i64 6, .func (.func 100) #[.pointer (some ⟨b, 0, none⟩)] #[]] W fun e W' => ∃ v, e = .returned v ∧ W'.ownsRow W.heap.size 87 7 v l.length (condCells l) ∧ PI b G s1 W' ∧ W.grownBy W' (some b) := by
  obtain ⟨i1, hj, hy0, hy1, hy2⟩ := info_parts Tryz.infoCond
  obtain ⟨x0, a1, ha⟩ : ∃ x0 az, condP st = (x0, az) := ⟨_, _, rfl⟩
  obtain ⟨L, a2, hL⟩ : ∃ L az, listLoop condP sep a1.rest.length [x0] a1 = (L, az) := ⟨_, _, rfl⟩
  have e : (L, if 6 < L.length then failP else a2) = (l, s1) := by rw [← hn]; unfold listP; simp only [ha, hL]
  injection e with e1 e2
  subst e1
  have hl1 := Pure.condP_len st
  rw [ha] at hl1
  have HA := Lib.hid ha
  have HL := Lib.hid hL
  have HE := Lib.hid e2
  have HH := Lib.hid h
  have hgw := h.far.2
  have hbw : b < W.heap.size := by obtain ⟨_, _, hb, _⟩ := h.box; exact hb.lt
  clear h hn ha hL e2
  go_enter Tryz.func99, Tryz.ntmps99
  go_wp2_with fail
  refine (cond_ HH.out HA.out).mono ?_
  rintro e W1 ⟨rfl, h1, g1⟩
  have hsz := g1.size
  have H1 : Hid (PL W b G a1 87 7 (.slice (some ⟨W1.heap.size, 0, none⟩) 1 1) 1 (condCells [x0]) (W1.alloc (.cells #[.int .i64 x0.op, .string x0.a.name, .string x0.a.key, .int .i64 x0.a.val, .string x0.b.name, .string x0.b.key, .int .i64 x0.b.val] 87))) :=
    ⟨h1.quiet (grown_alloc W1 _ none), World.ownsRow_lit (size := 7) W1 #[.int .i64 x0.op, .string x0.a.name, .string x0.a.key, .int .i64 x0.a.val, .string x0.b.name, .string x0.b.key, .int .i64 x0.b.val] 1 hsz (by unfold maxLen; omega) rfl, grown_trans g1 (grown_alloc W1 _ _), hgw, hbw⟩
  clear h1 g1 HH
  go_upto_block 0 with fail
  obtain ⟨V, hV⟩ : ∃ V, V = Value.slice (some ⟨W1.heap.size, 0, none⟩) 1 1 := ⟨_, rfl⟩
  rw [← hV] at H1 ⊢
  clear hV
  generalize W1.alloc (.cells #[.int .i64 x0.op, .string x0.a.name, .string x0.a.key, .int .i64 x0.a.val, .string x0.b.name, .string x0.b.key, .int .i64 x0.b.val] 87) = W2 at H1 ⊢
  clear hsz
  go_cut [9] (fun v w => PL W b G a2 87 7 v L.length (condCells L) w ∧ L.length + a2.rest.length ≤ 2001)
  case first =>
    go_wp2_with fail
    go_loopg [9] (a1.rest.length + 1) (fun m v w => ∃ out s' n, PL W b G s' 87 7 v out.length (condCells out) w ∧ listLoop condP sep n out s' = (L, a2) ∧ s'.rest.length ≤ n ∧ s'.rest.length + 1 ≤ m ∧ out.length + s'.rest.length ≤ 2001)
    case atStart => exact ⟨[x0], a1, a1.rest.length, H1.out, HL.out, Nat.le_refl _, by omega, by simp; omega⟩
    case round =>
      obtain ⟨out, s', n, hq, hlp, hsn, hsm, hos⟩ := hrel
      have HQ := Lib.hid hq
      have HLP := Lib.hid hlp
      clear hq hlp H1 HL
      cases hm : peekP sep s' with
      | false =>
        have HM := Lib.hid hm
        clear hm
        go_wp2_with fail
        refine (accept_ HQ.out.p sep false HM.out).mono ?_
        rintro e W3 ⟨rfl, h3, g3⟩
        rw [show acceptP sep s' = s' by unfold acceptP; rw [HM.out]; rfl] at h3
        have H3 := Lib.hid (HQ.out.call h3 g3)
        clear h3 g3 HQ
        go_wp2_with fail
        go_meet
        case rel =>
          have e := HLP.out
          rw [listLoop_end HM.out] at e
          injection e with e1 e2
          subst e1; subst e2
          exact ⟨H3.out, hos⟩
      | true =>
        have HM := Lib.hid hm
        have hless := acceptP_less hm
        obtain ⟨x, s2, hx⟩ : ∃ x az, condP (acceptP sep s') = (x, az) := ⟨_, _, rfl⟩
        have hxl := Pure.condP_len (acceptP sep s')
        rw [hx] at hxl
        have HX := Lib.hid hx
        obtain ⟨n2, hn2⟩ : ∃ n2, n = n2 + 1 := ⟨n - 1, by omega⟩
        subst hn2
        clear hm hx
        go_wp2_with fail
        refine (accept_ HQ.out.p sep true HM.out).mono ?_
        rintro e W3 ⟨rfl, h3, g3⟩
        have H3 := Lib.hid (HQ.out.call h3 g3)
        clear h3 g3 HQ
        go_wp2_with fail
        refine (cond_ H3.out.p HX.out).mono ?_
        rintro e W4 ⟨rfl, h4, g4⟩
        have H4 := Lib.hid (H3.out.call h4 g4)
        clear h4 g4 H3
        have HD := Lib.hid (H4.out.quiet (grown_alloc W4 (.cells #[.int .i64 x.op, .string x.a.name, .string x.a.key, .int .i64 x.a.val, .string x.b.name, .string x.b.key, .int .i64 x.b.val] 87) none))
        obtain ⟨pa, pc, hshape⟩ : ∃ ao cap, u9 = .slice ao out.length cap := by
          obtain ⟨ao, cap, e, _⟩ := row_slice (l := out) HD.out.row
          exact ⟨ao, cap, e⟩
        subst hshape
        clear H4
        go_wp2_with (at_builtin; go_must (refine wpList_append_lies _ rfl _ _ 23 rfl W.heap.size 87 i1 (.agg #[.int .i64 0, .string ⟨#[]⟩, .string ⟨#[]⟩, .int .i64 0, .string ⟨#[]⟩, .string ⟨#[]⟩, .int .i64 0]) 7 88 Tryz.underlying23 hj hy0 hy1 hy2 rfl (by decide) (.slice pa out.length pc) _ _ rfl HD.out.row _ 1 1 [.int .i64 x.op, .string x.a.name, .string x.a.key, .int .i64 x.a.val, .string x.b.name, .string x.b.key, .int .i64 x.b.val] rfl rfl (World.news_of_block (heap_alloc_new W4 _)) seven_one (by omega) (by unfold maxLen; omega) (by omega) HD.out.grown.size _ rfl ?_; intro g2 cap2 w5 hown hgrow _ _; have H5 := Lib.hid (HD.out.more hgrow hown); clear hown hgrow))
        go_roundg (gk - 1)
        case measure => omega
        case rel =>
          refine ⟨out ++ [x], s2, n2, ?_, ?_, by omega, by omega, by rw [List.length_append]; simp; omega⟩
          · rw [condCells_snoc, List.length_append]; exact H5.out
          · rw [← HLP.out, listLoop_more HM.out HX.out]
  case rest =>
    obtain ⟨hq, hos⟩ := hcut
    have HQ := Lib.hid hq
    obtain ⟨pa, pc, hshape⟩ : ∃ ao cap, u9 = .slice ao L.length cap := by
      obtain ⟨ao, cap, e, _⟩ := row_slice (l := L) hq.row
      exact ⟨ao, cap, e⟩
    subst hshape
    clear hq H1
    by_cases h6 : 6 < L.length
    · have HS : Hid (s1 = failP) := by show _ = _; rw [← HE.out, if_pos h6]
      have h6i : (6 : Int) < (L.length : Int) := by omega
      go_wp2_with fail
      refine (fail_ HQ.out.p).mono ?_
      rintro e W3 ⟨rfl, h3, g3⟩
      have H3 := Lib.hid (HQ.out.call h3 g3)
      clear h3 g3
      go_wp2_with fail
      refine bodyPost_ret (v := .slice pa L.length pc) ?_ rfl ⟨_, rfl, H3.out.row, by rw [HS.out]; exact H3.out.p, H3.out.grown⟩
      simp [results, Tryz.results99, go_sem]
    · have HS : Hid (s1 = a2) := by show _ = _; rw [← HE.out, if_neg h6]
      have h6i : ¬ (6 : Int) < (L.length : Int) := by omega
      go_wp2_with fail
      refine bodyPost_ret (v := .slice pa L.length pc) ?_ rfl ⟨_, rfl, HQ.out.row, by rw [HS.out]; exact HQ.out.p, HQ.out.grown⟩
      simp [results, Tryz.results99, go_sem]

end Go.Proofs.YtobgbmfpicmpcaaGreatDoor

/- The program's parser: the spots of a match. -/
namespace Go.Proofs.YtobgbmfpicmpcaaGreatDoor
open Go.RowKit

theorem stepP_len (st : RS) : (stepP st).2.rest.length ≤ st.rest.length := by
  unfold stepP starP
  have h1 := Pure.titleP_len st
  simp only
  split
  · have h2 := Pure.acceptP_len mStar (titleP st).2
    have h3 := Pure.numberP_len 0 4 (acceptP mStar (titleP st).2)
    have h4 := Pure.expectP_len mDots (numberP 0 4 (acceptP mStar (titleP st).2)).2
    have h5 := Pure.numberP_len (numberP 0 4 (acceptP mStar (titleP st).2)).1 4 (expectP mDots (numberP 0 4 (acceptP mStar (titleP st).2)).2)
    have h6 := Pure.expectP_len mArrow (numberP (numberP 0 4 (acceptP mStar (titleP st).2)).1 4 (expectP mDots (numberP 0 4 (acceptP mStar (titleP st).2)).2)).2
    simp only; omega
  · have h6 := Pure.expectP_len mArrow (titleP st).2
    simp only; omega
theorem spotsLoop_comma {n : Nat} {out : List PSpot} {st s2 : RS} {x : PSpot} (h : peekP mComma st = true) (hx : spotP spot0 (acceptP mComma st) = (x, s2)) : spotsLoop (n + 1) out st = spotsLoop n (out ++ [x]) s2 := by
  simp only [spotsLoop, h, if_true, hx]
theorem spotsLoop_to {n : Nat} {out : List PSpot} {st s2 s3 : RS} {x y : PSpot} (h : peekP mComma st = false) (h2 : peekP mTo st = true) (hy : stepP (acceptP mTo st) = (y, s3)) (hx : spotP y s3 = (x, s2)) : spotsLoop (n + 1) out st = spotsLoop n (out ++ [x]) s2 := by
  simp only [spotsLoop, h, h2, if_true, Bool.false_eq_true, if_false, hopP, hy, hx]
theorem spotsLoop_end {n : Nat} {out : List PSpot} {st : RS} (h : peekP mComma st = false) (h2 : peekP mTo st = false) : spotsLoop n out st = (out, st) := by
  cases n with
  | zero => rfl
  | succ n => simp only [spotsLoop, h, h2]; rfl

set_option maxRecDepth 100000 in
set_option maxHeartbeats 4000000 in
theorem spots_ {b G : Nat} {st s1 : RS} {l : List PSpot} {W : World} (h : PI b G st W) (hl : st.rest.length ≤ 2000) (hn : spotsP st = (l, s1)) :
    Calls Tryz.prog 98 #[.pointer (some ⟨b, 0, none⟩)] W fun e W' => ∃ v, e = .returned v ∧ W'.ownsRow W.heap.size 85 5 v l.length (spotCells l) ∧ PI b G s1 W' ∧ W.grownBy W' (some b) := by
  obtain ⟨i1, hj, hy0, hy1, hy2⟩ := info_parts Tryz.infoSpot
  obtain ⟨x0, a1, ha⟩ : ∃ x0 az, spotP spot0 st = (x0, az) := ⟨_, _, rfl⟩
  obtain ⟨L, a2, hL⟩ : ∃ L az, spotsLoop a1.rest.length [x0] a1 = (L, az) := ⟨_, _, rfl⟩
  have e : (L, if 6 < L.length then failP else a2) = (l, s1) := by rw [← hn]; unfold spotsP; simp only [ha, hL]
  injection e with e1 e2
  subst e1
  have hl1 := Pure.spotP_len spot0 st
  rw [ha] at hl1
  have HA := Lib.hid ha
  have HL := Lib.hid hL
  have HE := Lib.hid e2
  have HH := Lib.hid h
  have hgw := h.far.2
  have hbw : b < W.heap.size := by obtain ⟨_, _, hb, _⟩ := h.box; exact hb.lt
  clear h hn ha hL e2
  go_enter Tryz.func98, Tryz.ntmps98
  go_wp2_with fail
  refine (spot_ (q := spot0) HH.out HA.out).mono ?_
  rintro e W1 ⟨rfl, h1, g1⟩
  have hsz := g1.size
  have H1 : Hid (PL W b G a1 85 5 (.slice (some ⟨W1.heap.size, 0, none⟩) 1 1) 1 (spotCells [x0]) (W1.alloc (.cells #[.string x0.name, .string x0.label, .string x0.type, .int .i64 x0.least, .int .i64 x0.most] 85))) :=
    ⟨h1.quiet (grown_alloc W1 _ none), World.ownsRow_lit (size := 5) W1 #[.string x0.name, .string x0.label, .string x0.type, .int .i64 x0.least, .int .i64 x0.most] 1 hsz (by unfold maxLen; omega) rfl, grown_trans g1 (grown_alloc W1 _ _), hgw, hbw⟩
  clear h1 g1 HH
  go_upto_block 0 with fail
  obtain ⟨V, hV⟩ : ∃ V, V = Value.slice (some ⟨W1.heap.size, 0, none⟩) 1 1 := ⟨_, rfl⟩
  rw [← hV] at H1 ⊢
  clear hV
  generalize W1.alloc (.cells #[.string x0.name, .string x0.label, .string x0.type, .int .i64 x0.least, .int .i64 x0.most] 85) = W2 at H1 ⊢
  clear hsz
  go_wp2_with fail
  go_loopg [3] (a1.rest.length + 1) (fun m v w => ∃ out s' n, PL W b G s' 85 5 v out.length (spotCells out) w ∧ spotsLoop n out s' = (L, a2) ∧ s'.rest.length ≤ n ∧ s'.rest.length + 1 ≤ m ∧ out.length + s'.rest.length ≤ 2001)
  case atStart => exact ⟨[x0], a1, a1.rest.length, H1.out, HL.out, Nat.le_refl _, by omega, by simp; omega⟩
  case round =>
    obtain ⟨out, s', n, hq, hlp, hsn, hsm, hos⟩ := hrel
    have HQ := Lib.hid hq
    have HLP := Lib.hid hlp
    clear hq hlp H1 HL
    cases hm : peekP mComma s' with
    | true =>
      have HM := Lib.hid hm
      have hless := acceptP_less hm
      obtain ⟨x, s2, hx⟩ : ∃ x az, spotP spot0 (acceptP mComma s') = (x, az) := ⟨_, _, rfl⟩
      have hxl := Pure.spotP_len spot0 (acceptP mComma s')
      rw [hx] at hxl
      have HX := Lib.hid hx
      obtain ⟨n2, hn2⟩ : ∃ n2, n = n2 + 1 := ⟨n - 1, by omega⟩
      subst hn2
      clear hm hx
      go_wp2_with fail
      refine (accept_ HQ.out.p mComma true HM.out).mono ?_
      rintro e W3 ⟨rfl, h3, g3⟩
      have H3 := Lib.hid (HQ.out.call h3 g3)
      clear h3 g3 HQ
      go_wp2_with fail
      refine (spot_ (q := spot0) H3.out.p HX.out).mono ?_
      rintro e W5 ⟨rfl, h5, g5⟩
      have H5 := Lib.hid (H3.out.call h5 g5)
      clear h5 g5 H3
      have HD := Lib.hid (H5.out.quiet (grown_alloc W5 (.cells #[.string x.name, .string x.label, .string x.type, .int .i64 x.least, .int .i64 x.most] 85) none))
      obtain ⟨pa, pc, hshape⟩ : ∃ ao cap, u3 = .slice ao out.length cap := by
        obtain ⟨ao, cap, e, _⟩ := row_slice (l := out) HD.out.row
        exact ⟨ao, cap, e⟩
      subst hshape
      clear H5
      go_wp2_with (at_builtin; go_must (refine wpList_append_lies _ rfl _ _ 22 rfl W.heap.size 85 i1 (.agg #[.string ⟨#[]⟩, .string ⟨#[]⟩, .string ⟨#[]⟩, .int .i64 0, .int .i64 0]) 5 64 Tryz.underlying22 hj hy0 hy1 hy2 rfl (by decide) (.slice pa out.length pc) _ _ rfl HD.out.row _ 1 1 [.string x.name, .string x.label, .string x.type, .int .i64 x.least, .int .i64 x.most] rfl rfl (World.news_of_block (heap_alloc_new W5 _)) five_one (by omega) (by unfold maxLen; omega) (by omega) HD.out.grown.size _ rfl ?_; intro g2 cap2 w5 hown hgrow _ _; have H6 := Lib.hid (HD.out.more hgrow hown); clear hown hgrow))
      go_roundg (gk - 1)
      case measure => omega
      case rel =>
        refine ⟨out ++ [x], s2, n2, ?_, ?_, by omega, by omega, by rw [List.length_append]; simp; omega⟩
        · rw [spotCells_append, List.length_append]; exact H6.out
        · rw [← HLP.out]; rw [spotsLoop_comma HM.out HX.out]
    | false =>
      have HM := Lib.hid hm
      clear hm
      cases hto : peekP mTo s' with
      | true =>
        have HTO := Lib.hid hto
        have hless := acceptP_less hto
        obtain ⟨y, s3, hy⟩ : ∃ x az, stepP (acceptP mTo s') = (x, az) := ⟨_, _, rfl⟩
        have hyl := stepP_len (acceptP mTo s')
        rw [hy] at hyl
        obtain ⟨x, s2, hx⟩ : ∃ x az, spotP y s3 = (x, az) := ⟨_, _, rfl⟩
        have hxl := Pure.spotP_len y s3
        rw [hx] at hxl
        have HX := Lib.hid hx
        have HY := Lib.hid hy
        obtain ⟨n2, hn2⟩ : ∃ n2, n = n2 + 1 := ⟨n - 1, by omega⟩
        subst hn2
        clear hto hx hy
        go_wp2_with fail
        refine (accept_ HQ.out.p mComma false HM.out).mono ?_
        rintro e W3 ⟨rfl, h3, g3⟩
        rw [show acceptP mComma s' = s' by unfold acceptP; rw [HM.out]; rfl] at h3
        have H3 := Lib.hid (HQ.out.call h3 g3)
        clear h3 g3 HQ
        go_wp2_with fail
        refine (accept_ H3.out.p mTo true HTO.out).mono ?_
        rintro e W4 ⟨rfl, h4, g4⟩
        have H4 := Lib.hid (H3.out.call h4 g4)
        clear h4 g4 H3
        go_wp2_with fail
        refine (step_ H4.out.p HY.out).mono ?_
        rintro e W6 ⟨rfl, h6, g6⟩
        have H6 := Lib.hid (H4.out.call h6 g6)
        clear h6 g6 H4
        go_wp2_with fail
        refine (spot_ (q := y) H6.out.p HX.out).mono ?_
        rintro e W5 ⟨rfl, h5, g5⟩
        have H5 := Lib.hid (H6.out.call h5 g5)
        clear h5 g5 H6
        have HD := Lib.hid (H5.out.quiet (grown_alloc W5 (.cells #[.string x.name, .string x.label, .string x.type, .int .i64 x.least, .int .i64 x.most] 85) none))
        obtain ⟨pa, pc, hshape⟩ : ∃ ao cap, u3 = .slice ao out.length cap := by
          obtain ⟨ao, cap, e, _⟩ := row_slice (l := out) HD.out.row
          exact ⟨ao, cap, e⟩
        subst hshape
        clear H5
        go_wp2_with (at_builtin; go_must (refine wpList_append_lies _ rfl _ _ 22 rfl W.heap.size 85 i1 (.agg #[.string ⟨#[]⟩, .string ⟨#[]⟩, .string ⟨#[]⟩, .int .i64 0, .int .i64 0]) 5 64 Tryz.underlying22 hj hy0 hy1 hy2 rfl (by decide) (.slice pa out.length pc) _ _ rfl HD.out.row _ 1 1 [.string x.name, .string x.label, .string x.type, .int .i64 x.least, .int .i64 x.most] rfl rfl (World.news_of_block (heap_alloc_new W5 _)) five_one (by omega) (by unfold maxLen; omega) (by omega) HD.out.grown.size _ rfl ?_; intro g2 cap2 w5 hown hgrow _ _; have H6 := Lib.hid (HD.out.more hgrow hown); clear hown hgrow))
        go_roundg (gk - 1)
        case measure => omega
        case rel =>
          refine ⟨out ++ [x], s2, n2, ?_, ?_, by omega, by omega, by rw [List.length_append]; simp; omega⟩
          · rw [spotCells_append, List.length_append]; exact H6.out
          · rw [← HLP.out]; rw [spotsLoop_to HM.out HTO.out HY.out HX.out]
      | false =>
        have HTO := Lib.hid hto
        clear hto
        have hend := HLP.out
        rw [spotsLoop_end HM.out HTO.out] at hend
        injection hend with e1 e2
        subst e1; subst e2
        obtain ⟨pa, pc, hshape⟩ : ∃ ao cap, u3 = .slice ao out.length cap := by
          obtain ⟨ao, cap, e, _⟩ := row_slice (l := out) HQ.out.row
          exact ⟨ao, cap, e⟩
        subst hshape
        by_cases h6 : 6 < out.length
        · have HS : Hid (s1 = failP) := by show _ = _; rw [← HE.out, if_pos h6]
          have h6i : (6 : Int) < (out.length : Int) := by omega
          go_wp2_with fail
          refine (accept_ HQ.out.p mComma false HM.out).mono ?_
          rintro e W3 ⟨rfl, h3, g3⟩
          rw [show acceptP mComma s' = s' by unfold acceptP; rw [HM.out]; rfl] at h3
          have H3 := Lib.hid (HQ.out.call h3 g3)
          clear h3 g3 HQ
          go_wp2_with fail
          refine (accept_ H3.out.p mTo false HTO.out).mono ?_
          rintro e W4 ⟨rfl, h4, g4⟩
          have H4 := Lib.hid (H3.out.call h4 g4)
          clear h4 g4 H3
          go_wp2_with fail
          refine (fail_ H4.out.p).mono ?_
          rintro e W5 ⟨rfl, h5, g5⟩
          have H5 := Lib.hid (H4.out.call h5 g5)
          clear h5 g5 H4
          go_wp2_with fail
          refine bodyPost_ret (v := .slice pa out.length pc) ?_ rfl ⟨_, rfl, H5.out.row, by rw [HS.out]; exact H5.out.p, H5.out.grown⟩
          simp [results, Tryz.results98, go_sem]
        · have HS : Hid (s1 = s') := by show _ = _; rw [← HE.out, if_neg h6]
          have h6i : ¬ (6 : Int) < (out.length : Int) := by omega
          go_wp2_with fail
          refine (accept_ HQ.out.p mComma false HM.out).mono ?_
          rintro e W3 ⟨rfl, h3, g3⟩
          rw [show acceptP mComma s' = s' by unfold acceptP; rw [HM.out]; rfl] at h3
          have H3 := Lib.hid (HQ.out.call h3 g3)
          clear h3 g3 HQ
          go_wp2_with fail
          refine (accept_ H3.out.p mTo false HTO.out).mono ?_
          rintro e W4 ⟨rfl, h4, g4⟩
          rw [show acceptP mTo s' = s' by unfold acceptP; rw [HTO.out]; rfl] at h4
          have H4 := Lib.hid (H3.out.call h4 g4)
          clear h4 g4 H3
          go_wp2_with fail
          refine bodyPost_ret (v := .slice pa out.length pc) ?_ rfl ⟨_, rfl, H4.out.row, by rw [HS.out]; exact H4.out.p, H4.out.grown⟩
          simp [results, Tryz.results98, go_sem]

end Go.Proofs.YtobgbmfpicmpcaaGreatDoor

/- The reference's reader: what stands behind RETURN. -/
namespace Go.Proofs.YtobgbmfpicmpcaaGreatDoor
open Go.RowKit

theorem itemLoop_bad {n : Nat} {out : List PItem} {st : RS} (h : st.bad = true) : itemLoop n out st = (out, st) := by
  cases n with
  | zero => rfl
  | succ n => simp only [itemLoop]; rw [h]; rfl
theorem itemLoop_more {n : Nat} {out : List PItem} {l : PItem} {st s2 : RS} (h : st.bad = false) (hp : itemR st = (l, s2)) (hb : s2.bad = false) (hc : peekR mComma s2 = true) : itemLoop (n + 1) out st = itemLoop n (out ++ [l]) (hasR mComma s2) := by
  simp only [itemLoop]; rw [h, hp]; simp only [hb, hc]; rfl
theorem itemLoop_last {n : Nat} {out : List PItem} {l : PItem} {st s2 : RS} (h : st.bad = false) (hp : itemR st = (l, s2)) (hc : s2.bad = true ∨ peekR mComma s2 = false) : itemLoop (n + 1) out st = (out ++ [l], s2) := by
  simp only [itemLoop]; rw [h, hp]
  rcases hc with hc | hc
  · simp [hc]
  · simp [hc]
theorem itemR_len (st : RS) : (itemR st).2.rest.length ≤ st.rest.length := by
  unfold itemR
  have h1 := nameR_len st
  split
  · exact hasR_len _ _
  · simp only
    split
    · have h2 := nameR_len (hasR mDot (nameR st).2)
      have h3 := hasR_len mDot (nameR st).2
      simp only
      omega
    · exact h1

set_option maxRecDepth 100000 in
set_option maxHeartbeats 9000000 in
theorem items {b x : Nat} {lv vs vc : Value} {sp : List PSpot} {cd : List PCond} {ts : List Tok} {st : RS} {W0 W : World} (h : QAt W0 b lv ts st x (qC { query0 with kind := 1 } vs vc (.slice none 0 0) (.slice none 0 0)) ⟨vs, sp, vc, cd, (.slice none 0 0), [], (.slice none 0 0), []⟩ W) :
    Calls Tryz.prog 90 #[.pointer (some ⟨b, 0, none⟩), .pointer (some ⟨x, 0, none⟩)] W fun e W' => e = .returned (.tuple #[]) ∧ ∃ vi, QAt W0 b lv ts (itemsR st).2 x (qC { query0 with kind := 1, order := (itemsR st).1.order, down := (itemsR st).1.down, skip := (itemsR st).1.skip, limit := (itemsR st).1.limit } vs vc vi (.slice none 0 0)) ⟨vs, sp, vc, cd, vi, (itemsR st).1.items, (.slice none 0 0), []⟩ W' := by
  obtain ⟨i1, hj, hy0, hy1, hy2⟩ := info_parts Tryz.infoItem
  have HI := Lib.hid h
  have hlen := h.ri.len
  have hrl : st.rest.length ≤ ts.length := by obtain ⟨_, _, _, _, _, _, _, e, _⟩ := h.ri.seen; exact e
  clear h
  go_enter Tryz.func90, Tryz.ntmps90
  go_upto_block 0 with fail
  go_cut [4, 5, 6, 7] (fun _ _ _ _ w => ∃ vi it s', QAt W0 b lv ts s' x (qC { query0 with kind := 1 } vs vc vi (.slice none 0 0)) ⟨vs, sp, vc, cd, vi, it, (.slice none 0 0), []⟩ w ∧ itemLoop (st.rest.length + 1) [] st = (it, s') ∧ it.length + s'.rest.length ≤ 2002)
  case first =>
    go_wp2_with fail
    go_loopg [4] (st.rest.length + 1) (fun n more w => ∃ vi it s' m, more = .bool m ∧ QAt W0 b lv ts s' x (qC { query0 with kind := 1 } vs vc vi (.slice none 0 0)) ⟨vs, sp, vc, cd, vi, it, (.slice none 0 0), []⟩ w ∧ (m = true → itemLoop (st.rest.length + 1) [] st = itemLoop n it s' ∧ s'.rest.length + 1 ≤ n ∧ it.length + s'.rest.length ≤ 2001) ∧ (m = false → itemLoop (st.rest.length + 1) [] st = (it, s') ∧ it.length + s'.rest.length ≤ 2002))
    case atStart => exact ⟨_, [], _, true, rfl, HI.out, fun _ => ⟨rfl, by omega, by simp; omega⟩, fun h => by cases h⟩
    case round =>
      obtain ⟨vi, it, s', m, rfl, hq, hT, hF⟩ := hrel
      have HQ := Lib.hid hq
      have q2 : wr.cell? ⟨b, 2, none⟩ = some (.bool s'.bad) := (hq.ri.box.cell 2).trans rfl
      clear hq HI
      cases m with
      | false =>
        obtain ⟨e1, e2⟩ := hF rfl
        have E1 := Lib.hid e1
        clear e1 hT hF
        go_wp2_with fail
        go_meet
        case rel => exact ⟨vi, it, s', HQ.out, E1.out, e2⟩
      | true =>
        obtain ⟨e1, e2, e3⟩ := hT rfl
        have E1 := Lib.hid e1
        clear e1 hT hF
        cases hb : s'.bad with
        | true =>
          have HB := Lib.hid hb
          rw [hb] at q2
          clear hb
          go_wp2_with fail
          go_meet
          case rel => exact ⟨vi, it, s', HQ.out, by rw [E1.out]; exact itemLoop_bad HB.out, by omega⟩
        | false =>
          have HB := Lib.hid hb
          rw [hb] at q2
          clear hb
          obtain ⟨n, hn⟩ : ∃ n, gk = n + 1 := ⟨gk - 1, by omega⟩
          subst hn
          go_upto_block 1 with fail
          go_cut [5, 6, 7] (fun _ _ _ w => ∃ v i s2, QAt W0 b lv ts s2 x (qC { query0 with kind := 1 } vs vc v (.slice none 0 0)) ⟨vs, sp, vc, cd, v, (it ++ [i]), (.slice none 0 0), []⟩ w ∧ itemR s' = (i, s2))
          case first =>
            clear q2
            cases hk : peekR kCOUNT s' with
            | true =>
              have HK := Lib.hid hk
              obtain ⟨s2, hs2⟩ : ∃ s2, s2 = hasR kCOUNT s' := ⟨_, rfl⟩
              have HIT : Hid (itemR s' = (⟨⟨#[]⟩, ⟨#[]⟩⟩, s2)) := by show _ = _; unfold itemR; rw [hk, hs2]; rfl
              clear hk
              go_wp2_with fail
              refine (has HQ.out.ri kCOUNT true HK.out).mono ?_
              rintro e W3 ⟨rfl, h3, g3⟩
              rw [← hs2] at h3
              clear hs2
              have HY := Lib.hid ((HQ.out.call h3 g3).more #[.string ⟨#[]⟩, .string ⟨#[]⟩] 89)
              clear h3 g3
              go_upto_region 10 with fail
              obtain ⟨Y, hY⟩ : ∃ Y, Y = W3.heap.size := ⟨_, rfl⟩
              rw [← hY] at HY ⊢
              clear hY
              generalize W3.alloc (.cells #[.string ⟨#[]⟩, .string ⟨#[]⟩] 89) = W4 at HY ⊢
              have y0 : W4.cell? ⟨Y, 0, none⟩ = some (.string ⟨#[]⟩) := (HY.out.ly.cell 0).trans rfl
              have y1 : W4.cell? ⟨Y, 1, none⟩ = some (.string ⟨#[]⟩) := (HY.out.ly.cell 1).trans rfl
              have x3 : W4.cell? ⟨x, 3, none⟩ = some vi := (HY.out.q.lq.cell 3).trans rfl
              have fx3 : W4.frozen? ⟨x, 3, none⟩ = false := HY.out.q.lq.free 3
              have HD : Hid (QAt W0 b lv ts s2 x (qC { query0 with kind := 1 } vs vc vi (.slice none 0 0)) ⟨vs, sp, vc, cd, vi, it, (.slice none 0 0), []⟩ ((W4.alloc (.cells #[.string ⟨#[]⟩, .string ⟨#[]⟩] 89)).drew)) := (HY.out.q.alloc _).drew 1
              have xa3 : (W4.alloc (.cells #[.string ⟨#[]⟩, .string ⟨#[]⟩] 89)).cell? ⟨x, 3, none⟩ = some vi := (HD.out.lq.cell 3).trans rfl
              clear HY
              go_region_law (refine step_append_lies _ rfl _ _ 24 rfl W0.heap.size 89 i1 (.agg #[.string ⟨#[]⟩, .string ⟨#[]⟩]) 2 32 Tryz.underlying24 hj hy0 hy1 hy2 rfl (by decide) vi _ _ (by simp [Act.eval]) HD.out.rt ⟨W4.heap.size, 0, none⟩ 1 1 [.string ⟨#[]⟩, .string ⟨#[]⟩] (by simp [Act.eval]) rfl (World.news_of_block (heap_alloc_new W4 _)) two_one (by omega) (by unfold maxLen; simp only; omega) (by simp only; omega) HD.out.grown.size _ rfl ?_; intro g2 cap2 w5 hown hgrow _ _; have H5a := HD.out.items (l := [⟨⟨#[]⟩, ⟨#[]⟩⟩]) hgrow (by rw [itemCells_snoc, List.length_append]; exact hown); have c5 : w5.cell? ⟨x, 3, none⟩ = some vi := (H5a.lq.cell 3).trans rfl; have f5 : w5.frozen? ⟨x, 3, none⟩ = false := H5a.lq.free 3; have H5 := Lib.hid (H5a.set 3 (.slice (some ⟨g2, 0, none⟩) (it.length + 1) cap2)); clear H5a hown hgrow)
              all_goals
                go_wp2_with fail
                go_meet
                case rel => exact ⟨_, ⟨⟨#[]⟩, ⟨#[]⟩⟩, s2, H5.out, HIT.out⟩
            | false =>
              have HK := Lib.hid hk
              obtain ⟨nm, s3, hnm⟩ : ∃ nm s3, nameR s' = (nm, s3) := ⟨_, _, rfl⟩
              have HNM := Lib.hid hnm
              clear hnm hk
              go_wp2_with fail
              refine (has HQ.out.ri kCOUNT false HK.out).mono ?_
              rintro e W3 ⟨rfl, h3, g3⟩
              rw [hasR_not HK.out] at h3
              have H3 := Lib.hid ((HQ.out.call h3 g3).more #[.string ⟨#[]⟩, .string ⟨#[]⟩] 89)
              clear h3 g3
              go_wp2_with fail
              obtain ⟨Y, hY⟩ : ∃ Y, Y = W3.heap.size := ⟨_, rfl⟩
              rw [← hY] at H3 ⊢
              clear hY
              generalize W3.alloc (.cells #[.string ⟨#[]⟩, .string ⟨#[]⟩] 89) = W4 at H3 ⊢
              refine (nameIs H3.out.q.ri HNM.out).mono ?_
              rintro e W5 ⟨rfl, h5, g5⟩
              have H5a := H3.out.call h5 g5
              have c0 : W5.cell? ⟨Y, 0, none⟩ = some (.string ⟨#[]⟩) := (H5a.ly.cell 0).trans rfl
              have f0 : W5.frozen? ⟨Y, 0, none⟩ = false := H5a.ly.free 0
              have H6 := Lib.hid (H5a.setY 0 (.string nm))
              clear h5 g5 H5a
              go_upto_region 7 with fail
              generalize W5.setCell ⟨Y, 0, none⟩ (.string nm) = W6 at H6 ⊢
              clear c0 f0 H3 HQ
              have q6 : W6.cell? ⟨b, 2, none⟩ = some (.bool s3.bad) := (H6.out.q.ri.box.cell 2).trans rfl
              cases hb3 : s3.bad with
              | true =>
                obtain ⟨s2, hs2⟩ : ∃ s2, s2 = s3 := ⟨_, rfl⟩
                have HIT : Hid (itemR s' = (⟨nm, ⟨#[]⟩⟩, s2)) := by show _ = _; unfold itemR; rw [HK.out]; simp only [HNM.out, hb3]; rw [hs2]; rfl
                rw [hb3] at q6
                have HY : Hid (QY W0 b lv ts s2 x (qC { query0 with kind := 1 } vs vc vi (.slice none 0 0)) ⟨vs, sp, vc, cd, vi, it, (.slice none 0 0), []⟩ Y #[.string nm, .string ⟨#[]⟩] 89 W6) := by rw [hs2]; exact H6.out
                clear hb3 hs2 H6
                go_upto_region 10 with fail
                clear q6
                have y0 : W6.cell? ⟨Y, 0, none⟩ = some (.string nm) := (HY.out.ly.cell 0).trans rfl
                have y1 : W6.cell? ⟨Y, 1, none⟩ = some (.string ⟨#[]⟩) := (HY.out.ly.cell 1).trans rfl
                have x3 : W6.cell? ⟨x, 3, none⟩ = some vi := (HY.out.q.lq.cell 3).trans rfl
                have fx3 : W6.frozen? ⟨x, 3, none⟩ = false := HY.out.q.lq.free 3
                have HD : Hid (QAt W0 b lv ts s2 x (qC { query0 with kind := 1 } vs vc vi (.slice none 0 0)) ⟨vs, sp, vc, cd, vi, it, (.slice none 0 0), []⟩ ((W6.alloc (.cells #[.string nm, .string ⟨#[]⟩] 89)).drew)) := (HY.out.q.alloc _).drew 1
                have xa3 : (W6.alloc (.cells #[.string nm, .string ⟨#[]⟩] 89)).cell? ⟨x, 3, none⟩ = some vi := (HD.out.lq.cell 3).trans rfl
                clear HY
                go_region_law (refine step_append_lies _ rfl _ _ 24 rfl W0.heap.size 89 i1 (.agg #[.string ⟨#[]⟩, .string ⟨#[]⟩]) 2 32 Tryz.underlying24 hj hy0 hy1 hy2 rfl (by decide) vi _ _ (by simp [Act.eval]) HD.out.rt ⟨W6.heap.size, 0, none⟩ 1 1 [.string nm, .string ⟨#[]⟩] (by simp [Act.eval]) rfl (World.news_of_block (heap_alloc_new W6 _)) two_one (by omega) (by unfold maxLen; simp only; omega) (by simp only; omega) HD.out.grown.size _ rfl ?_; intro g2 cap2 w5 hown hgrow _ _; have H5a := HD.out.items (l := [⟨nm, ⟨#[]⟩⟩]) hgrow (by rw [itemCells_snoc, List.length_append]; exact hown); have c5 : w5.cell? ⟨x, 3, none⟩ = some vi := (H5a.lq.cell 3).trans rfl; have f5 : w5.frozen? ⟨x, 3, none⟩ = false := H5a.lq.free 3; have H5 := Lib.hid (H5a.set 3 (.slice (some ⟨g2, 0, none⟩) (it.length + 1) cap2)); clear H5a hown hgrow)
                all_goals
                  go_wp2_with fail
                  go_meet
                  case rel => exact ⟨_, ⟨nm, ⟨#[]⟩⟩, s2, H5.out, HIT.out⟩
              | false =>
                rw [hb3] at q6
                cases hd : peekR mDot s3 with
                | false =>
                  have HDT := Lib.hid hd
                  obtain ⟨s2, hs2⟩ : ∃ s2, s2 = s3 := ⟨_, rfl⟩
                  have HIT : Hid (itemR s' = (⟨nm, ⟨#[]⟩⟩, s2)) := by show _ = _; unfold itemR; rw [HK.out]; simp only [HNM.out, hb3, hd]; rw [hs2]; rfl
                  clear hb3 hd
                  go_wp2_with fail
                  refine (has H6.out.q.ri mDot false HDT.out).mono ?_
                  rintro e W7 ⟨rfl, h7, g7⟩
                  rw [hasR_not HDT.out, ← hs2] at h7
                  have HY : Hid (QY W0 b lv ts s2 x (qC { query0 with kind := 1 } vs vc vi (.slice none 0 0)) ⟨vs, sp, vc, cd, vi, it, (.slice none 0 0), []⟩ Y #[.string nm, .string ⟨#[]⟩] 89 W7) := H6.out.call h7 g7
                  clear h7 g7 hs2 H6 q6
                  go_upto_region 10 with fail
                  have y0 : W7.cell? ⟨Y, 0, none⟩ = some (.string nm) := (HY.out.ly.cell 0).trans rfl
                  have y1 : W7.cell? ⟨Y, 1, none⟩ = some (.string ⟨#[]⟩) := (HY.out.ly.cell 1).trans rfl
                  have x3 : W7.cell? ⟨x, 3, none⟩ = some vi := (HY.out.q.lq.cell 3).trans rfl
                  have fx3 : W7.frozen? ⟨x, 3, none⟩ = false := HY.out.q.lq.free 3
                  have HD : Hid (QAt W0 b lv ts s2 x (qC { query0 with kind := 1 } vs vc vi (.slice none 0 0)) ⟨vs, sp, vc, cd, vi, it, (.slice none 0 0), []⟩ ((W7.alloc (.cells #[.string nm, .string ⟨#[]⟩] 89)).drew)) := (HY.out.q.alloc _).drew 1
                  have xa3 : (W7.alloc (.cells #[.string nm, .string ⟨#[]⟩] 89)).cell? ⟨x, 3, none⟩ = some vi := (HD.out.lq.cell 3).trans rfl
                  clear HY
                  go_region_law (refine step_append_lies _ rfl _ _ 24 rfl W0.heap.size 89 i1 (.agg #[.string ⟨#[]⟩, .string ⟨#[]⟩]) 2 32 Tryz.underlying24 hj hy0 hy1 hy2 rfl (by decide) vi _ _ (by simp [Act.eval]) HD.out.rt ⟨W7.heap.size, 0, none⟩ 1 1 [.string nm, .string ⟨#[]⟩] (by simp [Act.eval]) rfl (World.news_of_block (heap_alloc_new W7 _)) two_one (by omega) (by unfold maxLen; simp only; omega) (by simp only; omega) HD.out.grown.size _ rfl ?_; intro g2 cap2 w5 hown hgrow _ _; have H5a := HD.out.items (l := [⟨nm, ⟨#[]⟩⟩]) hgrow (by rw [itemCells_snoc, List.length_append]; exact hown); have c5 : w5.cell? ⟨x, 3, none⟩ = some vi := (H5a.lq.cell 3).trans rfl; have f5 : w5.frozen? ⟨x, 3, none⟩ = false := H5a.lq.free 3; have H5 := Lib.hid (H5a.set 3 (.slice (some ⟨g2, 0, none⟩) (it.length + 1) cap2)); clear H5a hown hgrow)
                  all_goals
                    go_wp2_with fail
                    go_meet
                    case rel => exact ⟨_, ⟨nm, ⟨#[]⟩⟩, s2, H5.out, HIT.out⟩
                | true =>
                  have HDT := Lib.hid hd
                  obtain ⟨ky, s2, hky⟩ : ∃ ky s2, nameR (hasR mDot s3) = (ky, s2) := ⟨_, _, rfl⟩
                  have HKY := Lib.hid hky
                  have HIT : Hid (itemR s' = (⟨nm, ky⟩, s2)) := by show _ = _; unfold itemR; rw [HK.out]; simp only [HNM.out, hb3, hd, hky]; rfl
                  clear hb3 hd hky
                  go_wp2_with fail
                  refine (has H6.out.q.ri mDot true HDT.out).mono ?_
                  rintro e W7 ⟨rfl, h7, g7⟩
                  have H7 := Lib.hid (H6.out.call h7 g7)
                  clear h7 g7 H6 q6
                  go_wp2_with fail
                  refine (nameIs H7.out.q.ri HKY.out).mono ?_
                  rintro e W8 ⟨rfl, h8, g8⟩
                  have H8a := H7.out.call h8 g8
                  have c1 : W8.cell? ⟨Y, 1, none⟩ = some (.string ⟨#[]⟩) := (H8a.ly.cell 1).trans rfl
                  have f1 : W8.frozen? ⟨Y, 1, none⟩ = false := H8a.ly.free 1
                  have H9 := Lib.hid (H8a.setY 1 (.string ky))
                  clear h8 g8 H8a
                  go_upto_region 10 with fail
                  generalize W8.setCell ⟨Y, 1, none⟩ (.string ky) = W9 at H9 ⊢
                  clear c1 f1 H7
                  have HY : Hid (QY W0 b lv ts s2 x (qC { query0 with kind := 1 } vs vc vi (.slice none 0 0)) ⟨vs, sp, vc, cd, vi, it, (.slice none 0 0), []⟩ Y #[.string nm, .string ky] 89 W9) := H9.out
                  clear H9
                  have y0 : W9.cell? ⟨Y, 0, none⟩ = some (.string nm) := (HY.out.ly.cell 0).trans rfl
                  have y1 : W9.cell? ⟨Y, 1, none⟩ = some (.string ky) := (HY.out.ly.cell 1).trans rfl
                  have x3 : W9.cell? ⟨x, 3, none⟩ = some vi := (HY.out.q.lq.cell 3).trans rfl
                  have fx3 : W9.frozen? ⟨x, 3, none⟩ = false := HY.out.q.lq.free 3
                  have HD : Hid (QAt W0 b lv ts s2 x (qC { query0 with kind := 1 } vs vc vi (.slice none 0 0)) ⟨vs, sp, vc, cd, vi, it, (.slice none 0 0), []⟩ ((W9.alloc (.cells #[.string nm, .string ky] 89)).drew)) := (HY.out.q.alloc _).drew 1
                  have xa3 : (W9.alloc (.cells #[.string nm, .string ky] 89)).cell? ⟨x, 3, none⟩ = some vi := (HD.out.lq.cell 3).trans rfl
                  clear HY
                  go_region_law (refine step_append_lies _ rfl _ _ 24 rfl W0.heap.size 89 i1 (.agg #[.string ⟨#[]⟩, .string ⟨#[]⟩]) 2 32 Tryz.underlying24 hj hy0 hy1 hy2 rfl (by decide) vi _ _ (by simp [Act.eval]) HD.out.rt ⟨W9.heap.size, 0, none⟩ 1 1 [.string nm, .string ky] (by simp [Act.eval]) rfl (World.news_of_block (heap_alloc_new W9 _)) two_one (by omega) (by unfold maxLen; simp only; omega) (by simp only; omega) HD.out.grown.size _ rfl ?_; intro g2 cap2 w5 hown hgrow _ _; have H5a := HD.out.items (l := [⟨nm, ky⟩]) hgrow (by rw [itemCells_snoc, List.length_append]; exact hown); have c5 : w5.cell? ⟨x, 3, none⟩ = some vi := (H5a.lq.cell 3).trans rfl; have f5 : w5.frozen? ⟨x, 3, none⟩ = false := H5a.lq.free 3; have H5 := Lib.hid (H5a.set 3 (.slice (some ⟨g2, 0, none⟩) (it.length + 1) cap2)); clear H5a hown hgrow)
                  all_goals
                    go_wp2_with fail
                    go_meet
                    case rel => exact ⟨_, ⟨nm, ky⟩, s2, H5.out, HIT.out⟩
          case rest =>
            obtain ⟨v, i, s2, hq2, hit⟩ := hcut
            have H6 := Lib.hid hq2
            have HIT := Lib.hid hit
            have q6 : wc.cell? ⟨b, 2, none⟩ = some (.bool s2.bad) := (hq2.ri.box.cell 2).trans rfl
            have hil := itemR_len s'
            rw [hit] at hil
            clear hq2 hit HQ q2
            have hol : (it ++ [i]).length = it.length + 1 := by simp
            cases hb2 : s2.bad with
            | true =>
              have HB2 := Lib.hid hb2
              rw [hb2] at q6
              clear hb2
              go_wp2_with fail
              go_roundg n
              case measure => omega
              case rel => exact ⟨_, it ++ [i], s2, false, rfl, H6.out, fun h => (by cases h), fun _ => ⟨by rw [E1.out]; exact itemLoop_last HB.out HIT.out (Or.inl HB2.out), by omega⟩⟩
            | false =>
              have HB2 := Lib.hid hb2
              rw [hb2] at q6
              clear hb2
              cases ha : peekR mComma s2 with
              | false =>
                have HAN := Lib.hid ha
                clear ha
                go_wp2_with fail
                refine (has H6.out.ri mComma false HAN.out).mono ?_
                rintro e W7 ⟨rfl, h7, g7⟩
                rw [hasR_not HAN.out] at h7
                have H7 := Lib.hid (H6.out.call h7 g7)
                clear h7 g7 q6
                go_wp2_with fail
                go_roundg n
                case measure => omega
                case rel => exact ⟨_, it ++ [i], s2, false, rfl, H7.out, fun h => (by cases h), fun _ => ⟨by rw [E1.out]; exact itemLoop_last HB.out HIT.out (Or.inr HAN.out), by omega⟩⟩
              | true =>
                have HAN := Lib.hid ha
                have hless := hasR_less ha
                clear ha
                go_wp2_with fail
                refine (has H6.out.ri mComma true HAN.out).mono ?_
                rintro e W7 ⟨rfl, h7, g7⟩
                have H7 := Lib.hid (H6.out.call h7 g7)
                clear h7 g7 q6
                go_wp2_with fail
                go_roundg n
                case measure => omega
                case rel => exact ⟨_, it ++ [i], hasR mComma s2, true, rfl, H7.out, fun _ => ⟨by rw [E1.out]; exact itemLoop_more HB.out HIT.out HB2.out HAN.out, by omega, by omega⟩, fun h => (by cases h)⟩
  case rest =>
    obtain ⟨vi, it, s1, hq, hms, hos⟩ := hcut
    obtain ⟨ao, ca, rfl⟩ : ∃ ao ca, vi = .slice ao it.length ca := by
      rcases hq.rt.2 with ⟨e, e0⟩ | ⟨g, cap, cur, e, _⟩
      · exact ⟨none, 0, (show vi = .slice none 0 0 from e).trans (by rw [show it.length = 0 from e0])⟩
      · exact ⟨_, _, e⟩
    obtain ⟨vi, hvi⟩ : ∃ vi, vi = Value.slice ao it.length ca := ⟨_, rfl⟩
    rw [← hvi] at hq
    have HVI := Lib.hid hvi
    clear hvi
    have HMS := Lib.hid hms
    have c7 : wc.cell? ⟨x, 7, none⟩ = some (.int .i64 0) := (hq.lq.cell 7).trans rfl
    have f7 : wc.frozen? ⟨x, 7, none⟩ = false := hq.lq.free 7
    have HQ : Hid (QAt W0 b lv ts s1 x (qC { query0 with kind := 1, order := 0, down := false, skip := 0, limit := -1 } vs vc vi (.slice none 0 0)) ⟨vs, sp, vc, cd, vi, it, (.slice none 0 0), []⟩ (wc.setCell ⟨x, 7, none⟩ (.int .i64 (-1)))) := hq.set 7 (.int .i64 (-1))
    clear hq hms HI
    go_upto_region 12 with fail
    generalize wc.setCell ⟨x, 7, none⟩ (.int .i64 (-1)) = wd at HQ ⊢
    clear c7 f7
    go_upto_region 12 with fail
    go_cut [8] (fun v w => ∃ m s2, v = .bool m ∧ QAt W0 b lv ts s2 x (qC { query0 with kind := 1, order := 0, down := false, skip := 0, limit := -1 } vs vc vi (.slice none 0 0)) ⟨vs, sp, vc, cd, vi, it, (.slice none 0 0), []⟩ w ∧ ((m = true ∧ s1.bad = false ∧ peekR kORDER s1 = true ∧ s2 = hasR kORDER s1) ∨ (m = false ∧ s2 = s1 ∧ (s1.bad = true ∨ peekR kORDER s1 = false))))
    case first =>
      have qb : wd.cell? ⟨b, 2, none⟩ = some (.bool s1.bad) := (HQ.out.ri.box.cell 2).trans rfl
      cases hb : s1.bad with
      | true =>
        have HB := Lib.hid hb
        rw [hb] at qb
        clear hb
        go_wp2_with fail
        go_meet
        case rel => exact ⟨false, s1, rfl, HQ.out, Or.inr ⟨rfl, rfl, Or.inl HB.out⟩⟩
      | false =>
        have HB := Lib.hid hb
        rw [hb] at qb
        clear hb
        cases hw : peekR kORDER s1 with
        | false =>
          have HW := Lib.hid hw
          clear hw
          go_wp2_with fail
          refine (has HQ.out.ri kORDER false HW.out).mono ?_
          rintro e W6 ⟨rfl, h6, g6⟩
          rw [hasR_not HW.out] at h6
          have H6 := Lib.hid (HQ.out.call h6 g6)
          clear h6 g6 qb
          go_wp2_with fail
          go_meet
          case rel => exact ⟨false, s1, rfl, H6.out, Or.inr ⟨rfl, rfl, Or.inr HW.out⟩⟩
        | true =>
          have HW := Lib.hid hw
          clear hw
          go_wp2_with fail
          refine (has HQ.out.ri kORDER true HW.out).mono ?_
          rintro e W6 ⟨rfl, h6, g6⟩
          have H6 := Lib.hid (HQ.out.call h6 g6)
          clear h6 g6 qb
          go_wp2_with fail
          go_meet
          case rel => exact ⟨true, hasR kORDER s1, rfl, H6.out, Or.inl ⟨rfl, HB.out, HW.out, rfl⟩⟩
    case rest =>
      clear HQ
      obtain ⟨m, s2, rfl, hq2, hcase⟩ := hcut
      have H2 := Lib.hid hq2
      have HCASE := Lib.hid hcase
      clear hq2 hcase
      go_upto_if 70 with fail
      go_cut [] (fun w => ∃ s3 o d, QAt W0 b lv ts s3 x (qC { query0 with kind := 1, order := o, down := d, skip := 0, limit := -1 } vs vc vi (.slice none 0 0)) ⟨vs, sp, vc, cd, vi, it, (.slice none 0 0), []⟩ w ∧ orderR it.length s1 = ((o, d), s3))
      case first =>
        cases m with
        | false =>
          go_wp2_with fail
          go_meet
          case rel =>
            rcases HCASE.out with ⟨e, _⟩ | ⟨_, rfl, hc⟩
            · cases e
            · exact ⟨_, 0, false, H2.out, by unfold orderR; rcases hc with hc | hc <;> simp [hc]⟩
        | true =>
          obtain ⟨o, s3, ho⟩ : ∃ o s3, countR 1 it.length (mustR kBY s2) = (o, s3) := ⟨_, _, rfl⟩
          have HO := Lib.hid ho
          clear ho
          go_wp2_with fail
          refine (must H2.out.ri kBY).mono ?_
          rintro e W3 ⟨rfl, h3, g3⟩
          have H3a := H2.out.call h3 g3
          have c3 : W3.cell? ⟨x, 3, none⟩ = some (.slice ao it.length ca) := (H3a.lq.cell 3).trans (by rw [HVI.out]; rfl)
          have H3 := Lib.hid H3a
          clear h3 g3 H3a
          go_wp2_with fail
          refine (countIs H3.out.ri HO.out).mono ?_
          rintro e W5 ⟨rfl, h5, g5⟩
          have H5a := H3.out.call h5 g5
          have c5 : W5.cell? ⟨x, 4, none⟩ = some (.int .i64 0) := (H5a.lq.cell 4).trans rfl
          have f5 : W5.frozen? ⟨x, 4, none⟩ = false := H5a.lq.free 4
          have H5 := Lib.hid (H5a.set 4 (.int .i64 o))
          clear h5 g5 H5a c3
          go_wp2_with fail
          generalize W5.setCell ⟨x, 4, none⟩ (.int .i64 o) = W6 at H5 ⊢
          clear c5 f5
          obtain ⟨d, hd⟩ : ∃ d, peekR kDESC s3 = d := ⟨_, rfl⟩
          have HDD := Lib.hid hd
          clear hd
          refine (has H5.out.ri kDESC d HDD.out).mono ?_
          rintro e W7 ⟨rfl, h7, g7⟩
          have H7a := H5.out.call h7 g7
          have c7 : W7.cell? ⟨x, 5, none⟩ = some (.bool false) := (H7a.lq.cell 5).trans rfl
          have f7 : W7.frozen? ⟨x, 5, none⟩ = false := H7a.lq.free 5
          have H7 := Lib.hid (H7a.set 5 (.bool d))
          clear h7 g7 H7a
          go_wp2_with fail
          go_meet
          case rel =>
            rcases HCASE.out with ⟨_, hb, hp, rfl⟩ | ⟨e, _⟩
            · exact ⟨_, o, d, H7.out, by unfold orderR; simp only [hb, hp]; simp only [Bool.not_false, Bool.and_self, if_true, HO.out, HDD.out]⟩
            · cases e
      case rest =>
        obtain ⟨s4, o, d, hq4, hor⟩ := hcut
        have H4 := Lib.hid hq4
        have HOR := Lib.hid hor
        clear hq4 hor H2 HCASE
        go_upto_region 17 with fail
        go_cut [9] (fun v w => ∃ m s2, v = .bool m ∧ QAt W0 b lv ts s2 x (qC { query0 with kind := 1, order := o, down := d, skip := 0, limit := -1 } vs vc vi (.slice none 0 0)) ⟨vs, sp, vc, cd, vi, it, (.slice none 0 0), []⟩ w ∧ ((m = true ∧ s4.bad = false ∧ peekR kSKIP s4 = true ∧ s2 = hasR kSKIP s4) ∨ (m = false ∧ s2 = s4 ∧ (s4.bad = true ∨ peekR kSKIP s4 = false))))
        case first =>
          have qb : wc.cell? ⟨b, 2, none⟩ = some (.bool s4.bad) := (H4.out.ri.box.cell 2).trans rfl
          cases hb : s4.bad with
          | true =>
            have HB := Lib.hid hb
            rw [hb] at qb
            clear hb
            go_wp2_with fail
            go_meet
            case rel => exact ⟨false, s4, rfl, H4.out, Or.inr ⟨rfl, rfl, Or.inl HB.out⟩⟩
          | false =>
            have HB := Lib.hid hb
            rw [hb] at qb
            clear hb
            cases hw : peekR kSKIP s4 with
            | false =>
              have HW := Lib.hid hw
              clear hw
              go_wp2_with fail
              refine (has H4.out.ri kSKIP false HW.out).mono ?_
              rintro e W6 ⟨rfl, h6, g6⟩
              rw [hasR_not HW.out] at h6
              have H6 := Lib.hid (H4.out.call h6 g6)
              clear h6 g6 qb
              go_wp2_with fail
              go_meet
              case rel => exact ⟨false, s4, rfl, H6.out, Or.inr ⟨rfl, rfl, Or.inr HW.out⟩⟩
            | true =>
              have HW := Lib.hid hw
              clear hw
              go_wp2_with fail
              refine (has H4.out.ri kSKIP true HW.out).mono ?_
              rintro e W6 ⟨rfl, h6, g6⟩
              have H6 := Lib.hid (H4.out.call h6 g6)
              clear h6 g6 qb
              go_wp2_with fail
              go_meet
              case rel => exact ⟨true, hasR kSKIP s4, rfl, H6.out, Or.inl ⟨rfl, HB.out, HW.out, rfl⟩⟩
        case rest =>
          clear H4
          obtain ⟨m, s2, rfl, hq2, hcase⟩ := hcut
          have H2 := Lib.hid hq2
          have HCASE := Lib.hid hcase
          clear hq2 hcase
          go_upto_if 97 with fail
          go_cut [] (fun w => ∃ s3 k, QAt W0 b lv ts s3 x (qC { query0 with kind := 1, order := o, down := d, skip := k, limit := -1 } vs vc vi (.slice none 0 0)) ⟨vs, sp, vc, cd, vi, it, (.slice none 0 0), []⟩ w ∧ partR kSKIP (0) s4 = (k, s3))
          case first =>
            cases m with
            | false =>
              go_wp2_with fail
              go_meet
              case rel =>
                rcases HCASE.out with ⟨e, _⟩ | ⟨_, rfl, hc⟩
                · cases e
                · exact ⟨_, 0, H2.out, by unfold partR; rcases hc with hc | hc <;> simp [hc]⟩
            | true =>
              obtain ⟨k0, s3, hk0⟩ : ∃ k0 s3, countR 0 1000000000 s2 = (k0, s3) := ⟨_, _, rfl⟩
              have HK0 := Lib.hid hk0
              clear hk0
              go_wp2_with fail
              refine (countIs H2.out.ri HK0.out).mono ?_
              rintro e W5 ⟨rfl, h5, g5⟩
              have H5a := H2.out.call h5 g5
              have c5 : W5.cell? ⟨x, 6, none⟩ = some (.int .i64 (0)) := (H5a.lq.cell 6).trans rfl
              have f5 : W5.frozen? ⟨x, 6, none⟩ = false := H5a.lq.free 6
              have H5 := Lib.hid (H5a.set 6 (.int .i64 k0))
              clear h5 g5 H5a
              go_wp2_with fail
              go_meet
              case rel =>
                rcases HCASE.out with ⟨_, hb, hp, rfl⟩ | ⟨e, _⟩
                · exact ⟨s3, k0, H5.out, by unfold partR; simp only [hb, hp]; exact HK0.out⟩
                · cases e
          case rest =>
            obtain ⟨s5, k, hq5, hsk⟩ := hcut
            have H5 := Lib.hid hq5
            have HSK := Lib.hid hsk
            clear hq5 hsk H2 HCASE
            go_upto_region 20 with fail
            go_cut [10] (fun v w => ∃ m s2, v = .bool m ∧ QAt W0 b lv ts s2 x (qC { query0 with kind := 1, order := o, down := d, skip := k, limit := -1 } vs vc vi (.slice none 0 0)) ⟨vs, sp, vc, cd, vi, it, (.slice none 0 0), []⟩ w ∧ ((m = true ∧ s5.bad = false ∧ peekR kLIMIT s5 = true ∧ s2 = hasR kLIMIT s5) ∨ (m = false ∧ s2 = s5 ∧ (s5.bad = true ∨ peekR kLIMIT s5 = false))))
            case first =>
              have qb : wc.cell? ⟨b, 2, none⟩ = some (.bool s5.bad) := (H5.out.ri.box.cell 2).trans rfl
              cases hb : s5.bad with
              | true =>
                have HB := Lib.hid hb
                rw [hb] at qb
                clear hb
                go_wp2_with fail
                go_meet
                case rel => exact ⟨false, s5, rfl, H5.out, Or.inr ⟨rfl, rfl, Or.inl HB.out⟩⟩
              | false =>
                have HB := Lib.hid hb
                rw [hb] at qb
                clear hb
                cases hw : peekR kLIMIT s5 with
                | false =>
                  have HW := Lib.hid hw
                  clear hw
                  go_wp2_with fail
                  refine (has H5.out.ri kLIMIT false HW.out).mono ?_
                  rintro e W6 ⟨rfl, h6, g6⟩
                  rw [hasR_not HW.out] at h6
                  have H6 := Lib.hid (H5.out.call h6 g6)
                  clear h6 g6 qb
                  go_wp2_with fail
                  go_meet
                  case rel => exact ⟨false, s5, rfl, H6.out, Or.inr ⟨rfl, rfl, Or.inr HW.out⟩⟩
                | true =>
                  have HW := Lib.hid hw
                  clear hw
                  go_wp2_with fail
                  refine (has H5.out.ri kLIMIT true HW.out).mono ?_
                  rintro e W6 ⟨rfl, h6, g6⟩
                  have H6 := Lib.hid (H5.out.call h6 g6)
                  clear h6 g6 qb
                  go_wp2_with fail
                  go_meet
                  case rel => exact ⟨true, hasR kLIMIT s5, rfl, H6.out, Or.inl ⟨rfl, HB.out, HW.out, rfl⟩⟩
            case rest =>
              clear H5
              obtain ⟨m, s2, rfl, hq2, hcase⟩ := hcut
              have H2 := Lib.hid hq2
              have HCASE := Lib.hid hcase
              clear hq2 hcase
              go_upto_if 112 with fail
              go_cut [] (fun w => ∃ s3 l, QAt W0 b lv ts s3 x (qC { query0 with kind := 1, order := o, down := d, skip := k, limit := l } vs vc vi (.slice none 0 0)) ⟨vs, sp, vc, cd, vi, it, (.slice none 0 0), []⟩ w ∧ partR kLIMIT (-1) s5 = (l, s3))
              case first =>
                cases m with
                | false =>
                  go_wp2_with fail
                  go_meet
                  case rel =>
                    rcases HCASE.out with ⟨e, _⟩ | ⟨_, rfl, hc⟩
                    · cases e
                    · exact ⟨_, -1, H2.out, by unfold partR; rcases hc with hc | hc <;> simp [hc]⟩
                | true =>
                  obtain ⟨k0, s3, hk0⟩ : ∃ k0 s3, countR 0 1000000000 s2 = (k0, s3) := ⟨_, _, rfl⟩
                  have HK0 := Lib.hid hk0
                  clear hk0
                  go_wp2_with fail
                  refine (countIs H2.out.ri HK0.out).mono ?_
                  rintro e W5 ⟨rfl, h5, g5⟩
                  have H5a := H2.out.call h5 g5
                  have c5 : W5.cell? ⟨x, 7, none⟩ = some (.int .i64 (-1)) := (H5a.lq.cell 7).trans rfl
                  have f5 : W5.frozen? ⟨x, 7, none⟩ = false := H5a.lq.free 7
                  have H5 := Lib.hid (H5a.set 7 (.int .i64 k0))
                  clear h5 g5 H5a
                  go_wp2_with fail
                  go_meet
                  case rel =>
                    rcases HCASE.out with ⟨_, hb, hp, rfl⟩ | ⟨e, _⟩
                    · exact ⟨s3, k0, H5.out, by unfold partR; simp only [hb, hp]; exact HK0.out⟩
                    · cases e
              case rest =>
                obtain ⟨s6, l, hq6, hli⟩ := hcut
                have H9 := Lib.hid hq6
                have HLI := Lib.hid hli
                have r2 : wc.cell? ⟨b, 2, none⟩ = some (.bool s6.bad) := (hq6.ri.box.cell 2).trans rfl
                have fr2 : wc.frozen? ⟨b, 2, none⟩ = false := hq6.ri.box.free 2
                have z3 : wc.cell? ⟨x, 3, none⟩ = some (.slice ao it.length ca) := (hq6.lq.cell 3).trans (by rw [HVI.out]; rfl)
                clear hq6 hli H2 HCASE
                have HIS : Hid (itemsR st = (⟨it, o, d, k, l⟩, s6.orBad (decide (6 < it.length)))) := by
                  show _ = _; unfold itemsR; simp only [HMS.out, HOR.out, HSK.out, HLI.out]
                cases hb : s6.bad with
                | true =>
                  rw [hb] at r2
                  have HF : Hid (itemsR st = (⟨it, o, d, k, l⟩, ⟨s6.rest, true⟩)) := by show _ = _; rw [HIS.out]; unfold RS.orBad; simp only [hb]; rfl
                  clear hb
                  go_wp2_with fail
                  go_end0
                  refine ⟨rfl, vi, ?_⟩
                  rw [HF.out]
                  exact H9.out.setBad true
                | false =>
                  rw [hb] at r2
                  by_cases h6 : 6 < it.length
                  · have HF : Hid (itemsR st = (⟨it, o, d, k, l⟩, ⟨s6.rest, true⟩)) := by show _ = _; rw [HIS.out]; unfold RS.orBad; simp only [hb]; simp [h6]
                    clear hb
                    have h6i : (6 : Int) < it.length := by omega
                    go_wp2_with fail
                    go_end0
                    refine ⟨rfl, vi, ?_⟩
                    rw [HF.out]
                    exact H9.out.setBad true
                  · have HF : Hid (itemsR st = (⟨it, o, d, k, l⟩, ⟨s6.rest, false⟩)) := by show _ = _; rw [HIS.out]; unfold RS.orBad; simp only [hb]; simp [h6]
                    clear hb
                    have h6i : ¬ (6 : Int) < it.length := by omega
                    go_wp2_with fail
                    go_end0
                    refine ⟨rfl, vi, ?_⟩
                    rw [HF.out]
                    exact H9.out.setBad false

end Go.Proofs.YtobgbmfpicmpcaaGreatDoor

