/- The program's parser: lists. -/
import Derived.Test.YtobgbmfpicmpcaaGreatDoorC10
namespace Go.Proofs.YtobgbmfpicmpcaaGreatDoor
open Go.RowKit

theorem peekP_some {s : ByteArray} {st : RS} (h : peekP s st = true) : 0 < st.rest.length := by
  unfold peekP at h
  split at h
  · cases h
  · rename_i e; rw [e]; simp
theorem acceptP_less {s : ByteArray} {st : RS} (h : peekP s st = true) : (acceptP s st).rest.length + 1 = st.rest.length := by
  have := peekP_some h
  unfold acceptP; rw [if_pos h]; simp; omega
theorem listLoop_more {α : Type} {one : RS → α × RS} {sep : ByteArray} {n : Nat} {out : List α} {st s2 : RS} {x : α} (h : peekP sep st = true) (hx : one (acceptP sep st) = (x, s2)) : listLoop one sep (n + 1) out st = listLoop one sep n (out ++ [x]) s2 := by
  simp only [listLoop, h, if_true, hx]
theorem listLoop_end {α : Type} {one : RS → α × RS} {sep : ByteArray} {n : Nat} {out : List α} {st : RS} (h : peekP sep st = false) : listLoop one sep n out st = (out, st) := by
  cases n with
  | zero => rfl
  | succ n => simp only [listLoop, h]; rfl
/-- The parser beside a row that the call has made. -/
structure PL (W0 : World) (b G : Nat) (st : RS) (T : TypeId) (k : Nat) (v : Value) (n : Nat) (xs : List Value) (w : World) : Prop where
  p : PI b G st w
  row : w.ownsRow W0.heap.size T k v n xs
  grown : W0.grownBy w (some b)
  gw : G < W0.heap.size
  bw : b < W0.heap.size
theorem PL.call {W0 w w' : World} {b G : Nat} {st st' : RS} {T : TypeId} {k n : Nat} {v : Value} {xs : List Value} (h : PL W0 b G st T k v n xs w) (h1 : PI b G st' w') (g1 : w.grownBy w' (some b)) : PL W0 b G st' T k v n xs w' := by
  refine ⟨h1, h.row.kept g1 (Or.inr ?_), grown_trans h.grown g1, h.gw, h.bw⟩
  intro e
  have := (h.row.lt b e).1
  have := h.bw
  omega
theorem PL.quiet {W0 w w' : World} {b G : Nat} {st : RS} {T : TypeId} {k n : Nat} {v : Value} {xs : List Value} (h : PL W0 b G st T k v n xs w) (g : w.grownBy w' none) : PL W0 b G st T k v n xs w' := h.call (h.p.quiet g) (grown_any g _)
theorem PL.more {W0 w w2 : World} {b G : Nat} {st : RS} {T : TypeId} {k n n2 : Nat} {v v2 : Value} {xs xs2 : List Value} (h : PL W0 b G st T k v n xs w) (g : w.grownBy w2 v.ownBlock) (ho : w2.ownsRow W0.heap.size T k v2 n2 xs2) : PL W0 b G st T k v2 n2 xs2 w2 := by
  have hs := h.grown.size
  have hb := h.bw
  have hg := h.gw
  refine ⟨h.p.kept g ?_ ?_, ho, ⟨g.os.trans h.grown.os, g.tape.trans h.grown.tape, g.output.trans h.grown.output, Nat.le_trans hs g.size, fun j hj hne => (g.block j (by omega) ?_).trans (h.grown.block j hj hne)⟩, h.gw, h.bw⟩
  · intro e; have := (h.row.lt b e.symm).1; omega
  · intro e; have := (h.row.lt G e.symm).1; omega
  · intro e; have := (h.row.lt j e.symm).1; omega

set_option maxRecDepth 100000 in
set_option maxHeartbeats 4000000 in
theorem listPair {b G : Nat} {st s1 : RS} {sep : ByteArray} {l : List PPair} {W : World} (h : PI b G st W) (hl : st.rest.length ≤ 2000) (hn : listP pairP sep 6 st = (l, s1)) :
    Calls Tryz.prog 157 #[.pointer (some ⟨b, 0, none⟩), .string sep, .int .i64 6, .func (.func 158) #[.pointer (some ⟨b, 0, none⟩)] #[]] W fun e W' => ∃ v, e = .returned v ∧ W'.ownsRow W.heap.size 91 2 v l.length (pairCells l) ∧ PI b G s1 W' ∧ W.grownBy W' (some b) := by
  obtain ⟨i1, hj, hy0, hy1, hy2⟩ := info_parts Tryz.infoPair
  obtain ⟨x0, a1, ha⟩ : ∃ x0 az, pairP st = (x0, az) := ⟨_, _, rfl⟩
  obtain ⟨L, a2, hL⟩ : ∃ L az, listLoop pairP sep a1.rest.length [x0] a1 = (L, az) := ⟨_, _, rfl⟩
  have e : (L, if 6 < L.length then failP else a2) = (l, s1) := by rw [← hn]; unfold listP; simp only [ha, hL]
  injection e with e1 e2
  subst e1
  have hl1 := Pure.pairP_len st
  rw [ha] at hl1
  have HA := Lib.hid ha
  have HL := Lib.hid hL
  have HE := Lib.hid e2
  have HH := Lib.hid h
  have hgw := h.far.2
  have hbw : b < W.heap.size := by obtain ⟨_, _, hb, _⟩ := h.box; exact hb.lt
  clear h hn ha hL e2
  go_enter Tryz.func157, Tryz.ntmps157
  go_wp2_with fail
  refine (pair_ HH.out HA.out).mono ?_
  rintro e W1 ⟨rfl, h1, g1⟩
  have hsz := g1.size
  have H1 : Hid (PL W b G a1 91 2 (.slice (some ⟨W1.heap.size, 0, none⟩) 1 1) 1 (pairCells [x0]) (W1.alloc (.cells #[.string x0.key, .int .i64 x0.val] 91))) :=
    ⟨h1.quiet (grown_alloc W1 _ none), World.ownsRow_lit (size := 2) W1 #[.string x0.key, .int .i64 x0.val] 1 hsz (by unfold maxLen; omega) rfl, grown_trans g1 (grown_alloc W1 _ _), hgw, hbw⟩
  clear h1 g1 HH
  go_upto_block 0 with fail
  obtain ⟨V, hV⟩ : ∃ V, V = Value.slice (some ⟨W1.heap.size, 0, none⟩) 1 1 := ⟨_, rfl⟩
  rw [← hV] at H1 ⊢
  clear hV
  generalize W1.alloc (.cells #[.string x0.key, .int .i64 x0.val] 91) = W2 at H1 ⊢
  clear hsz
  go_cut [9] (fun v w => PL W b G a2 91 2 v L.length (pairCells L) w ∧ L.length + a2.rest.length ≤ 2001)
  case first =>
    go_wp2_with fail
    go_loopg [9] (a1.rest.length + 1) (fun m v w => ∃ out s' n, PL W b G s' 91 2 v out.length (pairCells out) w ∧ listLoop pairP sep n out s' = (L, a2) ∧ s'.rest.length ≤ n ∧ s'.rest.length + 1 ≤ m ∧ out.length + s'.rest.length ≤ 2001)
    case atStart => exact ⟨[x0], a1, a1.rest.length, H1.out, HL.out, Nat.le_refl _, by omega, by simp; omega⟩
    case round =>
      obtain ⟨out, s', n, hq, hlp, hsn, hsm, hos⟩ := hrel
      have HQ := Lib.hid hq
      have HLP := Lib.hid hlp
      clear hq hlp H1 HL
      cases hm : peekP sep s' with
      | false =>
        have HM := Lib.hid hm
        clear hm
        go_wp2_with fail
        refine (accept_ HQ.out.p sep false HM.out).mono ?_
        rintro e W3 ⟨rfl, h3, g3⟩
        rw [show acceptP sep s' = s' by unfold acceptP; rw [HM.out]; rfl] at h3
        have H3 := Lib.hid (HQ.out.call h3 g3)
        clear h3 g3 HQ
        go_wp2_with fail
        go_meet
        case rel =>
          have e := HLP.out
          rw [listLoop_end HM.out] at e
          injection e with e1 e2
          subst e1; subst e2
          exact ⟨H3.out, hos⟩
      | true =>
        have HM := Lib.hid hm
        have hless := acceptP_less hm
        obtain ⟨x, s2, hx⟩ : ∃ x az, pairP (acceptP sep s') = (x, az) := ⟨_, _, rfl⟩
        have hxl := Pure.pairP_len (acceptP sep s')
        rw [hx] at hxl
        have HX := Lib.hid hx
        obtain ⟨n2, hn2⟩ : ∃ n2, n = n2 + 1 := ⟨n - 1, by omega⟩
        subst hn2
        clear hm hx
        go_wp2_with fail
        refine (accept_ HQ.out.p sep true HM.out).mono ?_
        rintro e W3 ⟨rfl, h3, g3⟩
        have H3 := Lib.hid (HQ.out.call h3 g3)
        clear h3 g3 HQ
        go_wp2_with fail
        refine (pair_ H3.out.p HX.out).mono ?_
        rintro e W4 ⟨rfl, h4, g4⟩
        have H4 := Lib.hid (H3.out.call h4 g4)
        clear h4 g4 H3
        have HD := Lib.hid (H4.out.quiet (grown_alloc W4 (.cells #[.string x.key, .int .i64 x.val] 91) none))
        obtain ⟨pa, pc, hshape⟩ : ∃ ao cap, u9 = .slice ao out.length cap := by
          obtain ⟨ao, cap, e, _⟩ := row_slice (l := out) HD.out.row
          exact ⟨ao, cap, e⟩
        subst hshape
        clear H4
        go_wp2_with (at_builtin; go_must (refine wpList_append_lies _ rfl _ _ 27 rfl W.heap.size 91 i1 (.agg #[.string ⟨#[]⟩, .int .i64 0]) 2 24 Tryz.underlying27 hj hy0 hy1 hy2 rfl (by decide) (.slice pa out.length pc) _ _ rfl HD.out.row _ 1 1 [.string x.key, .int .i64 x.val] rfl rfl (World.news_of_block (heap_alloc_new W4 _)) pair_one (by omega) (by unfold maxLen; omega) (by omega) HD.out.grown.size _ rfl ?_; intro g2 cap2 w5 hown hgrow _ _; have H5 := Lib.hid (HD.out.more hgrow hown); clear hown hgrow))
        go_roundg (gk - 1)
        case measure => omega
        case rel =>
          refine ⟨out ++ [x], s2, n2, ?_, ?_, by omega, by omega, by rw [List.length_append]; simp; omega⟩
          · rw [pairCells_snoc, List.length_append]; exact H5.out
          · rw [← HLP.out, listLoop_more HM.out HX.out]
  case rest =>
    obtain ⟨hq, hos⟩ := hcut
    have HQ := Lib.hid hq
    obtain ⟨pa, pc, hshape⟩ : ∃ ao cap, u9 = .slice ao L.length cap := by
      obtain ⟨ao, cap, e, _⟩ := row_slice (l := L) hq.row
      exact ⟨ao, cap, e⟩
    subst hshape
    clear hq H1
    by_cases h6 : 6 < L.length
    · have HS : Hid (s1 = failP) := by show _ = _; rw [← HE.out, if_pos h6]
      have h6i : (6 : Int) < (L.length : Int) := by omega
      go_wp2_with fail
      refine (fail_ HQ.out.p).mono ?_
      rintro e W3 ⟨rfl, h3, g3⟩
      have H3 := Lib.hid (HQ.out.call h3 g3)
      clear h3 g3
      go_wp2_with fail
      refine bodyPost_ret (v := .slice pa L.length pc) ?_ rfl ⟨_, rfl, H3.out.row, by rw [HS.out]; exact H3.out.p, H3.out.grown⟩
      simp [results, Tryz.results157, go_sem]
    · have HS : Hid (s1 = a2) := by show _ = _; rw [← HE.out, if_neg h6]
      have h6i : ¬ (6 : Int) < (L.length : Int) := by omega
      go_wp2_with fail
      refine bodyPost_ret (v := .slice pa L.length pc) ?_ rfl ⟨_, rfl, HQ.out.row, by rw [HS.out]; exact HQ.out.p, HQ.out.grown⟩
      simp [results, Tryz.results157, go_sem]

set_option maxRecDepth 100000 in
set_option maxHeartbeats 4000000 in
theorem listItem {b G : Nat} {st s1 : RS} {sep : ByteArray} {l : List PItem} {W : World} (h : PI b G st W) (hl : st.rest.length ≤ 2000) (hn : listP itemP sep 6 st = (l, s1)) :
    Calls Tryz.prog 220 #[.pointer (some ⟨b, 0, none⟩), .string sep, .int .i64 6, .func (.func 221) #[.pointer (some ⟨b, 0, none⟩)] #[]] W fun e W' => ∃ v, e = .returned v ∧ W'.ownsRow W.heap.size 89 2 v l.length (itemCells l) ∧ PI b G s1 W' ∧ W.grownBy W' (some b) := by
  obtain ⟨i1, hj, hy0, hy1, hy2⟩ := info_parts Tryz.infoItem
  obtain ⟨x0, a1, ha⟩ : ∃ x0 az, itemP st = (x0, az) := ⟨_, _, rfl⟩
  obtain ⟨L, a2, hL⟩ : ∃ L az, listLoop itemP sep a1.rest.length [x0] a1 = (L, az) := ⟨_, _, rfl⟩
  have e : (L, if 6 < L.length then failP else a2) = (l, s1) := by rw [← hn]; unfold listP; simp only [ha, hL]
  injection e with e1 e2
  subst e1
  have hl1 := Pure.itemP_len st
  rw [ha] at hl1
  have HA := Lib.hid ha
  have HL := Lib.hid hL
  have HE := Lib.hid e2
  have HH := Lib.hid h
  have hgw := h.far.2
  have hbw : b < W.heap.size := by obtain ⟨_, _, hb, _⟩ := h.box; exact hb.lt
  clear h hn ha hL e2
  go_enter Tryz.func220, Tryz.ntmps220
  go_wp2_with fail
  refine (item_ HH.out HA.out).mono ?_
  rintro e W1 ⟨rfl, h1, g1⟩
  have hsz := g1.size
  have H1 : Hid (PL W b G a1 89 2 (.slice (some ⟨W1.heap.size, 0, none⟩) 1 1) 1 (itemCells [x0]) (W1.alloc (.cells #[.string x0.name, .string x0.key] 89))) :=
    ⟨h1.quiet (grown_alloc W1 _ none), World.ownsRow_lit (size := 2) W1 #[.string x0.name, .string x0.key] 1 hsz (by unfold maxLen; omega) rfl, grown_trans g1 (grown_alloc W1 _ _), hgw, hbw⟩
  clear h1 g1 HH
  go_upto_block 0 with fail
  obtain ⟨V, hV⟩ : ∃ V, V = Value.slice (some ⟨W1.heap.size, 0, none⟩) 1 1 := ⟨_, rfl⟩
  rw [← hV] at H1 ⊢
  clear hV
  generalize W1.alloc (.cells #[.string x0.name, .string x0.key] 89) = W2 at H1 ⊢
  clear hsz
  go_cut [9] (fun v w => PL W b G a2 89 2 v L.length (itemCells L) w ∧ L.length + a2.rest.length ≤ 2001)
  case first =>
    go_wp2_with fail
    go_loopg [9] (a1.rest.length + 1) (fun m v w => ∃ out s' n, PL W b G s' 89 2 v out.length (itemCells out) w ∧ listLoop itemP sep n out s' = (L, a2) ∧ s'.rest.length ≤ n ∧ s'.rest.length + 1 ≤ m ∧ out.length + s'.rest.length ≤ 2001)
    case atStart => exact ⟨[x0], a1, a1.rest.length, H1.out, HL.out, Nat.le_refl _, by omega, by simp; omega⟩
    case round =>
      obtain ⟨out, s', n, hq, hlp, hsn, hsm, hos⟩ := hrel
      have HQ := Lib.hid hq
      have HLP := Lib.hid hlp
      clear hq hlp H1 HL
      cases hm : peekP sep s' with
      | false =>
        have HM := Lib.hid hm
        clear hm
        go_wp2_with fail
        refine (accept_ HQ.out.p sep false HM.out).mono ?_
        rintro e W3 ⟨rfl, h3, g3⟩
        rw [show acceptP sep s' = s' by unfold acceptP; rw [HM.out]; rfl] at h3
        have H3 := Lib.hid (HQ.out.call h3 g3)
        clear h3 g3 HQ
        go_wp2_with fail
        go_meet
        case rel =>
          have e := HLP.out
          rw [listLoop_end HM.out] at e
          injection e with e1 e2
          subst e1; subst e2
          exact ⟨H3.out, hos⟩
      | true =>
        have HM := Lib.hid hm
        have hless := acceptP_less hm
        obtain ⟨x, s2, hx⟩ : ∃ x az, itemP (acceptP sep s') = (x, az) := ⟨_, _, rfl⟩
        have hxl := Pure.itemP_len (acceptP sep s')
        rw [hx] at hxl
        have HX := Lib.hid hx
        obtain ⟨n2, hn2⟩ : ∃ n2, n = n2 + 1 := ⟨n - 1, by omega⟩
        subst hn2
        clear hm hx
        go_wp2_with fail
        refine (accept_ HQ.out.p sep true HM.out).mono ?_
        rintro e W3 ⟨rfl, h3, g3⟩
        have H3 := Lib.hid (HQ.out.call h3 g3)
        clear h3 g3 HQ
        go_wp2_with fail
        refine (item_ H3.out.p HX.out).mono ?_
        rintro e W4 ⟨rfl, h4, g4⟩
        have H4 := Lib.hid (H3.out.call h4 g4)
        clear h4 g4 H3
        have HD := Lib.hid (H4.out.quiet (grown_alloc W4 (.cells #[.string x.name, .string x.key] 89) none))
        obtain ⟨pa, pc, hshape⟩ : ∃ ao cap, u9 = .slice ao out.length cap := by
          obtain ⟨ao, cap, e, _⟩ := row_slice (l := out) HD.out.row
          exact ⟨ao, cap, e⟩
        subst hshape
        clear H4
        go_wp2_with (at_builtin; go_must (refine wpList_append_lies _ rfl _ _ 24 rfl W.heap.size 89 i1 (.agg #[.string ⟨#[]⟩, .string ⟨#[]⟩]) 2 32 Tryz.underlying24 hj hy0 hy1 hy2 rfl (by decide) (.slice pa out.length pc) _ _ rfl HD.out.row _ 1 1 [.string x.name, .string x.key] rfl rfl (World.news_of_block (heap_alloc_new W4 _)) two_one (by omega) (by unfold maxLen; omega) (by omega) HD.out.grown.size _ rfl ?_; intro g2 cap2 w5 hown hgrow _ _; have H5 := Lib.hid (HD.out.more hgrow hown); clear hown hgrow))
        go_roundg (gk - 1)
        case measure => omega
        case rel =>
          refine ⟨out ++ [x], s2, n2, ?_, ?_, by omega, by omega, by rw [List.length_append]; simp; omega⟩
          · rw [itemCells_snoc, List.length_append]; exact H5.out
          · rw [← HLP.out, listLoop_more HM.out HX.out]
  case rest =>
    obtain ⟨hq, hos⟩ := hcut
    have HQ := Lib.hid hq
    obtain ⟨pa, pc, hshape⟩ : ∃ ao cap, u9 = .slice ao L.length cap := by
      obtain ⟨ao, cap, e, _⟩ := row_slice (l := L) hq.row
      exact ⟨ao, cap, e⟩
    subst hshape
    clear hq H1
    by_cases h6 : 6 < L.length
    · have HS : Hid (s1 = failP) := by show _ = _; rw [← HE.out, if_pos h6]
      have h6i : (6 : Int) < (L.length : Int) := by omega
      go_wp2_with fail
      refine (fail_ HQ.out.p).mono ?_
      rintro e W3 ⟨rfl, h3, g3⟩
      have H3 := Lib.hid (HQ.out.call h3 g3)
      clear h3 g3
      go_wp2_with fail
      refine bodyPost_ret (v := .slice pa L.length pc) ?_ rfl ⟨_, rfl, H3.out.row, by rw [HS.out]; exact H3.out.p, H3.out.grown⟩
      simp [results, Tryz.results220, go_sem]
    · have HS : Hid (s1 = a2) := by show _ = _; rw [← HE.out, if_neg h6]
      have h6i : ¬ (6 : Int) < (L.length : Int) := by omega
      go_wp2_with fail
      refine bodyPost_ret (v := .slice pa L.length pc) ?_ rfl ⟨_, rfl, HQ.out.row, by rw [HS.out]; exact HQ.out.p, HQ.out.grown⟩
      simp [results, Tryz.results220, go_sem]

set_option maxRecDepth 100000 in
set_option maxHeartbeats 4000000 in
theorem listCond {b G : Nat} {st s1 : RS} {sep : ByteArray} {l : List PCond} {W : World} (h : PI b G st W) (hl : st.rest.length ≤ 2000) (hn : listP condP sep 6 st = (l, s1)) :
    Calls Tryz.prog 99 #[.pointer (some ⟨b, 0, none⟩), .string sep, .int .i64 6, .func (.func 100) #[.pointer (some ⟨b, 0, none⟩)] #[]] W fun e W' => ∃ v, e = .returned v ∧ W'.ownsRow W.heap.size 87 7 v l.length (condCells l) ∧ PI b G s1 W' ∧ W.grownBy W' (some b) := by
  obtain ⟨i1, hj, hy0, hy1, hy2⟩ := info_parts Tryz.infoCond
  obtain ⟨x0, a1, ha⟩ : ∃ x0 az, condP st = (x0, az) := ⟨_, _, rfl⟩
  obtain ⟨L, a2, hL⟩ : ∃ L az, listLoop condP sep a1.rest.length [x0] a1 = (L, az) := ⟨_, _, rfl⟩
  have e : (L, if 6 < L.length then failP else a2) = (l, s1) := by rw [← hn]; unfold listP; simp only [ha, hL]
  injection e with e1 e2
  subst e1
  have hl1 := Pure.condP_len st
  rw [ha] at hl1
  have HA := Lib.hid ha
  have HL := Lib.hid hL
  have HE := Lib.hid e2
  have HH := Lib.hid h
  have hgw := h.far.2
  have hbw : b < W.heap.size := by obtain ⟨_, _, hb, _⟩ := h.box; exact hb.lt
  clear h hn ha hL e2
  go_enter Tryz.func99, Tryz.ntmps99
  go_wp2_with fail
  refine (cond_ HH.out HA.out).mono ?_
  rintro e W1 ⟨rfl, h1, g1⟩
  have hsz := g1.size
  have H1 : Hid (PL W b G a1 87 7 (.slice (some ⟨W1.heap.size, 0, none⟩) 1 1) 1 (condCells [x0]) (W1.alloc (.cells #[.int .i64 x0.op, .string x0.a.name, .string x0.a.key, .int .i64 x0.a.val, .string x0.b.name, .string x0.b.key, .int .i64 x0.b.val] 87))) :=
    ⟨h1.quiet (grown_alloc W1 _ none), World.ownsRow_lit (size := 7) W1 #[.int .i64 x0.op, .string x0.a.name, .string x0.a.key, .int .i64 x0.a.val, .string x0.b.name, .string x0.b.key, .int .i64 x0.b.val] 1 hsz (by unfold maxLen; omega) rfl, grown_trans g1 (grown_alloc W1 _ _), hgw, hbw⟩
  clear h1 g1 HH
  go_upto_block 0 with fail
  obtain ⟨V, hV⟩ : ∃ V, V = Value.slice (some ⟨W1.heap.size, 0, none⟩) 1 1 := ⟨_, rfl⟩
  rw [← hV] at H1 ⊢
  clear hV
  generalize W1.alloc (.cells #[.int .i64 x0.op, .string x0.a.name, .string x0.a.key, .int .i64 x0.a.val, .string x0.b.name, .string x0.b.key, .int .i64 x0.b.val] 87) = W2 at H1 ⊢
  clear hsz
  go_cut [9] (fun v w => PL W b G a2 87 7 v L.length (condCells L) w ∧ L.length + a2.rest.length ≤ 2001)
  case first =>
    go_wp2_with fail
    go_loopg [9] (a1.rest.length + 1) (fun m v w => ∃ out s' n, PL W b G s' 87 7 v out.length (condCells out) w ∧ listLoop condP sep n out s' = (L, a2) ∧ s'.rest.length ≤ n ∧ s'.rest.length + 1 ≤ m ∧ out.length + s'.rest.length ≤ 2001)
    case atStart => exact ⟨[x0], a1, a1.rest.length, H1.out, HL.out, Nat.le_refl _, by omega, by simp; omega⟩
    case round =>
      obtain ⟨out, s', n, hq, hlp, hsn, hsm, hos⟩ := hrel
      have HQ := Lib.hid hq
      have HLP := Lib.hid hlp
      clear hq hlp H1 HL
      cases hm : peekP sep s' with
      | false =>
        have HM := Lib.hid hm
        clear hm
        go_wp2_with fail
        refine (accept_ HQ.out.p sep false HM.out).mono ?_
        rintro e W3 ⟨rfl, h3, g3⟩
        rw [show acceptP sep s' = s' by unfold acceptP; rw [HM.out]; rfl] at h3
        have H3 := Lib.hid (HQ.out.call h3 g3)
        clear h3 g3 HQ
        go_wp2_with fail
        go_meet
        case rel =>
          have e := HLP.out
          rw [listLoop_end HM.out] at e
          injection e with e1 e2
          subst e1; subst e2
          exact ⟨H3.out, hos⟩
      | true =>
        have HM := Lib.hid hm
        have hless := acceptP_less hm
        obtain ⟨x, s2, hx⟩ : ∃ x az, condP (acceptP sep s') = (x, az) := ⟨_, _, rfl⟩
        have hxl := Pure.condP_len (acceptP sep s')
        rw [hx] at hxl
        have HX := Lib.hid hx
        obtain ⟨n2, hn2⟩ : ∃ n2, n = n2 + 1 := ⟨n - 1, by omega⟩
        subst hn2
        clear hm hx
        go_wp2_with fail
        refine (accept_ HQ.out.p sep true HM.out).mono ?_
        rintro e W3 ⟨rfl, h3, g3⟩
        have H3 := Lib.hid (HQ.out.call h3 g3)
        clear h3 g3 HQ
        go_wp2_with fail
        refine (cond_ H3.out.p HX.out).mono ?_
        rintro e W4 ⟨rfl, h4, g4⟩
        have H4 := Lib.hid (H3.out.call h4 g4)
        clear h4 g4 H3
        have HD := Lib.hid (H4.out.quiet (grown_alloc W4 (.cells #[.int .i64 x.op, .string x.a.name, .string x.a.key, .int .i64 x.a.val, .string x.b.name, .string x.b.key, .int .i64 x.b.val] 87) none))
        obtain ⟨pa, pc, hshape⟩ : ∃ ao cap, u9 = .slice ao out.length cap := by
          obtain ⟨ao, cap, e, _⟩ := row_slice (l := out) HD.out.row
          exact ⟨ao, cap, e⟩
        subst hshape
        clear H4
        go_wp2_with (at_builtin; go_must (refine wpList_append_lies _ rfl _ _ 23 rfl W.heap.size 87 i1 (.agg #[.int .i64 0, .string ⟨#[]⟩, .string ⟨#[]⟩, .int .i64 0, .string ⟨#[]⟩, .string ⟨#[]⟩, .int .i64 0]) 7 88 Tryz.underlying23 hj hy0 hy1 hy2 rfl (by decide) (.slice pa out.length pc) _ _ rfl HD.out.row _ 1 1 [.int .i64 x.op, .string x.a.name, .string x.a.key, .int .i64 x.a.val, .string x.b.name, .string x.b.key, .int .i64 x.b.val] rfl rfl (World.news_of_block (heap_alloc_new W4 _)) seven_one (by omega) (by unfold maxLen; omega) (by omega) HD.out.grown.size _ rfl ?_; intro g2 cap2 w5 hown hgrow _ _; have H5 := Lib.hid (HD.out.more hgrow hown); clear hown hgrow))
        go_roundg (gk - 1)
        case measure => omega
        case rel =>
          refine ⟨out ++ [x], s2, n2, ?_, ?_, by omega, by omega, by rw [List.length_append]; simp; omega⟩
          · rw [condCells_snoc, List.length_append]; exact H5.out
          · rw [← HLP.out, listLoop_more HM.out HX.out]
  case rest =>
    obtain ⟨hq, hos⟩ := hcut
    have HQ := Lib.hid hq
    obtain ⟨pa, pc, hshape⟩ : ∃ ao cap, u9 = .slice ao L.length cap := by
      obtain ⟨ao, cap, e, _⟩ := row_slice (l := L) hq.row
      exact ⟨ao, cap, e⟩
    subst hshape
    clear hq H1
    by_cases h6 : 6 < L.length
    · have HS : Hid (s1 = failP) := by show _ = _; rw [← HE.out, if_pos h6]
      have h6i : (6 : Int) < (L.length : Int) := by omega
      go_wp2_with fail
      refine (fail_ HQ.out.p).mono ?_
      rintro e W3 ⟨rfl, h3, g3⟩
      have H3 := Lib.hid (HQ.out.call h3 g3)
      clear h3 g3
      go_wp2_with fail
      refine bodyPost_ret (v := .slice pa L.length pc) ?_ rfl ⟨_, rfl, H3.out.row, by rw [HS.out]; exact H3.out.p, H3.out.grown⟩
      simp [results, Tryz.results99, go_sem]
    · have HS : Hid (s1 = a2) := by show _ = _; rw [← HE.out, if_neg h6]
      have h6i : ¬ (6 : Int) < (L.length : Int) := by omega
      go_wp2_with fail
      refine bodyPost_ret (v := .slice pa L.length pc) ?_ rfl ⟨_, rfl, HQ.out.row, by rw [HS.out]; exact HQ.out.p, HQ.out.grown⟩
      simp [results, Tryz.results99, go_sem]

end Go.Proofs.YtobgbmfpicmpcaaGreatDoor

/- The program's parser: the spots of a match. -/
namespace Go.Proofs.YtobgbmfpicmpcaaGreatDoor
open Go.RowKit

theorem stepP_len (st : RS) : (stepP st).2.rest.length ≤ st.rest.length := by
  unfold stepP starP
  have h1 := Pure.titleP_len st
  simp only
  split
  · have h2 := Pure.acceptP_len mStar (titleP st).2
    have h3 := Pure.numberP_len 0 4 (acceptP mStar (titleP st).2)
    have h4 := Pure.expectP_len mDots (numberP 0 4 (acceptP mStar (titleP st).2)).2
    have h5 := Pure.numberP_len (numberP 0 4 (acceptP mStar (titleP st).2)).1 4 (expectP mDots (numberP 0 4 (acceptP mStar (titleP st).2)).2)
    have h6 := Pure.expectP_len mArrow (numberP (numberP 0 4 (acceptP mStar (titleP st).2)).1 4 (expectP mDots (numberP 0 4 (acceptP mStar (titleP st).2)).2)).2
    simp only; omega
  · have h6 := Pure.expectP_len mArrow (titleP st).2
    simp only; omega
theorem spotsLoop_comma {n : Nat} {out : List PSpot} {st s2 : RS} {x : PSpot} (h : peekP mComma st = true) (hx : spotP spot0 (acceptP mComma st) = (x, s2)) : spotsLoop (n + 1) out st = spotsLoop n (out ++ [x]) s2 := by
  simp only [spotsLoop, h, if_true, hx]
theorem spotsLoop_to {n : Nat} {out : List PSpot} {st s2 s3 : RS} {x y : PSpot} (h : peekP mComma st = false) (h2 : peekP mTo st = true) (hy : stepP (acceptP mTo st) = (y, s3)) (hx : spotP y s3 = (x, s2)) : spotsLoop (n + 1) out st = spotsLoop n (out ++ [x]) s2 := by
  simp only [spotsLoop, h, h2, if_true, Bool.false_eq_true, if_false, hopP, hy, hx]
theorem spotsLoop_end {n : Nat} {out : List PSpot} {st : RS} (h : peekP mComma st = false) (h2 : peekP mTo st = false) : spotsLoop n out st = (out, st) := by
  cases n with
  | zero => rfl
  | succ n => simp only [spotsLoop, h, h2]; rfl

set_option maxRecDepth 100000 in
set_option maxHeartbeats 4000000 in
theorem spots_ {b G : Nat} {st s1 : RS} {l : List PSpot} {W : World} (h : PI b G st W) (hl : st.rest.length ≤ 2000) (hn : spotsP st = (l, s1)) :
    Calls Tryz.prog 98 #[.pointer (some ⟨b, 0, none⟩)] W fun e W' => ∃ v, e = .returned v ∧ W'.ownsRow W.heap.size 85 5 v l.length (spotCells l) ∧ PI b G s1 W' ∧ W.grownBy W' (some b) := by
  obtain ⟨i1, hj, hy0, hy1, hy2⟩ := info_parts Tryz.infoSpot
  obtain ⟨x0, a1, ha⟩ : ∃ x0 az, spotP spot0 st = (x0, az) := ⟨_, _, rfl⟩
  obtain ⟨L, a2, hL⟩ : ∃ L az, spotsLoop a1.rest.length [x0] a1 = (L, az) := ⟨_, _, rfl⟩
  have e : (L, if 6 < L.length then failP else a2) = (l, s1) := by rw [← hn]; unfold spotsP; simp only [ha, hL]
  injection e with e1 e2
  subst e1
  have hl1 := Pure.spotP_len spot0 st
  rw [ha] at hl1
  have HA := Lib.hid ha
  have HL := Lib.hid hL
  have HE := Lib.hid e2
  have HH := Lib.hid h
  have hgw := h.far.2
  have hbw : b < W.heap.size := by obtain ⟨_, _, hb, _⟩ := h.box; exact hb.lt
  clear h hn ha hL e2
  go_enter Tryz.func98, Tryz.ntmps98
  go_wp2_with fail
  refine (spot_ (q := spot0) HH.out HA.out).mono ?_
  rintro e W1 ⟨rfl, h1, g1⟩
  have hsz := g1.size
  have H1 : Hid (PL W b G a1 85 5 (.slice (some ⟨W1.heap.size, 0, none⟩) 1 1) 1 (spotCells [x0]) (W1.alloc (.cells #[.string x0.name, .string x0.label, .string x0.type, .int .i64 x0.least, .int .i64 x0.most] 85))) :=
    ⟨h1.quiet (grown_alloc W1 _ none), World.ownsRow_lit (size := 5) W1 #[.string x0.name, .string x0.label, .string x0.type, .int .i64 x0.least, .int .i64 x0.most] 1 hsz (by unfold maxLen; omega) rfl, grown_trans g1 (grown_alloc W1 _ _), hgw, hbw⟩
  clear h1 g1 HH
  go_upto_block 0 with fail
  obtain ⟨V, hV⟩ : ∃ V, V = Value.slice (some ⟨W1.heap.size, 0, none⟩) 1 1 := ⟨_, rfl⟩
  rw [← hV] at H1 ⊢
  clear hV
  generalize W1.alloc (.cells #[.string x0.name, .string x0.label, .string x0.type, .int .i64 x0.least, .int .i64 x0.most] 85) = W2 at H1 ⊢
  clear hsz
  go_wp2_with fail
  go_loopg [3] (a1.rest.length + 1) (fun m v w => ∃ out s' n, PL W b G s' 85 5 v out.length (spotCells out) w ∧ spotsLoop n out s' = (L, a2) ∧ s'.rest.length ≤ n ∧ s'.rest.length + 1 ≤ m ∧ out.length + s'.rest.length ≤ 2001)
  case atStart => exact ⟨[x0], a1, a1.rest.length, H1.out, HL.out, Nat.le_refl _, by omega, by simp; omega⟩
  case round =>
    obtain ⟨out, s', n, hq, hlp, hsn, hsm, hos⟩ := hrel
    have HQ := Lib.hid hq
    have HLP := Lib.hid hlp
    clear hq hlp H1 HL
    cases hm : peekP mComma s' with
    | true =>
      have HM := Lib.hid hm
      have hless := acceptP_less hm
      obtain ⟨x, s2, hx⟩ : ∃ x az, spotP spot0 (acceptP mComma s') = (x, az) := ⟨_, _, rfl⟩
      have hxl := Pure.spotP_len spot0 (acceptP mComma s')
      rw [hx] at hxl
      have HX := Lib.hid hx
      obtain ⟨n2, hn2⟩ : ∃ n2, n = n2 + 1 := ⟨n - 1, by omega⟩
      subst hn2
      clear hm hx
      go_wp2_with fail
      refine (accept_ HQ.out.p mComma true HM.out).mono ?_
      rintro e W3 ⟨rfl, h3, g3⟩
      have H3 := Lib.hid (HQ.out.call h3 g3)
      clear h3 g3 HQ
      go_wp2_with fail
      refine (spot_ (q := spot0) H3.out.p HX.out).mono ?_
      rintro e W5 ⟨rfl, h5, g5⟩
      have H5 := Lib.hid (H3.out.call h5 g5)
      clear h5 g5 H3
      have HD := Lib.hid (H5.out.quiet (grown_alloc W5 (.cells #[.string x.name, .string x.label, .string x.type, .int .i64 x.least, .int .i64 x.most] 85) none))
      obtain ⟨pa, pc, hshape⟩ : ∃ ao cap, u3 = .slice ao out.length cap := by
        obtain ⟨ao, cap, e, _⟩ := row_slice (l := out) HD.out.row
        exact ⟨ao, cap, e⟩
      subst hshape
      clear H5
      go_wp2_with (at_builtin; go_must (refine wpList_append_lies _ rfl _ _ 22 rfl W.heap.size 85 i1 (.agg #[.string ⟨#[]⟩, .string ⟨#[]⟩, .string ⟨#[]⟩, .int .i64 0, .int .i64 0]) 5 64 Tryz.underlying22 hj hy0 hy1 hy2 rfl (by decide) (.slice pa out.length pc) _ _ rfl HD.out.row _ 1 1 [.string x.name, .string x.label, .string x.type, .int .i64 x.least, .int .i64 x.most] rfl rfl (World.news_of_block (heap_alloc_new W5 _)) five_one (by omega) (by unfold maxLen; omega) (by omega) HD.out.grown.size _ rfl ?_; intro g2 cap2 w5 hown hgrow _ _; have H6 := Lib.hid (HD.out.more hgrow hown); clear hown hgrow))
      go_roundg (gk - 1)
      case measure => omega
      case rel =>
        refine ⟨out ++ [x], s2, n2, ?_, ?_, by omega, by omega, by rw [List.length_append]; simp; omega⟩
        · rw [spotCells_append, List.length_append]; exact H6.out
        · rw [← HLP.out]; rw [spotsLoop_comma HM.out HX.out]
    | false =>
      have HM := Lib.hid hm
      clear hm
      cases hto : peekP mTo s' with
      | true =>
        have HTO := Lib.hid hto
        have hless := acceptP_less hto
        obtain ⟨y, s3, hy⟩ : ∃ x az, stepP (acceptP mTo s') = (x, az) := ⟨_, _, rfl⟩
        have hyl := stepP_len (acceptP mTo s')
        rw [hy] at hyl
        obtain ⟨x, s2, hx⟩ : ∃ x az, spotP y s3 = (x, az) := ⟨_, _, rfl⟩
        have hxl := Pure.spotP_len y s3
        rw [hx] at hxl
        have HX := Lib.hid hx
        have HY := Lib.hid hy
        obtain ⟨n2, hn2⟩ : ∃ n2, n = n2 + 1 := ⟨n - 1, by omega⟩
        subst hn2
        clear hto hx hy
        go_wp2_with fail
        refine (accept_ HQ.out.p mComma false HM.out).mono ?_
        rintro e W3 ⟨rfl, h3, g3⟩
        rw [show acceptP mComma s' = s' by unfold acceptP; rw [HM.out]; rfl] at h3
        have H3 := Lib.hid (HQ.out.call h3 g3)
        clear h3 g3 HQ
        go_wp2_with fail
        refine (accept_ H3.out.p mTo true HTO.out).mono ?_
        rintro e W4 ⟨rfl, h4, g4⟩
        have H4 := Lib.hid (H3.out.call h4 g4)
        clear h4 g4 H3
        go_wp2_with fail
        refine (step_ H4.out.p HY.out).mono ?_
        rintro e W6 ⟨rfl, h6, g6⟩
        have H6 := Lib.hid (H4.out.call h6 g6)
        clear h6 g6 H4
        go_wp2_with fail
        refine (spot_ (q := y) H6.out.p HX.out).mono ?_
        rintro e W5 ⟨rfl, h5, g5⟩
        have H5 := Lib.hid (H6.out.call h5 g5)
        clear h5 g5 H6
        have HD := Lib.hid (H5.out.quiet (grown_alloc W5 (.cells #[.string x.name, .string x.label, .string x.type, .int .i64 x.least, .int .i64 x.most] 85) none))
        obtain ⟨pa, pc, hshape⟩ : ∃ ao cap, u3 = .slice ao out.length cap := by
          obtain ⟨ao, cap, e, _⟩ := row_slice (l := out) HD.out.row
          exact ⟨ao, cap, e⟩
        subst hshape
        clear H5
        go_wp2_with (at_builtin; go_must (refine wpList_append_lies _ rfl _ _ 22 rfl W.heap.size 85 i1 (.agg #[.string ⟨#[]⟩, .string ⟨#[]⟩, .string ⟨#[]⟩, .int .i64 0, .int .i64 0]) 5 64 Tryz.underlying22 hj hy0 hy1 hy2 rfl (by decide) (.slice pa out.length pc) _ _ rfl HD.out.row _ 1 1 [.string x.name, .string x.label, .string x.type, .int .i64 x.least, .int .i64 x.most] rfl rfl (World.news_of_block (heap_alloc_new W5 _)) five_one (by omega) (by unfold maxLen; omega) (by omega) HD.out.grown.size _ rfl ?_; intro g2 cap2 w5 hown hgrow _ _; have H6 := Lib.hid (HD.out.more hgrow hown); clear hown hgrow))
        go_roundg (gk - 1)
        case measure => omega
        case rel =>
          refine ⟨out ++ [x], s2, n2, ?_, ?_, by omega, by omega, by rw [List.length_append]; simp; omega⟩
          · rw [spotCells_append, List.length_append]; exact H6.out
          · rw [← HLP.out]; rw [spotsLoop_to HM.out HTO.out HY.out HX.out]
      | false =>
        have HTO := Lib.hid hto
        clear hto
        have hend := HLP.out
        rw [spotsLoop_end HM.out HTO.out] at hend
        injection hend with e1 e2
        subst e1; subst e2
        obtain ⟨pa, pc, hshape⟩ : ∃ ao cap, u3 = .slice ao out.length cap := by
          obtain ⟨ao, cap, e, _⟩ := row_slice (l := out) HQ.out.row
          exact ⟨ao, cap, e⟩
        subst hshape
        by_cases h6 : 6 < out.length
        · have HS : Hid (s1 = failP) := by show _ = _; rw [← HE.out, if_pos h6]
          have h6i : (6 : Int) < (out.length : Int) := by omega
          go_wp2_with fail
          refine (accept_ HQ.out.p mComma false HM.out).mono ?_
          rintro e W3 ⟨rfl, h3, g3⟩
          rw [show acceptP mComma s' = s' by unfold acceptP; rw [HM.out]; rfl] at h3
          have H3 := Lib.hid (HQ.out.call h3 g3)
          clear h3 g3 HQ
          go_wp2_with fail
          refine (accept_ H3.out.p mTo false HTO.out).mono ?_
          rintro e W4 ⟨rfl, h4, g4⟩
          have H4 := Lib.hid (H3.out.call h4 g4)
          clear h4 g4 H3
          go_wp2_with fail
          refine (fail_ H4.out.p).mono ?_
          rintro e W5 ⟨rfl, h5, g5⟩
          have H5 := Lib.hid (H4.out.call h5 g5)
          clear h5 g5 H4
          go_wp2_with fail
          refine bodyPost_ret (v := .slice pa out.length pc) ?_ rfl ⟨_, rfl, H5.out.row, by rw [HS.out]; exact H5.out.p, H5.out.grown⟩
          simp [results, Tryz.results98, go_sem]
        · have HS : Hid (s1 = s') := by show _ = _; rw [← HE.out, if_neg h6]
          have h6i : ¬ (6 : Int) < (out.length : Int) := by omega
          go_wp2_with fail
          refine (accept_ HQ.out.p mComma false HM.out).mono ?_
          rintro e W3 ⟨rfl, h3, g3⟩
          rw [show acceptP mComma s' = s' by unfold acceptP; rw [HM.out]; rfl] at h3
          have H3 := Lib.hid (HQ.out.call h3 g3)
          clear h3 g3 HQ
          go_wp2_with fail
          refine (accept_ H3.out.p mTo false HTO.out).mono ?_
          rintro e W4 ⟨rfl, h4, g4⟩
          rw [show acceptP mTo s' = s' by unfold acceptP; rw [HTO.out]; rfl] at h4
          have H4 := Lib.hid (H3.out.call h4 g4)
          clear h4 g4 H3
          go_wp2_with fail
          refine bodyPost_ret (v := .slice pa out.length pc) ?_ rfl ⟨_, rfl, H4.out.row, by rw [HS.out]; exact H4.out.p, H4.out.grown⟩
          simp [results, Tryz.results98, go_sem]

end Go.Proofs.YtobgbmfpicmpcaaGreatDoor

/- The program's parser beside the query that it fills; a link. -/
namespace Go.Proofs.YtobgbmfpicmpcaaGreatDoor
open Go.RowKit

structure PQ (W0 : World) (b G : Nat) (st : RS) (x : Nat) (q : PQuery) (vs vc vi vp : Value) (w : World) : Prop where
  p : PI b G st w
  lx : Loc w x (qC q vs vc vi vp) 29
  nx : W0.heap.size ≤ x
  grown : W0.grownBy w (some b)
  rows : QRows W0.heap.size q vs vc vi vp w
  gw : G < W0.heap.size
  bw : b < W0.heap.size
section
variable {W0 w w' : World} {b G x : Nat} {st st' : RS} {q q' : PQuery} {vs vc vi vp : Value}
theorem PQ.xb (h : PQ W0 b G st x q vs vc vi vp w) : x ≠ b := by have := h.nx; have := h.bw; omega
theorem PQ.xg (h : PQ W0 b G st x q vs vc vi vp w) : x ≠ G := by have := h.nx; have := h.gw; omega
theorem rows_far {B b : Nat} (h : QRows B q vs vc vi vp w) (hb : b < B) (g : w.grownBy w' (some b)) : QRows B q vs vc vi vp w' :=
  ⟨h.rs.kept g (Or.inr fun e => by have := (h.rs.lt b e).1; omega), h.rc.kept g (Or.inr fun e => by have := (h.rc.lt b e).1; omega), h.rt.kept g (Or.inr fun e => by have := (h.rt.lt b e).1; omega), h.rp.kept g (Or.inr fun e => by have := (h.rp.lt b e).1; omega)⟩
theorem rows_loc {B y : Nat} {cs : Array Value} (h : QRows B q vs vc vi vp w) (hl : Loc w y cs 29) (g : w.grownBy w' (some y)) : QRows B q vs vc vi vp w' :=
  ⟨h.rs.kept g (Or.inr (row_loc h.rs hl (by decide))), h.rc.kept g (Or.inr (row_loc h.rc hl (by decide))), h.rt.kept g (Or.inr (row_loc h.rt hl (by decide))), h.rp.kept g (Or.inr (row_loc h.rp hl (by decide)))⟩
theorem PQ.call (h : PQ W0 b G st x q vs vc vi vp w) (h1 : PI b G st' w') (g1 : w.grownBy w' (some b)) : PQ W0 b G st' x q vs vc vi vp w' :=
  ⟨h1, h.lx.grown g1 (by intro e; injection e with e; exact h.xb e), h.nx, grown_trans h.grown g1, rows_far h.rows h.bw g1, h.gw, h.bw⟩
/-- A field of the query that is no list is stored. -/
theorem PQ.set (h : PQ W0 b G st x q vs vc vi vp w) (j : Nat) (u : Value) (e : (qC q vs vc vi vp).setIfInBounds j u = qC q' vs vc vi vp) (e1 : q'.spots = q.spots) (e2 : q'.conds = q.conds) (e3 : q'.items = q.items) (e4 : q'.pairs = q.pairs) : PQ W0 b G st x q' vs vc vi vp (w.setCell ⟨x, j, none⟩ u) := by
  have g := grown_set w x j u
  have hr := rows_loc h.rows h.lx g
  refine ⟨h.p.kept g (by intro e; injection e with e; exact h.xb e.symm) (by intro e; injection e with e; exact h.xg e.symm), ?_, h.nx, grown_own h.grown h.nx j u, ?_, h.gw, h.bw⟩
  · rw [← e]; exact h.lx.set j u
  · exact ⟨by rw [e1]; exact hr.rs, by rw [e2]; exact hr.rc, by rw [e3]; exact hr.rt, by rw [e4]; exact hr.rp⟩
end

set_option maxRecDepth 100000 in
set_option maxHeartbeats 4000000 in
theorem link_ {W0 W : World} {b G x : Nat} {st : RS} {q : PQuery} {vs vc vi vp : Value} (h : PQ W0 b G st x q vs vc vi vp W) :
    Calls Tryz.prog 167 #[.pointer (some ⟨b, 0, none⟩), .pointer (some ⟨x, 0, none⟩)] W fun e W' => e = .returned (.tuple #[]) ∧ PQ W0 b G (linkP st).2 x { q with name := (linkP st).1.1, type := (linkP st).1.2.1, «to» := (linkP st).1.2.2 } vs vc vi vp W' := by
  have HI := Lib.hid h
  clear h
  go_enter Tryz.func167, Tryz.ntmps167
  obtain ⟨qs1, hqs1⟩ : ∃ sz, expectP mOpen st = sz := ⟨_, rfl⟩
  have Eqs1 := Lib.hid hqs1
  go_wp2_with fail
  refine (expect_ HI.out.p mOpen).mono ?_
  rintro e Q1 ⟨rfl, h, g⟩
  rw [hqs1] at h
  have Hqs1 : Hid (PQ W0 b G qs1 x q vs vc vi vp Q1) := HI.out.call h g
  clear h g hqs1 HI
  obtain ⟨vqs2, qs2, hqs2⟩ : ∃ n sz, nameP qs1 = (n, sz) := ⟨_, _, rfl⟩
  have Eqs2 := Lib.hid hqs2
  clear hqs2
  go_wp2_with fail
  refine (name_ Hqs1.out.p Eqs2.out).mono ?_
  rintro e Q2 ⟨rfl, h, g⟩
  have Ha := Hqs1.out.call h g
  have cc : Q2.cell? ⟨x, 8, none⟩ = some (.string q.name) := (Ha.lx.cell 8).trans rfl
  have cf : Q2.frozen? ⟨x, 8, none⟩ = false := Ha.lx.free 8
  have Hqs2 : Hid (PQ W0 b G qs2 x { q with name := vqs2 } vs vc vi vp (Q2.setCell ⟨x, 8, none⟩ (.string vqs2))) := Ha.set 8 (.string vqs2) rfl rfl rfl rfl rfl
  clear h g Ha Hqs1
  obtain ⟨qs3, hqs3⟩ : ∃ sz, expectP mClose qs2 = sz := ⟨_, rfl⟩
  have Eqs3 := Lib.hid hqs3
  go_wp2_with fail
  generalize Q2.setCell ⟨x, 8, none⟩ (.string vqs2) = Q2x at Hqs2 ⊢; clear cc cf
  refine (expect_ Hqs2.out.p mClose).mono ?_
  rintro e Q3 ⟨rfl, h, g⟩
  rw [hqs3] at h
  have Hqs3 : Hid (PQ W0 b G qs3 x { q with name := vqs2 } vs vc vi vp Q3) := Hqs2.out.call h g
  clear h g hqs3 Hqs2
  obtain ⟨qs4, hqs4⟩ : ∃ sz, expectP mTo qs3 = sz := ⟨_, rfl⟩
  have Eqs4 := Lib.hid hqs4
  go_wp2_with fail
  refine (expect_ Hqs3.out.p mTo).mono ?_
  rintro e Q4 ⟨rfl, h, g⟩
  rw [hqs4] at h
  have Hqs4 : Hid (PQ W0 b G qs4 x { q with name := vqs2 } vs vc vi vp Q4) := Hqs3.out.call h g
  clear h g hqs4 Hqs3
  obtain ⟨vqs5, qs5, hqs5⟩ : ∃ n sz, titleP qs4 = (n, sz) := ⟨_, _, rfl⟩
  have Eqs5 := Lib.hid hqs5
  clear hqs5
  go_wp2_with fail
  refine (title_ Hqs4.out.p Eqs5.out).mono ?_
  rintro e Q5 ⟨rfl, h, g⟩
  have Ha := Hqs4.out.call h g
  have cc : Q5.cell? ⟨x, 13, none⟩ = some (.string q.type) := (Ha.lx.cell 13).trans rfl
  have cf : Q5.frozen? ⟨x, 13, none⟩ = false := Ha.lx.free 13
  have Hqs5 : Hid (PQ W0 b G qs5 x { q with name := vqs2, type := vqs5 } vs vc vi vp (Q5.setCell ⟨x, 13, none⟩ (.string vqs5))) := Ha.set 13 (.string vqs5) rfl rfl rfl rfl rfl
  clear h g Ha Hqs4
  obtain ⟨qs6, hqs6⟩ : ∃ sz, expectP mArrow qs5 = sz := ⟨_, rfl⟩
  have Eqs6 := Lib.hid hqs6
  go_wp2_with fail
  generalize Q5.setCell ⟨x, 13, none⟩ (.string vqs5) = Q5x at Hqs5 ⊢; clear cc cf
  refine (expect_ Hqs5.out.p mArrow).mono ?_
  rintro e Q6 ⟨rfl, h, g⟩
  rw [hqs6] at h
  have Hqs6 : Hid (PQ W0 b G qs6 x { q with name := vqs2, type := vqs5 } vs vc vi vp Q6) := Hqs5.out.call h g
  clear h g hqs6 Hqs5
  obtain ⟨qs7, hqs7⟩ : ∃ sz, expectP mOpen qs6 = sz := ⟨_, rfl⟩
  have Eqs7 := Lib.hid hqs7
  go_wp2_with fail
  refine (expect_ Hqs6.out.p mOpen).mono ?_
  rintro e Q7 ⟨rfl, h, g⟩
  rw [hqs7] at h
  have Hqs7 : Hid (PQ W0 b G qs7 x { q with name := vqs2, type := vqs5 } vs vc vi vp Q7) := Hqs6.out.call h g
  clear h g hqs7 Hqs6
  obtain ⟨vqs8, qs8, hqs8⟩ : ∃ n sz, nameP qs7 = (n, sz) := ⟨_, _, rfl⟩
  have Eqs8 := Lib.hid hqs8
  clear hqs8
  go_wp2_with fail
  refine (name_ Hqs7.out.p Eqs8.out).mono ?_
  rintro e Q8 ⟨rfl, h, g⟩
  have Ha := Hqs7.out.call h g
  have cc : Q8.cell? ⟨x, 14, none⟩ = some (.string q.«to») := (Ha.lx.cell 14).trans rfl
  have cf : Q8.frozen? ⟨x, 14, none⟩ = false := Ha.lx.free 14
  have Hqs8 : Hid (PQ W0 b G qs8 x { q with name := vqs2, type := vqs5, «to» := vqs8 } vs vc vi vp (Q8.setCell ⟨x, 14, none⟩ (.string vqs8))) := Ha.set 14 (.string vqs8) rfl rfl rfl rfl rfl
  clear h g Ha Hqs7
  obtain ⟨qs9, hqs9⟩ : ∃ sz, expectP mClose qs8 = sz := ⟨_, rfl⟩
  have Eqs9 := Lib.hid hqs9
  go_wp2_with fail
  generalize Q8.setCell ⟨x, 14, none⟩ (.string vqs8) = Q8x at Hqs8 ⊢; clear cc cf
  refine (expect_ Hqs8.out.p mClose).mono ?_
  rintro e Q9 ⟨rfl, h, g⟩
  rw [hqs9] at h
  have Hqs9 : Hid (PQ W0 b G qs9 x { q with name := vqs2, type := vqs5, «to» := vqs8 } vs vc vi vp Q9) := Hqs8.out.call h g
  clear h g hqs9 Hqs8
  go_wp2_with fail
  go_end0
  refine ⟨rfl, ?_⟩
  have e : linkP st = ((vqs2, vqs5, vqs8), qs9) := by
    unfold linkP
    simp only [Eqs1.out, Eqs2.out, Eqs3.out, Eqs4.out, Eqs5.out, Eqs6.out, Eqs7.out, Eqs8.out, Eqs9.out]
  rw [e]
  exact Hqs9.out

end Go.Proofs.YtobgbmfpicmpcaaGreatDoor

/- The program's parser: what stands behind RETURN. -/
namespace Go.Proofs.YtobgbmfpicmpcaaGreatDoor
open Go.RowKit

section
variable {W0 w w' : World} {b G x : Nat} {st st' : RS} {q : PQuery} {vs vc vi vp : Value}
theorem PQ.items {v : Value} {l : List PItem} (h : PQ W0 b G st x q vs vc vi vp w) (h1 : PI b G st' w') (g1 : w.grownBy w' (some b)) (ho : w'.ownsRow w.heap.size 89 2 v l.length (itemCells l)) : PQ W0 b G st' x { q with items := l } vs vc v vp (w'.setCell ⟨x, 3, none⟩ v) := by
  have h2 := h.call h1 g1
  have hr : QRows W0.heap.size { q with items := l } vs vc v vp w' := ⟨h2.rows.rs, h2.rows.rc, row_weaken ho h.grown.size, h2.rows.rp⟩
  have g := grown_set w' x 3 v
  exact ⟨h2.p.kept g (by intro e; injection e with e; exact h.xb e.symm) (by intro e; injection e with e; exact h.xg e.symm), h2.lx.set 3 v, h.nx, grown_own h2.grown h.nx 3 v, rows_loc hr h2.lx g, h.gw, h.bw⟩
theorem PQ.conds {v : Value} {l : List PCond} (h : PQ W0 b G st x q vs vc vi vp w) (h1 : PI b G st' w') (g1 : w.grownBy w' (some b)) (ho : w'.ownsRow w.heap.size 87 7 v l.length (condCells l)) : PQ W0 b G st' x { q with conds := l } vs v vi vp (w'.setCell ⟨x, 2, none⟩ v) := by
  have h2 := h.call h1 g1
  have hr : QRows W0.heap.size { q with conds := l } vs v vi vp w' := ⟨h2.rows.rs, row_weaken ho h.grown.size, h2.rows.rt, h2.rows.rp⟩
  have g := grown_set w' x 2 v
  exact ⟨h2.p.kept g (by intro e; injection e with e; exact h.xb e.symm) (by intro e; injection e with e; exact h.xg e.symm), h2.lx.set 2 v, h.nx, grown_own h2.grown h.nx 2 v, rows_loc hr h2.lx g, h.gw, h.bw⟩
theorem PQ.pairs {v : Value} {l : List PPair} (h : PQ W0 b G st x q vs vc vi vp w) (h1 : PI b G st' w') (g1 : w.grownBy w' (some b)) (ho : w'.ownsRow w.heap.size 91 2 v l.length (pairCells l)) : PQ W0 b G st' x { q with pairs := l } vs vc vi v (w'.setCell ⟨x, 16, none⟩ v) := by
  have h2 := h.call h1 g1
  have hr : QRows W0.heap.size { q with pairs := l } vs vc vi v w' := ⟨h2.rows.rs, h2.rows.rc, h2.rows.rt, row_weaken ho h.grown.size⟩
  have g := grown_set w' x 16 v
  exact ⟨h2.p.kept g (by intro e; injection e with e; exact h.xb e.symm) (by intro e; injection e with e; exact h.xg e.symm), h2.lx.set 16 v, h.nx, grown_own h2.grown h.nx 16 v, rows_loc hr h2.lx g, h.gw, h.bw⟩
end

set_option maxRecDepth 100000 in
set_option maxHeartbeats 4000000 in
theorem read_ {W0 W : World} {b G x : Nat} {st : RS} {sp : List PSpot} {cd : List PCond} {vs vc : Value} (h : PQ W0 b G st x { query0 with kind := 1, spots := sp, conds := cd } vs vc (.slice none 0 0) (.slice none 0 0) W) (hl : st.rest.length ≤ 2000) :
    Calls Tryz.prog 165 #[.pointer (some ⟨b, 0, none⟩), .pointer (some ⟨x, 0, none⟩)] W fun e W' => e = .returned (.tuple #[]) ∧ ∃ vi, PQ W0 b G (readP st).2 x { query0 with kind := 1, spots := sp, conds := cd, items := (readP st).1.items, order := (readP st).1.order, down := (readP st).1.down, skip := (readP st).1.skip, limit := (readP st).1.limit } vs vc vi (.slice none 0 0) W' := by
  have HI := Lib.hid h
  obtain ⟨it, s1, hit⟩ : ∃ l az, listP itemP mComma 6 st = (l, az) := ⟨_, _, rfl⟩
  have HIT := Lib.hid hit
  clear h hit
  go_enter Tryz.func165, Tryz.ntmps165
  go_wp2_with fail
  refine (listItem HI.out.p hl HIT.out).mono ?_
  rintro e W1 ⟨v0, rfl, ho, h1, g1⟩
  obtain ⟨ao, ca, rfl, hca⟩ := row_slice (l := it) ho
  have Ha := HI.out.call h1 g1
  have c3 : W1.cell? ⟨x, 3, none⟩ = some (.slice none 0 0) := (Ha.lx.cell 3).trans rfl
  have f3 : W1.frozen? ⟨x, 3, none⟩ = false := Ha.lx.free 3
  have H1 := Lib.hid (HI.out.items h1 g1 ho)
  clear Ha ho h1 g1 HI
  go_wp2_with fail
  generalize W1.setCell ⟨x, 3, none⟩ (.slice ao it.length ca) = W2 at H1 ⊢
  clear c3 f3
  obtain ⟨m1, hm1⟩ : ∃ m, peekP kORDER s1 = m := ⟨_, rfl⟩
  have HM1 := Lib.hid hm1
  clear hm1
  refine (accept_ H1.out.p kORDER m1 HM1.out).mono ?_
  rintro e W3 ⟨rfl, h3, g3⟩
  have H3 : Hid (PQ W0 b G (acceptP kORDER s1) x { query0 with kind := 1, spots := sp, conds := cd, items := it } vs vc (.slice ao it.length ca) (.slice none 0 0) W3) := H1.out.call h3 g3
  clear h3 g3 H1
  go_upto_if 12 with fail
  go_cut [] (fun w => ∃ s2 o d, PQ W0 b G s2 x { query0 with kind := 1, spots := sp, conds := cd, items := it, order := o, down := d } vs vc (.slice ao it.length ca) (.slice none 0 0) w ∧ orderP it.length s1 = ((o, d), s2))
  case first =>
    cases m1 with
    | false =>
      go_wp2_with fail
      go_meet
      case rel => exact ⟨s1, 0, false, by have h := H3.out; rw [show acceptP kORDER s1 = s1 by unfold acceptP; rw [HM1.out]; rfl] at h; exact h, by unfold orderP; rw [HM1.out]; rfl⟩
    | true =>
      obtain ⟨o, a3, ho⟩ : ∃ o az, numberP 1 it.length (expectP kBY (acceptP kORDER s1)) = (o, az) := ⟨_, _, rfl⟩
      have HO := Lib.hid ho
      clear ho
      go_wp2_with fail
      refine (expect_ H3.out.p kBY).mono ?_
      rintro e W4 ⟨rfl, h4, g4⟩
      have H4 := Lib.hid (H3.out.call h4 g4)
      clear h4 g4 H3
      have c3 : W4.cell? ⟨x, 3, none⟩ = some (.slice ao it.length ca) := (H4.out.lx.cell 3).trans rfl
      go_wp2_with fail
      refine (number_ H4.out.p HO.out).mono ?_
      rintro e W5 ⟨rfl, h5, g5⟩
      have Ha := H4.out.call h5 g5
      have c4 : W5.cell? ⟨x, 4, none⟩ = some (.int .i64 0) := (Ha.lx.cell 4).trans rfl
      have f4 : W5.frozen? ⟨x, 4, none⟩ = false := Ha.lx.free 4
      have H5 : Hid (PQ W0 b G a3 x { query0 with kind := 1, spots := sp, conds := cd, items := it, order := o } vs vc (.slice ao it.length ca) (.slice none 0 0) (W5.setCell ⟨x, 4, none⟩ (.int .i64 o))) := Ha.set 4 (.int .i64 o) rfl rfl rfl rfl rfl
      clear Ha h5 g5 H4 c3
      obtain ⟨d, hd⟩ : ∃ m, peekP kDESC a3 = m := ⟨_, rfl⟩
      have HD := Lib.hid hd
      clear hd
      go_wp2_with fail
      generalize W5.setCell ⟨x, 4, none⟩ (.int .i64 o) = W6 at H5 ⊢
      clear c4 f4
      refine (accept_ H5.out.p kDESC d HD.out).mono ?_
      rintro e W7 ⟨rfl, h7, g7⟩
      have Ha := H5.out.call h7 g7
      have c5 : W7.cell? ⟨x, 5, none⟩ = some (.bool false) := (Ha.lx.cell 5).trans rfl
      have f5 : W7.frozen? ⟨x, 5, none⟩ = false := Ha.lx.free 5
      have H7 : Hid (PQ W0 b G (acceptP kDESC a3) x { query0 with kind := 1, spots := sp, conds := cd, items := it, order := o, down := d } vs vc (.slice ao it.length ca) (.slice none 0 0) (W7.setCell ⟨x, 5, none⟩ (.bool d))) := Ha.set 5 (.bool d) rfl rfl rfl rfl rfl
      clear Ha h7 g7 H5
      go_wp2_with fail
      go_meet
      case rel => exact ⟨_, o, d, H7.out, by unfold orderP; rw [HM1.out]; simp only [HO.out, HD.out]; rfl⟩
  case rest =>
    clear H3
    obtain ⟨s2, o, d, hq, hor⟩ := hcut
    have H4 := Lib.hid hq
    have HOR := Lib.hid hor
    clear hq hor
    obtain ⟨m2, hm2⟩ : ∃ m, peekP kSKIP s2 = m := ⟨_, rfl⟩
    have HM2 := Lib.hid hm2
    clear hm2
    go_wp2_with fail
    refine (accept_ H4.out.p kSKIP m2 HM2.out).mono ?_
    rintro e W5 ⟨rfl, h5, g5⟩
    have H5 : Hid (PQ W0 b G (acceptP kSKIP s2) x { query0 with kind := 1, spots := sp, conds := cd, items := it, order := o, down := d } vs vc (.slice ao it.length ca) (.slice none 0 0) W5) := H4.out.call h5 g5
    clear h5 g5 H4
    go_upto_if 31 with fail
    go_cut [] (fun w => ∃ s3 k, PQ W0 b G s3 x { query0 with kind := 1, spots := sp, conds := cd, items := it, order := o, down := d, skip := k } vs vc (.slice ao it.length ca) (.slice none 0 0) w ∧ partP kSKIP 0 s2 = (k, s3))
    case first =>
      cases m2 with
      | false =>
        go_wp2_with fail
        go_meet
        case rel => exact ⟨s2, 0, by have h := H5.out; rw [show acceptP kSKIP s2 = s2 by unfold acceptP; rw [HM2.out]; rfl] at h; exact h, by unfold partP; rw [HM2.out]; rfl⟩
      | true =>
        obtain ⟨k, a3, hk⟩ : ∃ o az, numberP 0 1000000000 (acceptP kSKIP s2) = (o, az) := ⟨_, _, rfl⟩
        have HK := Lib.hid hk
        clear hk
        go_wp2_with fail
        refine (number_ H5.out.p HK.out).mono ?_
        rintro e W6 ⟨rfl, h6, g6⟩
        have Ha := H5.out.call h6 g6
        have c6 : W6.cell? ⟨x, 6, none⟩ = some (.int .i64 0) := (Ha.lx.cell 6).trans rfl
        have f6 : W6.frozen? ⟨x, 6, none⟩ = false := Ha.lx.free 6
        have H6 : Hid (PQ W0 b G a3 x { query0 with kind := 1, spots := sp, conds := cd, items := it, order := o, down := d, skip := k } vs vc (.slice ao it.length ca) (.slice none 0 0) (W6.setCell ⟨x, 6, none⟩ (.int .i64 k))) := Ha.set 6 (.int .i64 k) rfl rfl rfl rfl rfl
        clear Ha h6 g6 H5
        go_wp2_with fail
        go_meet
        case rel => exact ⟨_, k, H6.out, by unfold partP; rw [HM2.out]; exact HK.out⟩
    case rest =>
      clear H5
      obtain ⟨s3, k, hq, hsk⟩ := hcut
      have HSK := Lib.hid hsk
      have c7 : wc.cell? ⟨x, 7, none⟩ = some (.int .i64 0) := (hq.lx.cell 7).trans rfl
      have f7 : wc.frozen? ⟨x, 7, none⟩ = false := hq.lx.free 7
      have H6 : Hid (PQ W0 b G s3 x { query0 with kind := 1, spots := sp, conds := cd, items := it, order := o, down := d, skip := k, limit := -1 } vs vc (.slice ao it.length ca) (.slice none 0 0) (wc.setCell ⟨x, 7, none⟩ (.int .i64 (-1)))) := hq.set 7 (.int .i64 (-1)) rfl rfl rfl rfl rfl
      clear hq hsk
      obtain ⟨m3, hm3⟩ : ∃ m, peekP kLIMIT s3 = m := ⟨_, rfl⟩
      have HM3 := Lib.hid hm3
      clear hm3
      go_wp2_with fail
      generalize wc.setCell ⟨x, 7, none⟩ (.int .i64 (-1)) = W7 at H6 ⊢
      clear c7 f7
      refine (accept_ H6.out.p kLIMIT m3 HM3.out).mono ?_
      rintro e W8 ⟨rfl, h8, g8⟩
      have H8 : Hid (PQ W0 b G (acceptP kLIMIT s3) x { query0 with kind := 1, spots := sp, conds := cd, items := it, order := o, down := d, skip := k, limit := -1 } vs vc (.slice ao it.length ca) (.slice none 0 0) W8) := H6.out.call h8 g8
      clear h8 g8 H6
      cases m3 with
      | false =>
        have HF : Hid (readP st = (⟨it, o, d, k, -1⟩, s3)) := by
          show _ = _; unfold readP partP; simp only [HIT.out, HOR.out]; have := HSK.out; unfold partP at this; rw [this]; simp only [HM3.out]; rfl
        go_wp2_with fail
        go_end0
        refine ⟨rfl, .slice ao it.length ca, ?_⟩
        rw [HF.out]
        have h := H8.out
        rw [show acceptP kLIMIT s3 = s3 by unfold acceptP; rw [HM3.out]; rfl] at h
        exact h
      | true =>
        obtain ⟨lm, a3, hk⟩ : ∃ o az, numberP 0 1000000000 (acceptP kLIMIT s3) = (o, az) := ⟨_, _, rfl⟩
        have HK := Lib.hid hk
        clear hk
        have HF : Hid (readP st = (⟨it, o, d, k, lm⟩, a3)) := by
          show _ = _; unfold readP partP; simp only [HIT.out, HOR.out]; have := HSK.out; unfold partP at this; rw [this]; simp only [HM3.out, HK.out]; rfl
        go_wp2_with fail
        refine (number_ H8.out.p HK.out).mono ?_
        rintro e W9 ⟨rfl, h9, g9⟩
        have Ha := H8.out.call h9 g9
        have c7 : W9.cell? ⟨x, 7, none⟩ = some (.int .i64 (-1)) := (Ha.lx.cell 7).trans rfl
        have f7 : W9.frozen? ⟨x, 7, none⟩ = false := Ha.lx.free 7
        have H9 : Hid (PQ W0 b G a3 x { query0 with kind := 1, spots := sp, conds := cd, items := it, order := o, down := d, skip := k, limit := lm } vs vc (.slice ao it.length ca) (.slice none 0 0) (W9.setCell ⟨x, 7, none⟩ (.int .i64 lm))) := Ha.set 7 (.int .i64 lm) rfl rfl rfl rfl rfl
        clear Ha h9 g9 H8
        go_wp2_with fail
        go_end0
        refine ⟨rfl, .slice ao it.length ca, ?_⟩
        rw [HF.out]
        exact H9.out

end Go.Proofs.YtobgbmfpicmpcaaGreatDoor

/- The program's parser: what stands behind a match. -/
namespace Go.Proofs.YtobgbmfpicmpcaaGreatDoor
open Go.RowKit

set_option maxRecDepth 100000 in
set_option maxHeartbeats 4000000 in
theorem actionRead {W0 W : World} {b G x : Nat} {st : RS} {sp : List PSpot} {cd : List PCond} {vs vc : Value} (h : PQ W0 b G st x { query0 with spots := sp, conds := cd } vs vc (.slice none 0 0) (.slice none 0 0) W)  (h0 : peekP kRETURN st = true) (hl : st.rest.length ≤ 2001) :
    Calls Tryz.prog 101 #[.pointer (some ⟨b, 0, none⟩), .pointer (some ⟨x, 0, none⟩)] W fun e W' => e = .returned (.tuple #[]) ∧ ∃ vi, PQ W0 b G (actionP { query0 with spots := sp, conds := cd } st).2 x (actionP { query0 with spots := sp, conds := cd } st).1 vs vc vi (.slice none 0 0) W' := by
  have HI := Lib.hid h
  have hl2 := acceptP_less h0
  have P0 := Lib.hid h0
  clear h h0
  go_enter Tryz.func101, Tryz.ntmps101
  go_wp2_with fail
  refine (accept_ HI.out.p kRETURN true P0.out).mono ?_
  rintro e A0 ⟨rfl, h, g⟩
  have K0 := Lib.hid (HI.out.call h g)
  clear h g HI
  have c0 : A0.cell? ⟨x, 0, none⟩ = some (.int .i64 0) := (K0.out.lx.cell 0).trans rfl
  have f0 : A0.frozen? ⟨x, 0, none⟩ = false := K0.out.lx.free 0
  have HK : Hid (PQ W0 b G (acceptP kRETURN st) x { query0 with spots := sp, conds := cd, kind := 1 } vs vc (.slice none 0 0) (.slice none 0 0) (A0.setCell ⟨x, 0, none⟩ (.int .i64 1))) := K0.out.set 0 (.int .i64 1) rfl rfl rfl rfl rfl
  clear K0
  go_wp2_with fail
  generalize A0.setCell ⟨x, 0, none⟩ (.int .i64 1) = WK at HK ⊢
  clear c0 f0
  refine (read_ HK.out (by omega)).mono ?_
  rintro e W5 ⟨rfl, vi, hq⟩
  have H5 := Lib.hid hq
  clear hq
  go_wp2_with fail
  go_end0
  refine ⟨rfl, vi, ?_⟩
  unfold actionP
  simp only [P0.out, if_true]
  exact H5.out

set_option maxRecDepth 100000 in
set_option maxHeartbeats 4000000 in
theorem actionSet {W0 W : World} {b G x : Nat} {st : RS} {sp : List PSpot} {cd : List PCond} {vs vc : Value} (h : PQ W0 b G st x { query0 with spots := sp, conds := cd } vs vc (.slice none 0 0) (.slice none 0 0) W) (h0 : peekP kRETURN st = false) (h1 : peekP kSET st = true) :
    Calls Tryz.prog 101 #[.pointer (some ⟨b, 0, none⟩), .pointer (some ⟨x, 0, none⟩)] W fun e W' => e = .returned (.tuple #[]) ∧ ∃ vi, PQ W0 b G (actionP { query0 with spots := sp, conds := cd } st).2 x (actionP { query0 with spots := sp, conds := cd } st).1 vs vc vi (.slice none 0 0) W' := by
  have HI := Lib.hid h
  have P0 := Lib.hid h0
  have P1 := Lib.hid h1
  clear h h0 h1
  go_enter Tryz.func101, Tryz.ntmps101
  go_wp2_with fail
  refine (accept_ HI.out.p kRETURN false P0.out).mono ?_
  rintro e A0 ⟨rfl, h, g⟩
  rw [show acceptP kRETURN st = st by unfold acceptP; rw [P0.out]; rfl] at h
  have K0 := Lib.hid (HI.out.call h g)
  clear h g HI
  go_wp2_with fail
  refine (accept_ K0.out.p kSET true P1.out).mono ?_
  rintro e A1 ⟨rfl, h, g⟩
  have K1 := Lib.hid (K0.out.call h g)
  clear h g K0
  obtain ⟨n', k', a2, hp⟩ : ∃ n' k' az, propP (acceptP kSET st) = ((n', k'), az) := ⟨_, _, _, rfl⟩
  obtain ⟨t', a3, ht⟩ : ∃ t' az, termP (expectP mEq a2) = (t', az) := ⟨_, _, rfl⟩
  have HP := Lib.hid hp
  have HT := Lib.hid ht
  clear hp ht
  have c0 : A1.cell? ⟨x, 0, none⟩ = some (.int .i64 0) := (K1.out.lx.cell 0).trans rfl
  have f0 : A1.frozen? ⟨x, 0, none⟩ = false := K1.out.lx.free 0
  have HK : Hid (PQ W0 b G (acceptP kSET st) x { query0 with spots := sp, conds := cd, kind := 2 } vs vc (.slice none 0 0) (.slice none 0 0) (A1.setCell ⟨x, 0, none⟩ (.int .i64 2))) := K1.out.set 0 (.int .i64 2) rfl rfl rfl rfl rfl
  clear K1
  go_wp2_with fail
  generalize A1.setCell ⟨x, 0, none⟩ (.int .i64 2) = WK at HK ⊢
  clear c0 f0
  refine (property_ HK.out.p HP.out).mono ?_
  rintro e W5 ⟨rfl, h5, g5⟩
  have Ha := HK.out.call h5 g5
  have c8 : W5.cell? ⟨x, 8, none⟩ = some (.string ⟨#[]⟩) := (Ha.lx.cell 8).trans rfl
  have f8 : W5.frozen? ⟨x, 8, none⟩ = false := Ha.lx.free 8
  have c9 : W5.cell? ⟨x, 9, none⟩ = some (.string ⟨#[]⟩) := (Ha.lx.cell 9).trans rfl
  have f9 : W5.frozen? ⟨x, 9, none⟩ = false := Ha.lx.free 9
  have H5a : PQ W0 b G a2 x { query0 with spots := sp, conds := cd, kind := 2, name := n' } vs vc (.slice none 0 0) (.slice none 0 0) (W5.setCell ⟨x, 8, none⟩ (.string n')) := Ha.set 8 (.string n') rfl rfl rfl rfl rfl
  have H5 : Hid (PQ W0 b G a2 x { query0 with spots := sp, conds := cd, kind := 2, name := n', key := k' } vs vc (.slice none 0 0) (.slice none 0 0) ((W5.setCell ⟨x, 8, none⟩ (.string n')).setCell ⟨x, 9, none⟩ (.string k'))) := H5a.set 9 (.string k') rfl rfl rfl rfl rfl
  clear Ha H5a h5 g5 HK
  go_wp2_with fail
  generalize (W5.setCell ⟨x, 8, none⟩ (.string n')).setCell ⟨x, 9, none⟩ (.string k') = W6 at H5 ⊢
  clear c8 f8 c9 f9
  refine (expect_ H5.out.p mEq).mono ?_
  rintro e W7 ⟨rfl, h7, g7⟩
  have H7 := Lib.hid (H5.out.call h7 g7)
  clear h7 g7 H5
  go_wp2_with fail
  refine (term_ H7.out.p HT.out).mono ?_
  rintro e W8 ⟨rfl, h8, g8⟩
  have Ha := H7.out.call h8 g8
  have c10 : W8.cell? ⟨x, 10, none⟩ = some (.string ⟨#[]⟩) := (Ha.lx.cell 10).trans rfl
  have f10 : W8.frozen? ⟨x, 10, none⟩ = false := Ha.lx.free 10
  have c11 : W8.cell? ⟨x, 11, none⟩ = some (.string ⟨#[]⟩) := (Ha.lx.cell 11).trans rfl
  have f11 : W8.frozen? ⟨x, 11, none⟩ = false := Ha.lx.free 11
  have c12 : W8.cell? ⟨x, 12, none⟩ = some (.int .i64 0) := (Ha.lx.cell 12).trans rfl
  have f12 : W8.frozen? ⟨x, 12, none⟩ = false := Ha.lx.free 12
  have Hb : PQ W0 b G a3 x { query0 with spots := sp, conds := cd, kind := 2, name := n', key := k', value := ⟨t'.name, ⟨#[]⟩, 0⟩ } vs vc (.slice none 0 0) (.slice none 0 0) (W8.setCell ⟨x, 10, none⟩ (.string t'.name)) := Ha.set 10 (.string t'.name) rfl rfl rfl rfl rfl
  have Hc : PQ W0 b G a3 x { query0 with spots := sp, conds := cd, kind := 2, name := n', key := k', value := ⟨t'.name, t'.key, 0⟩ } vs vc (.slice none 0 0) (.slice none 0 0) ((W8.setCell ⟨x, 10, none⟩ (.string t'.name)).setCell ⟨x, 11, none⟩ (.string t'.key)) := Hb.set 11 (.string t'.key) rfl rfl rfl rfl rfl
  have H9 : Hid (PQ W0 b G a3 x { query0 with spots := sp, conds := cd, kind := 2, name := n', key := k', value := t' } vs vc (.slice none 0 0) (.slice none 0 0) (((W8.setCell ⟨x, 10, none⟩ (.string t'.name)).setCell ⟨x, 11, none⟩ (.string t'.key)).setCell ⟨x, 12, none⟩ (.int .i64 t'.val))) := Hc.set 12 (.int .i64 t'.val) rfl rfl rfl rfl rfl
  clear Ha Hb Hc h8 g8 H7
  go_wp2_with fail
  go_end0
  refine ⟨rfl, .slice none 0 0, ?_⟩
  unfold actionP setP
  simp only [P0.out, P1.out, HP.out, HT.out, Bool.false_eq_true, if_false, if_true]
  exact H9.out

set_option maxRecDepth 100000 in
set_option maxHeartbeats 4000000 in
theorem actionDel {W0 W : World} {b G x : Nat} {st : RS} {sp : List PSpot} {cd : List PCond} {vs vc : Value} (h : PQ W0 b G st x { query0 with spots := sp, conds := cd } vs vc (.slice none 0 0) (.slice none 0 0) W) (h0 : peekP kRETURN st = false) (h1 : peekP kSET st = false) (h2 : peekP kDELETE st = true) :
    Calls Tryz.prog 101 #[.pointer (some ⟨b, 0, none⟩), .pointer (some ⟨x, 0, none⟩)] W fun e W' => e = .returned (.tuple #[]) ∧ ∃ vi, PQ W0 b G (actionP { query0 with spots := sp, conds := cd } st).2 x (actionP { query0 with spots := sp, conds := cd } st).1 vs vc vi (.slice none 0 0) W' := by
  have HI := Lib.hid h
  have P0 := Lib.hid h0
  have P1 := Lib.hid h1
  have P2 := Lib.hid h2
  clear h h0 h1 h2
  go_enter Tryz.func101, Tryz.ntmps101
  go_wp2_with fail
  refine (accept_ HI.out.p kRETURN false P0.out).mono ?_
  rintro e A0 ⟨rfl, h, g⟩
  rw [show acceptP kRETURN st = st by unfold acceptP; rw [P0.out]; rfl] at h
  have K0 := Lib.hid (HI.out.call h g)
  clear h g HI
  go_wp2_with fail
  refine (accept_ K0.out.p kSET false P1.out).mono ?_
  rintro e A1 ⟨rfl, h, g⟩
  rw [show acceptP kSET st = st by unfold acceptP; rw [P1.out]; rfl] at h
  have K1 := Lib.hid (K0.out.call h g)
  clear h g K0
  go_wp2_with fail
  refine (accept_ K1.out.p kDELETE true P2.out).mono ?_
  rintro e A2 ⟨rfl, h, g⟩
  have K2 := Lib.hid (K1.out.call h g)
  clear h g K1
  obtain ⟨n', a2, hp⟩ : ∃ n' az, nameP (acceptP kDELETE st) = (n', az) := ⟨_, _, rfl⟩
  have HP := Lib.hid hp
  clear hp
  have c0 : A2.cell? ⟨x, 0, none⟩ = some (.int .i64 0) := (K2.out.lx.cell 0).trans rfl
  have f0 : A2.frozen? ⟨x, 0, none⟩ = false := K2.out.lx.free 0
  have HK : Hid (PQ W0 b G (acceptP kDELETE st) x { query0 with spots := sp, conds := cd, kind := 3 } vs vc (.slice none 0 0) (.slice none 0 0) (A2.setCell ⟨x, 0, none⟩ (.int .i64 3))) := K2.out.set 0 (.int .i64 3) rfl rfl rfl rfl rfl
  clear K2
  go_wp2_with fail
  generalize A2.setCell ⟨x, 0, none⟩ (.int .i64 3) = WK at HK ⊢
  clear c0 f0
  refine (name_ HK.out.p HP.out).mono ?_
  rintro e W5 ⟨rfl, h5, g5⟩
  have Ha := HK.out.call h5 g5
  have c8 : W5.cell? ⟨x, 8, none⟩ = some (.string ⟨#[]⟩) := (Ha.lx.cell 8).trans rfl
  have f8 : W5.frozen? ⟨x, 8, none⟩ = false := Ha.lx.free 8
  have H5 : Hid (PQ W0 b G a2 x { query0 with spots := sp, conds := cd, kind := 3, name := n' } vs vc (.slice none 0 0) (.slice none 0 0) (W5.setCell ⟨x, 8, none⟩ (.string n'))) := Ha.set 8 (.string n') rfl rfl rfl rfl rfl
  clear Ha h5 g5 HK
  go_wp2_with fail
  go_end0
  refine ⟨rfl, .slice none 0 0, ?_⟩
  unfold actionP
  simp only [P0.out, P1.out, P2.out, HP.out, Bool.false_eq_true, if_false, if_true]
  exact H5.out

set_option maxRecDepth 100000 in
set_option maxHeartbeats 4000000 in
theorem actionLink {W0 W : World} {b G x : Nat} {st : RS} {sp : List PSpot} {cd : List PCond} {vs vc : Value} (h : PQ W0 b G st x { query0 with spots := sp, conds := cd } vs vc (.slice none 0 0) (.slice none 0 0) W) (h0 : peekP kRETURN st = false) (h1 : peekP kSET st = false) (h2 : peekP kDELETE st = false) (h3 : peekP kCREATE st = true) :
    Calls Tryz.prog 101 #[.pointer (some ⟨b, 0, none⟩), .pointer (some ⟨x, 0, none⟩)] W fun e W' => e = .returned (.tuple #[]) ∧ ∃ vi, PQ W0 b G (actionP { query0 with spots := sp, conds := cd } st).2 x (actionP { query0 with spots := sp, conds := cd } st).1 vs vc vi (.slice none 0 0) W' := by
  have HI := Lib.hid h
  have P0 := Lib.hid h0
  have P1 := Lib.hid h1
  have P2 := Lib.hid h2
  have P3 := Lib.hid h3
  clear h h0 h1 h2 h3
  go_enter Tryz.func101, Tryz.ntmps101
  go_wp2_with fail
  refine (accept_ HI.out.p kRETURN false P0.out).mono ?_
  rintro e A0 ⟨rfl, h, g⟩
  rw [show acceptP kRETURN st = st by unfold acceptP; rw [P0.out]; rfl] at h
  have K0 := Lib.hid (HI.out.call h g)
  clear h g HI
  go_wp2_with fail
  refine (accept_ K0.out.p kSET false P1.out).mono ?_
  rintro e A1 ⟨rfl, h, g⟩
  rw [show acceptP kSET st = st by unfold acceptP; rw [P1.out]; rfl] at h
  have K1 := Lib.hid (K0.out.call h g)
  clear h g K0
  go_wp2_with fail
  refine (accept_ K1.out.p kDELETE false P2.out).mono ?_
  rintro e A2 ⟨rfl, h, g⟩
  rw [show acceptP kDELETE st = st by unfold acceptP; rw [P2.out]; rfl] at h
  have K2 := Lib.hid (K1.out.call h g)
  clear h g K1
  go_wp2_with fail
  refine (accept_ K2.out.p kCREATE true P3.out).mono ?_
  rintro e A3 ⟨rfl, h, g⟩
  have K3 := Lib.hid (K2.out.call h g)
  clear h g K2
  have c0 : A3.cell? ⟨x, 0, none⟩ = some (.int .i64 0) := (K3.out.lx.cell 0).trans rfl
  have f0 : A3.frozen? ⟨x, 0, none⟩ = false := K3.out.lx.free 0
  have HK : Hid (PQ W0 b G (acceptP kCREATE st) x { query0 with spots := sp, conds := cd, kind := 4 } vs vc (.slice none 0 0) (.slice none 0 0) (A3.setCell ⟨x, 0, none⟩ (.int .i64 4))) := K3.out.set 0 (.int .i64 4) rfl rfl rfl rfl rfl
  clear K3
  go_wp2_with fail
  generalize A3.setCell ⟨x, 0, none⟩ (.int .i64 4) = WK at HK ⊢
  clear c0 f0
  refine (link_ HK.out).mono ?_
  rintro e W5 ⟨rfl, hq⟩
  have H5 := Lib.hid hq
  clear hq
  go_wp2_with fail
  go_end0
  refine ⟨rfl, .slice none 0 0, ?_⟩
  unfold actionP
  simp only [P0.out, P1.out, P2.out, P3.out, Bool.false_eq_true, if_false, if_true]
  exact H5.out

set_option maxRecDepth 100000 in
set_option maxHeartbeats 4000000 in
theorem actionNone {W0 W : World} {b G x : Nat} {st : RS} {sp : List PSpot} {cd : List PCond} {vs vc : Value} (h : PQ W0 b G st x { query0 with spots := sp, conds := cd } vs vc (.slice none 0 0) (.slice none 0 0) W) (h0 : peekP kRETURN st = false) (h1 : peekP kSET st = false) (h2 : peekP kDELETE st = false) (h3 : peekP kCREATE st = false) :
    Calls Tryz.prog 101 #[.pointer (some ⟨b, 0, none⟩), .pointer (some ⟨x, 0, none⟩)] W fun e W' => e = .returned (.tuple #[]) ∧ ∃ vi, PQ W0 b G (actionP { query0 with spots := sp, conds := cd } st).2 x (actionP { query0 with spots := sp, conds := cd } st).1 vs vc vi (.slice none 0 0) W' := by
  have HI := Lib.hid h
  have P0 := Lib.hid h0
  have P1 := Lib.hid h1
  have P2 := Lib.hid h2
  have P3 := Lib.hid h3
  clear h h0 h1 h2 h3
  go_enter Tryz.func101, Tryz.ntmps101
  go_wp2_with fail
  refine (accept_ HI.out.p kRETURN false P0.out).mono ?_
  rintro e A0 ⟨rfl, h, g⟩
  rw [show acceptP kRETURN st = st by unfold acceptP; rw [P0.out]; rfl] at h
  have K0 := Lib.hid (HI.out.call h g)
  clear h g HI
  go_wp2_with fail
  refine (accept_ K0.out.p kSET false P1.out).mono ?_
  rintro e A1 ⟨rfl, h, g⟩
  rw [show acceptP kSET st = st by unfold acceptP; rw [P1.out]; rfl] at h
  have K1 := Lib.hid (K0.out.call h g)
  clear h g K0
  go_wp2_with fail
  refine (accept_ K1.out.p kDELETE false P2.out).mono ?_
  rintro e A2 ⟨rfl, h, g⟩
  rw [show acceptP kDELETE st = st by unfold acceptP; rw [P2.out]; rfl] at h
  have K2 := Lib.hid (K1.out.call h g)
  clear h g K1
  go_wp2_with fail
  refine (accept_ K2.out.p kCREATE false P3.out).mono ?_
  rintro e A3 ⟨rfl, h, g⟩
  rw [show acceptP kCREATE st = st by unfold acceptP; rw [P3.out]; rfl] at h
  have K3 := Lib.hid (K2.out.call h g)
  clear h g K2
  go_wp2_with fail
  refine (fail_ K3.out.p).mono ?_
  rintro e W5 ⟨rfl, h5, g5⟩
  have H5 := Lib.hid (K3.out.call h5 g5)
  clear h5 g5
  go_wp2_with fail
  go_end0
  refine ⟨rfl, .slice none 0 0, ?_⟩
  unfold actionP
  simp only [P0.out, P1.out, P2.out, P3.out, Bool.false_eq_true, if_false]
  exact H5.out

theorem action_ {W0 W : World} {b G x : Nat} {st : RS} {sp : List PSpot} {cd : List PCond} {vs vc : Value} (h : PQ W0 b G st x { query0 with spots := sp, conds := cd } vs vc (.slice none 0 0) (.slice none 0 0) W) (hl : st.rest.length ≤ 2001) :
    Calls Tryz.prog 101 #[.pointer (some ⟨b, 0, none⟩), .pointer (some ⟨x, 0, none⟩)] W fun e W' => e = .returned (.tuple #[]) ∧ ∃ vi, PQ W0 b G (actionP { query0 with spots := sp, conds := cd } st).2 x (actionP { query0 with spots := sp, conds := cd } st).1 vs vc vi (.slice none 0 0) W' := by
  cases h0 : peekP kRETURN st with
  | true => exact actionRead h h0 hl
  | false =>
    cases h1 : peekP kSET st with
    | true => exact actionSet h h0 h1
    | false =>
      cases h2 : peekP kDELETE st with
      | true => exact actionDel h h0 h1 h2
      | false =>
        cases h3 : peekP kCREATE st with
        | true => exact actionLink h h0 h1 h2 h3
        | false => exact actionNone h h0 h1 h2 h3

end Go.Proofs.YtobgbmfpicmpcaaGreatDoor

/- The program's parser: is a key of a make there twice? -/
namespace Go.Proofs.YtobgbmfpicmpcaaGreatDoor
open Go.RowKit

theorem twice_step {l : List PPair} {k : Nat} (h : k < l.length) : twiceP (l.take k) (l.drop k) = (((l.take k).any fun y => eqB y.key l[k].key) || twiceP (l.take (k + 1)) (l.drop (k + 1))) := by
  have e : l.take (k + 1) = l.take k ++ [l[k]] := by rw [List.take_add_one, List.getElem?_eq_getElem h]; rfl
  rw [List.drop_eq_getElem_cons h, e]
  rfl

set_option maxRecDepth 100000 in
set_option maxHeartbeats 4000000 in
theorem hasKeyTwice_ {B : Nat} {l : List PPair} {ao : Option Addr} {c : Nat} {W : World} (h : W.ownsRow B 91 2 (.slice ao l.length c) l.length (pairCells l)) (hn : l.length ≤ 3000) (hc : l.length ≤ c) :
    Calls Tryz.prog 159 #[.slice ao l.length c] W fun e W' => e = .returned (.bool (twiceP [] l)) ∧ Below W.heap.size W W' := by
  have HR := Lib.hid h
  clear h
  go_enter Tryz.func159, Tryz.ntmps159
  go_wp2_with fail
  go_loopg [9] l.length (fun m iv w => ∃ k : Nat, iv = .int .i64 (k : Int) ∧ k + m = l.length ∧ Below W.heap.size W w ∧ twiceP [] l = twiceP (l.take k) (l.drop k))
  case atStart => exact ⟨0, rfl, by omega, Below.refl _ _, rfl⟩
  case round =>
    obtain ⟨k, rfl, hk, hb, htw⟩ := hrel
    have HB := Lib.hid hb
    have HTW := Lib.hid htw
    have hrow := kept_none HR.out (grown_below hb none)
    have HROW := Lib.hid hrow
    clear hb htw
    by_cases hlt : k < l.length
    · obtain ⟨g, rfl, hcell⟩ := row_at (l := l) fPair (fun _ => rfl) hrow hlt
      have p0 : wr.cell? ⟨g, k * 2, none⟩ = some (.string l[k].key) := hcell 0 (by decide)
      have p1 : wr.cell? ⟨g, k * 2 + 1, none⟩ = some (.int .i64 l[k].val) := hcell 1 (by decide)
      have hki : (k : Int) < (l.length : Int) := by omega
      have HST := Lib.hid (twice_step hlt)
      obtain ⟨x, hx⟩ : ∃ x, l[k] = x := ⟨_, rfl⟩
      rw [hx] at p0 p1 HST
      clear hcell hx hrow
      go_upto_block 1 with fail
      go_cut [] (fun w => Below W.heap.size W w ∧ ((l.take k).any fun y => eqB y.key x.key) = false)
      case first =>
        have hb1 : Below W.heap.size W (wr.alloc (.cells #[.string x.key, .int .i64 x.val] 91)) := Below.alloc HB.out HB.out.size _
        have HB1 := Lib.hid hb1
        have HY := Lib.hid (Loc.new wr #[.string x.key, .int .i64 x.val] 91)
        clear hb1
        go_upto_block 2 with fail
        obtain ⟨Y, hY⟩ : ∃ Y, Y = wr.heap.size := ⟨_, rfl⟩
        rw [← hY] at HY ⊢
        clear hY
        generalize wr.alloc (.cells #[.string x.key, .int .i64 x.val] 91) = W1 at HB1 HY ⊢
        clear p0 p1
        go_wp2_with fail
        go_loopg [18] k (fun m iv w => ∃ j : Nat, iv = .int .i64 (j : Int) ∧ j + m = k ∧ Below W.heap.size W w ∧ Loc w Y #[.string x.key, .int .i64 x.val] 91 ∧ ((l.take j).any fun y => eqB y.key x.key) = false)
        case atStart => exact ⟨0, rfl, by omega, HB1.out, HY.out, rfl⟩
        case round =>
          obtain ⟨j, rfl, hj, hb, hy, hno⟩ := hrel
          have HB2 := Lib.hid hb
          have HY2 := Lib.hid hy
          have HNO := Lib.hid hno
          have hrow2 := kept_none HR.out (grown_below hb none)
          clear hb hno HB1 HY
          by_cases hjl : j < k
          · obtain ⟨g', hg', hcell⟩ := row_at (l := l) fPair (fun _ => rfl) hrow2 (show j < l.length by omega)
            injection hg' with hg'
            injection hg' with hg'
            subst hg'
            have p0 : wr.cell? ⟨g, j * 2, none⟩ = some (.string (l[j]'(by omega)).key) := hcell 0 (by decide)
            have p1 : wr.cell? ⟨g, j * 2 + 1, none⟩ = some (.int .i64 (l[j]'(by omega)).val) := hcell 1 (by decide)
            have hji : (j : Int) < (k : Int) := by omega
            obtain ⟨y, hyy⟩ : ∃ y, l[j]'(by omega) = y := ⟨_, rfl⟩
            have HNX : Hid (((l.take (j + 1)).any fun z => eqB z.key x.key) = eqB y.key x.key) := by
              show _ = _
              have e : l.take (j + 1) = l.take j ++ [y] := by rw [List.take_add_one, List.getElem?_eq_getElem (by omega), hyy]; rfl
              rw [e, List.any_append, HNO.out]; simp
            have HYES : Hid (eqB y.key x.key = true → ((l.take k).any fun z => eqB z.key x.key) = true) := by
              intro e
              refine List.any_eq_true.2 ⟨y, ?_, e⟩
              rw [← hyy]
              exact List.mem_take_iff_getElem.2 ⟨j, by omega, rfl⟩
            rw [hyy] at p0 p1
            have hb3 : Below W.heap.size W (wr.alloc (.cells #[.string y.key, .int .i64 y.val] 91)) := Below.alloc HB2.out HB2.out.size _
            have HB3 := Lib.hid hb3
            have HY3 := Lib.hid (HY2.out.alloc (.cells #[.string y.key, .int .i64 y.val] 91))
            have HZ := Lib.hid (Loc.new wr #[.string y.key, .int .i64 y.val] 91)
            clear hcell hrow2 hb3 hyy hy
            cases he : (y.key.toList == x.key.toList) with
            | true =>
              have HT : Hid (twiceP [] l = true) := by show _ = _; rw [HTW.out, HST.out, HYES.out he]; rfl
              go_upto_region 7 with fail
              obtain ⟨Z, hZ⟩ : ∃ Z, Z = wr.heap.size := ⟨_, rfl⟩
              rw [← hZ] at HZ ⊢
              clear hZ
              generalize wr.alloc (.cells #[.string y.key, .int .i64 y.val] 91) = W3 at HB3 HY3 HZ ⊢
              have z0 : W3.cell? ⟨Z, 0, none⟩ = some (.string y.key) := (HZ.out.cell 0).trans rfl
              have y0 : W3.cell? ⟨Y, 0, none⟩ = some (.string x.key) := (HY3.out.cell 0).trans rfl
              clear p0 p1
              go_wp2_with fail
              refine bodyPost_ret (v := .bool true) ?_ rfl ⟨by rw [HT.out], HB3.out⟩
              simp [results, Tryz.results159, go_sem]
            | false =>
              go_upto_region 7 with fail
              obtain ⟨Z, hZ⟩ : ∃ Z, Z = wr.heap.size := ⟨_, rfl⟩
              rw [← hZ] at HZ ⊢
              clear hZ
              generalize wr.alloc (.cells #[.string y.key, .int .i64 y.val] 91) = W3 at HB3 HY3 HZ ⊢
              have z0 : W3.cell? ⟨Z, 0, none⟩ = some (.string y.key) := (HZ.out.cell 0).trans rfl
              have y0 : W3.cell? ⟨Y, 0, none⟩ = some (.string x.key) := (HY3.out.cell 0).trans rfl
              clear p0 p1
              go_wp2_with fail
              go_roundg (gk - 1)
              case measure => omega
              case rel => exact ⟨j + 1, by simp, by omega, HB3.out, HY3.out, by rw [HNX.out]; exact he⟩
          · have hji : ¬ (j : Int) < (k : Int) := by omega
            have hj2 : j = k := by omega
            clear hrow2 hy
            go_wp2_with fail
            go_meet
            case rel => exact ⟨HB2.out, by have := HNO.out; rw [hj2] at this; exact this⟩
      case rest =>
        obtain ⟨hb2, hno⟩ := hcut
        have HB2 := Lib.hid hb2
        have HNO := Lib.hid hno
        clear hb2 hno
        go_wp2_with fail
        go_roundg (gk - 1)
        case measure => omega
        case rel => exact ⟨k + 1, by simp, by omega, HB2.out, by rw [HTW.out, HST.out, HNO.out]; rfl⟩
    · have hki : ¬ (k : Int) < (l.length : Int) := by omega
      have hk2 : k = l.length := by omega
      have HF : Hid (twiceP [] l = false) := by show _ = _; rw [HTW.out, hk2, List.drop_length]; rfl
      go_wp2_with fail
      refine bodyPost_ret (v := .bool false) ?_ rfl ⟨by rw [HF.out], HB.out⟩
      simp [results, Tryz.results159, go_sem]

end Go.Proofs.YtobgbmfpicmpcaaGreatDoor

/- The program's scope: is a variable one of the spots'? -/
namespace Go.Proofs.YtobgbmfpicmpcaaGreatDoor
open Go.RowKit

set_option maxRecDepth 100000 in
set_option maxHeartbeats 4000000 in
theorem hasSpot_ {B : Nat} {l : List PSpot} {ao : Option Addr} {c : Nat} {n : ByteArray} {W : World} (h : W.ownsRow B 85 5 (.slice ao l.length c) l.length (spotCells l)) (hn : l.length ≤ 3000) :
    Calls Tryz.prog 103 #[.slice ao l.length c, .string n] W fun e W' => e = .returned (.bool (boundR l n)) ∧ Below W.heap.size W W' := by
  have HR := Lib.hid h
  clear h
  go_enter Tryz.func103, Tryz.ntmps103
  go_wp2_with fail
  go_loopg [9] l.length (fun m iv w => ∃ k : Nat, iv = .int .i64 (k : Int) ∧ k + m = l.length ∧ Below W.heap.size W w ∧ boundR (l.take k) n = false)
  case atStart => exact ⟨0, rfl, by omega, Below.refl _ _, rfl⟩
  case round =>
    obtain ⟨k, rfl, hk, hb, hno⟩ := hrel
    have HB := Lib.hid hb
    have HNO := Lib.hid hno
    have hrow := kept_none HR.out (grown_below hb none)
    clear hb hno
    by_cases hlt : k < l.length
    · obtain ⟨g, rfl, hcell⟩ := row_at (l := l) fSpot (fun _ => rfl) hrow hlt
      have p0 : wr.cell? ⟨g, k * 5, none⟩ = some (.string l[k].name) := hcell 0 (by decide)
      have p1 : wr.cell? ⟨g, k * 5 + 1, none⟩ = some (.string l[k].label) := hcell 1 (by decide)
      have p2 : wr.cell? ⟨g, k * 5 + 2, none⟩ = some (.string l[k].type) := hcell 2 (by decide)
      have p3 : wr.cell? ⟨g, k * 5 + 3, none⟩ = some (.int .i64 l[k].least) := hcell 3 (by decide)
      have p4 : wr.cell? ⟨g, k * 5 + 4, none⟩ = some (.int .i64 l[k].most) := hcell 4 (by decide)
      have hki : (k : Int) < (l.length : Int) := by omega
      have hnx := bound_next (n := n) hlt
      obtain ⟨x, hx⟩ : ∃ x, l[k] = x := ⟨_, rfl⟩
      have HH : Hid (eqB x.name n = true → boundR l n = true) := by intro e; exact bound_here hlt (by rw [hx]; exact e)
      rw [hx] at p0 p1 p2 p3 p4 hnx
      have HNX := Lib.hid hnx
      have HB3 : Hid (Below W.heap.size W (wr.alloc (.cells #[.string x.name, .string x.label, .string x.type, .int .i64 x.least, .int .i64 x.most] 85))) := Below.alloc HB.out HB.out.size _
      have HZ := Lib.hid (Loc.new wr #[.string x.name, .string x.label, .string x.type, .int .i64 x.least, .int .i64 x.most] 85)
      clear hcell hx hrow hnx
      cases he : (x.name.toList == n.toList) with
      | true =>
        go_upto_region 4 with fail
        obtain ⟨Z, hZ⟩ : ∃ Z, Z = wr.heap.size := ⟨_, rfl⟩
        rw [← hZ] at HZ ⊢
        clear hZ
        generalize wr.alloc (.cells #[.string x.name, .string x.label, .string x.type, .int .i64 x.least, .int .i64 x.most] 85) = W3 at HB3 HZ ⊢
        have z0 : W3.cell? ⟨Z, 0, none⟩ = some (.string x.name) := (HZ.out.cell 0).trans rfl
        clear p0 p1 p2 p3 p4
        go_wp2_with fail
        refine bodyPost_ret (v := .bool true) ?_ rfl ⟨by rw [HH.out he], HB3.out⟩
        simp [results, Tryz.results103, go_sem]
      | false =>
        go_upto_region 4 with fail
        obtain ⟨Z, hZ⟩ : ∃ Z, Z = wr.heap.size := ⟨_, rfl⟩
        rw [← hZ] at HZ ⊢
        clear hZ
        generalize wr.alloc (.cells #[.string x.name, .string x.label, .string x.type, .int .i64 x.least, .int .i64 x.most] 85) = W3 at HB3 HZ ⊢
        have z0 : W3.cell? ⟨Z, 0, none⟩ = some (.string x.name) := (HZ.out.cell 0).trans rfl
        clear p0 p1 p2 p3 p4
        go_wp2_with fail
        go_roundg (gk - 1)
        case measure => omega
        case rel => exact ⟨k + 1, by simp, by omega, HB3.out, by rw [HNX.out, HNO.out]; exact he⟩
    · have hki : ¬ (k : Int) < (l.length : Int) := by omega
      have hk2 : k = l.length := by omega
      have HF : Hid (boundR l n = false) := by have := HNO.out; rw [hk2, List.take_length] at this; exact this
      go_wp2_with fail
      refine bodyPost_ret (v := .bool false) ?_ rfl ⟨by rw [HF.out], HB.out⟩
      simp [results, Tryz.results103, go_sem]

end Go.Proofs.YtobgbmfpicmpcaaGreatDoor

