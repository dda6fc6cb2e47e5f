/- The program's parser: a whole query; the program's Parse. -/
import Derived.Test.YtobgbmfpicmpcaaGreatDoorC12
namespace Go.Proofs.YtobgbmfpicmpcaaGreatDoor
open Go.RowKit

theorem query_ {b G : Nat} {st : RS} {W : World} (h : PI b G st W) (hl : st.rest.length ≤ 2000) :
    Calls Tryz.prog 45 #[.pointer (some ⟨b, 0, none⟩)] W (QueryPost b G W (queryP st)) := by
  cases hc : peekP kCALL st with
  | true => exact queryCall h hc
  | false =>
    cases hm : peekP kCREATE st with
    | true => exact queryMake h hl hc hm
    | false => exact queryMatch h hl hc hm
/-- The two readers agree on a text. -/
theorem parseText_eq {s : ByteArray} {ts : List Tok} (h : toks s = some ts) : parseText (toks s) = parseP ts := by
  rw [h]
  unfold toks at h
  split at h
  · cases h
  · exact (Pure.parse_eq (Pure.run_valid s s.size 0 ts (by omega) h)).symm
/-- The parser, new. -/
theorem PI.start {W1 : World} {B X0 : Nat} {lv : Value} {ts : List Tok} (ho : W1.ownsRow B 153 3 lv ts.length (tokCells ts)) (hX : X0 < W1.heap.size) :
    ∃ G, G < W1.heap.size ∧ PI W1.heap.size G ⟨ts, false⟩ (W1.alloc (.cells #[lv, .bool false] 81)) := by
  obtain ⟨ao, cap, rfl, hc, hs⟩ := own_seen ho
  have hlt : ∀ {x o : Nat} {v : Value}, x < W1.heap.size → W1.cell? ⟨x, o, none⟩ = some v → (W1.alloc (.cells #[.slice ao ts.length cap, .bool false] 81)).cell? ⟨x, o, none⟩ = some v := by
    intro x o v hx hv
    rw [← hv]
    simp only [World.cell?, Below.heap_alloc W1 _ x hx]
  have hz := size_alloc W1 (.cells #[.slice ao ts.length cap, .bool false] 81)
  by_cases h0 : 0 < ts.length
  · obtain ⟨g, rfl, c0, _, _⟩ := hs 0 h0
    have hg : g < W1.heap.size := Lib.lt_of_cell c0
    refine ⟨g, hg, ⟨_, cap, Loc.new W1 _ _, hc, ?_⟩, ⟨by omega, by omega⟩⟩
    intro j hj
    obtain ⟨g', e, a0, a1, a2⟩ := hs j hj
    injection e with e
    injection e with e1 _
    subst e1
    refine ⟨0, rfl, ?_, ?_, ?_⟩
    · rw [Nat.zero_add]; exact hlt hg a0
    · rw [Nat.zero_add]; exact hlt hg a1
    · rw [Nat.zero_add]; exact hlt hg a2
  · exact ⟨X0, hX, ⟨_, cap, Loc.new W1 _ _, hc, fun j hj => absurd hj (by simp only; omega)⟩, ⟨by omega, by omega⟩⟩
set_option maxRecDepth 100000 in
/-- A query's block is laid. -/
theorem wpList_allocQuery {ops : Array Oper} {rest : List Oper} {op : Oper} {a : Act} {w : World} {Q : Exit → Act → World → Prop} (hgd : op.guard = none) (ho : op.op = .alloc 29) (h : wpList Tryz.prog ops Q rest (a.put op.dst (.pointer (some ⟨w.heap.size, 0, none⟩))) (w.alloc (.cells #[.int .i64 0, .slice none 0 0, .slice none 0 0, .slice none 0 0, .int .i64 0, .bool false, .int .i64 0, .int .i64 0, .string ⟨#[]⟩, .string ⟨#[]⟩, .string ⟨#[]⟩, .string ⟨#[]⟩, .int .i64 0, .string ⟨#[]⟩, .string ⟨#[]⟩, .string ⟨#[]⟩, .slice none 0 0] 29))) : wpList Tryz.prog ops Q (op :: rest) a w :=
  wpList_plain hgd fun _ hK => by
    unfold Oper.wp execOp
    simp only [ho]
    go_simp
    exact hK _ _ h
theorem good_small {q : PQuery} (h : GoodQ q) : q.spots.length ≤ 6 ∧ q.conds.length ≤ 6 ∧ q.items.length ≤ 6 ∧ q.pairs.length ≤ 6 := by
  rcases h with h | h | h | h | h | h
  · obtain ⟨hm, _, _, hl, _, _, _, _, _, _, e⟩ := h
    refine ⟨hm.spotn, hm.condn, hl, ?_⟩; rw [e]; simp
  · obtain ⟨hm, _, _, _, e⟩ := h
    refine ⟨hm.spotn, hm.condn, ?_, ?_⟩ <;> rw [e] <;> simp
  · obtain ⟨hm, _, e⟩ := h
    refine ⟨hm.spotn, hm.condn, ?_, ?_⟩ <;> rw [e] <;> simp
  · obtain ⟨hm, _, _, _, e⟩ := h
    refine ⟨hm.spotn, hm.condn, ?_, ?_⟩ <;> rw [e] <;> simp
  · obtain ⟨_, _, hn, _, e⟩ := h
    refine ⟨?_, ?_, ?_, hn⟩ <;> rw [e] <;> simp
  · obtain ⟨_, e⟩ := h
    refine ⟨?_, ?_, ?_, ?_⟩ <;> rw [e] <;> simp

set_option maxRecDepth 100000 in
set_option maxHeartbeats 9000000 in
theorem progParseNone (s : ByteArray) (W : World) {ev : Value} (hg : W.cell? ⟨5, 0, none⟩ = some ev) (hev : ev = .nilIface ∨ ∃ te pe, ev = .iface te pe) (hs : s.size ≤ maxLen) (hnone : toks s = none) : Calls Tryz.prog 15 #[.string s] W (ParsePost (parseText (toks s)) W) := by
  have hB0 : Below W.heap.size W (W.alloc (.cells #[.int .i64 0, .slice none 0 0, .slice none 0 0, .slice none 0 0, .int .i64 0, .bool false, .int .i64 0, .int .i64 0, .string ⟨#[]⟩, .string ⟨#[]⟩, .string ⟨#[]⟩, .string ⟨#[]⟩, .int .i64 0, .string ⟨#[]⟩, .string ⟨#[]⟩, .string ⟨#[]⟩, .slice none 0 0] 29)) := Below.alloc (Below.refl _ _) (Nat.le_refl _) _
  have L0 := Loc.new W #[.int .i64 0, .slice none 0 0, .slice none 0 0, .slice none 0 0, .int .i64 0, .bool false, .int .i64 0, .int .i64 0, .string ⟨#[]⟩, .string ⟨#[]⟩, .string ⟨#[]⟩, .string ⟨#[]⟩, .int .i64 0, .string ⟨#[]⟩, .string ⟨#[]⟩, .string ⟨#[]⟩, .slice none 0 0] 29
  have HZ := size_alloc W (.cells #[.int .i64 0, .slice none 0 0, .slice none 0 0, .slice none 0 0, .int .i64 0, .bool false, .int .i64 0, .int .i64 0, .string ⟨#[]⟩, .string ⟨#[]⟩, .string ⟨#[]⟩, .string ⟨#[]⟩, .int .i64 0, .string ⟨#[]⟩, .string ⟨#[]⟩, .string ⟨#[]⟩, .slice none 0 0] 29)
  have hlt : (⟨5, 0, none⟩ : Addr).block < W.heap.size := Lib.lt_of_cell hg
  have HG := Lib.hid ((hB0.cell hlt).trans hg)
  have HEV := Lib.hid hev
  have HB0 := Lib.hid hB0
  have HL0 := Lib.hid L0
  clear hB0 L0 hg hev hlt
  go_enter Tryz.func15, Tryz.ntmps15
  go_wp2_with fail
  obtain ⟨X0, hX0⟩ : ∃ X0, X0 = W.heap.size := ⟨_, rfl⟩
  rw [← hX0] at HL0 ⊢
  have hXW : W.heap.size ≤ X0 := by omega
  have hXZ : X0 + 1 = (W.alloc (.cells #[.int .i64 0, .slice none 0 0, .slice none 0 0, .slice none 0 0, .int .i64 0, .bool false, .int .i64 0, .int .i64 0, .string ⟨#[]⟩, .string ⟨#[]⟩, .string ⟨#[]⟩, .string ⟨#[]⟩, .int .i64 0, .string ⟨#[]⟩, .string ⟨#[]⟩, .string ⟨#[]⟩, .slice none 0 0] 29)).heap.size := by rw [HZ, hX0]
  clear hX0
  generalize W.alloc (.cells #[.int .i64 0, .slice none 0 0, .slice none 0 0, .slice none 0 0, .int .i64 0, .bool false, .int .i64 0, .int .i64 0, .string ⟨#[]⟩, .string ⟨#[]⟩, .string ⟨#[]⟩, .string ⟨#[]⟩, .int .i64 0, .string ⟨#[]⟩, .string ⟨#[]⟩, .string ⟨#[]⟩, .slice none 0 0] 29) = Wz at HB0 HL0 HZ HG hXZ ⊢
  refine (tokens s Wz HG.out HEV.out hs).mono ?_
  rintro e W1 ⟨hb1, hr⟩
  have hs1 := hb1.size
  have HL1 : Hid (Loc W1 X0 #[.int .i64 0, .slice none 0 0, .slice none 0 0, .slice none 0 0, .int .i64 0, .bool false, .int .i64 0, .int .i64 0, .string ⟨#[]⟩, .string ⟨#[]⟩, .string ⟨#[]⟩, .string ⟨#[]⟩, .int .i64 0, .string ⟨#[]⟩, .string ⟨#[]⟩, .string ⟨#[]⟩, .slice none 0 0] 29) := HL0.out.grown (grown_below hb1 none) (by simp)
  have HW : Hid (Below W.heap.size W W1) := below_of (b := W.heap.size) HB0.out (grown_below hb1 _) (Nat.le_refl _)
  clear hb1 HL0 HB0 HG HEV
  rcases hr with ⟨hno, rfl⟩ | ⟨ts, lv, hts, rfl, hown⟩
  · have HNO : Hid (parseText (toks s) = (query0, 3)) := by show _ = _; rw [hno]; rfl
    clear hno hnone
    go_upto_region 3 with fail
    refine wp_region_lit ?_
    refine wpList_zeroQuery rfl rfl ?_
    refine wpList_move rfl rfl ?_
    refine wpList_store_mid rfl 29 _ _ rfl X0 0 #[.int .i64 0, .slice none 0 0, .slice none 0 0, .slice none 0 0, .int .i64 0, .bool false, .int .i64 0, .int .i64 0, .string ⟨#[]⟩, .string ⟨#[]⟩, .string ⟨#[]⟩, .string ⟨#[]⟩, .int .i64 0, .string ⟨#[]⟩, .string ⟨#[]⟩, .string ⟨#[]⟩, .slice none 0 0] rfl rfl HL1.out.there Tryz.sizeQuery z_one ?_
    have hF : Loc (W1.setCells X0 0 (#[.int .i64 0, .slice none 0 0, .slice none 0 0, .slice none 0 0, .int .i64 0, .bool false, .int .i64 0, .int .i64 0, .string ⟨#[]⟩, .string ⟨#[]⟩, .string ⟨#[]⟩, .string ⟨#[]⟩, .int .i64 0, .string ⟨#[]⟩, .string ⟨#[]⟩, .string ⟨#[]⟩, .slice none 0 0] : Array Value).toList) X0 #[.int .i64 0, .slice none 0 0, .slice none 0 0, .slice none 0 0, .int .i64 0, .bool false, .int .i64 0, .int .i64 0, .string ⟨#[]⟩, .string ⟨#[]⟩, .string ⟨#[]⟩, .string ⟨#[]⟩, .int .i64 0, .string ⟨#[]⟩, .string ⟨#[]⟩, .string ⟨#[]⟩, .slice none 0 0] 29 := HL1.out.setAll rfl
    have hG := grown_setMany X0 (#[.int .i64 0, .slice none 0 0, .slice none 0 0, .slice none 0 0, .int .i64 0, .bool false, .int .i64 0, .int .i64 0, .string ⟨#[]⟩, .string ⟨#[]⟩, .string ⟨#[]⟩, .string ⟨#[]⟩, .int .i64 0, .string ⟨#[]⟩, .string ⟨#[]⟩, .string ⟨#[]⟩, .slice none 0 0] : Array Value).toList 0 W1
    obtain ⟨WF, hWF⟩ : ∃ WF, W1.setCells X0 0 (#[.int .i64 0, .slice none 0 0, .slice none 0 0, .slice none 0 0, .int .i64 0, .bool false, .int .i64 0, .int .i64 0, .string ⟨#[]⟩, .string ⟨#[]⟩, .string ⟨#[]⟩, .string ⟨#[]⟩, .int .i64 0, .string ⟨#[]⟩, .string ⟨#[]⟩, .string ⟨#[]⟩, .slice none 0 0] : Array Value).toList = WF := ⟨_, rfl⟩
    rw [hWF] at hF hG ⊢
    clear hWF
    go_wp2_with fail
    refine bodyPost_ret (v := .tuple #[.agg #[.int .i64 0, .slice none 0 0, .slice none 0 0, .slice none 0 0, .int .i64 0, .bool false, .int .i64 0, .int .i64 0, .string ⟨#[]⟩, .string ⟨#[]⟩, .string ⟨#[]⟩, .string ⟨#[]⟩, .int .i64 0, .string ⟨#[]⟩, .string ⟨#[]⟩, .string ⟨#[]⟩, .slice none 0 0], .int .i64 3]) (retQuery Tryz.results15 rfl rfl hF rfl) rfl ⟨?_, .slice none 0 0, .slice none 0 0, .slice none 0 0, .slice none 0 0, ?_, ?_⟩
    · exact below_of (b := X0) HW.out hG hXW
    · rw [HNO.out]; rfl
    · rw [HNO.out]; exact QRows.none _ _
  · rw [hnone] at hts; cases hts

set_option maxRecDepth 100000 in
set_option maxHeartbeats 9000000 in
theorem progParseBad (s : ByteArray) (W : World) {ev : Value} (hg : W.cell? ⟨5, 0, none⟩ = some ev) (hev : ev = .nilIface ∨ ∃ te pe, ev = .iface te pe) (hs : s.size ≤ maxLen) {ts : List Tok} (hts : toks s = some ts) {q0 : PQuery} {s0 : RS} (Hq0 : Hid (queryP ⟨ts, false⟩ = (q0, s0))) (Hd0 : Hid ((!s0.bad && s0.rest.isEmpty) = false)) : Calls Tryz.prog 15 #[.string s] W (ParsePost (parseText (toks s)) W) := by
  have hB0 : Below W.heap.size W (W.alloc (.cells #[.int .i64 0, .slice none 0 0, .slice none 0 0, .slice none 0 0, .int .i64 0, .bool false, .int .i64 0, .int .i64 0, .string ⟨#[]⟩, .string ⟨#[]⟩, .string ⟨#[]⟩, .string ⟨#[]⟩, .int .i64 0, .string ⟨#[]⟩, .string ⟨#[]⟩, .string ⟨#[]⟩, .slice none 0 0] 29)) := Below.alloc (Below.refl _ _) (Nat.le_refl _) _
  have L0 := Loc.new W #[.int .i64 0, .slice none 0 0, .slice none 0 0, .slice none 0 0, .int .i64 0, .bool false, .int .i64 0, .int .i64 0, .string ⟨#[]⟩, .string ⟨#[]⟩, .string ⟨#[]⟩, .string ⟨#[]⟩, .int .i64 0, .string ⟨#[]⟩, .string ⟨#[]⟩, .string ⟨#[]⟩, .slice none 0 0] 29
  have HZ := size_alloc W (.cells #[.int .i64 0, .slice none 0 0, .slice none 0 0, .slice none 0 0, .int .i64 0, .bool false, .int .i64 0, .int .i64 0, .string ⟨#[]⟩, .string ⟨#[]⟩, .string ⟨#[]⟩, .string ⟨#[]⟩, .int .i64 0, .string ⟨#[]⟩, .string ⟨#[]⟩, .string ⟨#[]⟩, .slice none 0 0] 29)
  have hlt : (⟨5, 0, none⟩ : Addr).block < W.heap.size := Lib.lt_of_cell hg
  have HG := Lib.hid ((hB0.cell hlt).trans hg)
  have HEV := Lib.hid hev
  have HB0 := Lib.hid hB0
  have HL0 := Lib.hid L0
  clear hB0 L0 hg hev hlt
  go_enter Tryz.func15, Tryz.ntmps15
  go_wp2_with fail
  obtain ⟨X0, hX0⟩ : ∃ X0, X0 = W.heap.size := ⟨_, rfl⟩
  rw [← hX0] at HL0 ⊢
  have hXW : W.heap.size ≤ X0 := by omega
  have hXZ : X0 + 1 = (W.alloc (.cells #[.int .i64 0, .slice none 0 0, .slice none 0 0, .slice none 0 0, .int .i64 0, .bool false, .int .i64 0, .int .i64 0, .string ⟨#[]⟩, .string ⟨#[]⟩, .string ⟨#[]⟩, .string ⟨#[]⟩, .int .i64 0, .string ⟨#[]⟩, .string ⟨#[]⟩, .string ⟨#[]⟩, .slice none 0 0] 29)).heap.size := by rw [HZ, hX0]
  clear hX0
  generalize W.alloc (.cells #[.int .i64 0, .slice none 0 0, .slice none 0 0, .slice none 0 0, .int .i64 0, .bool false, .int .i64 0, .int .i64 0, .string ⟨#[]⟩, .string ⟨#[]⟩, .string ⟨#[]⟩, .string ⟨#[]⟩, .int .i64 0, .string ⟨#[]⟩, .string ⟨#[]⟩, .string ⟨#[]⟩, .slice none 0 0] 29) = Wz at HB0 HL0 HZ HG hXZ ⊢
  refine (tokens s Wz HG.out HEV.out hs).mono ?_
  rintro e W1 ⟨hb1, hr⟩
  have hs1 := hb1.size
  have HL1 : Hid (Loc W1 X0 #[.int .i64 0, .slice none 0 0, .slice none 0 0, .slice none 0 0, .int .i64 0, .bool false, .int .i64 0, .int .i64 0, .string ⟨#[]⟩, .string ⟨#[]⟩, .string ⟨#[]⟩, .string ⟨#[]⟩, .int .i64 0, .string ⟨#[]⟩, .string ⟨#[]⟩, .string ⟨#[]⟩, .slice none 0 0] 29) := HL0.out.grown (grown_below hb1 none) (by simp)
  have HW : Hid (Below W.heap.size W W1) := below_of (b := W.heap.size) HB0.out (grown_below hb1 _) (Nat.le_refl _)
  clear hb1 HL0 HB0 HG HEV
  rcases hr with ⟨hno, rfl⟩ | ⟨ts', lv, hts2, rfl, hown⟩
  · rw [hts] at hno; cases hno
  · obtain rfl : ts = ts' := by rw [hts] at hts2; exact Option.some.inj hts2
    clear hts2
    have hl := toks_len hts
    have HT := Lib.hid (parseText_eq hts)
    obtain ⟨ao, ca, rfl, hca⟩ := row_slice (l := ts) hown
    obtain ⟨G, hGl, hpi⟩ := PI.start (X0 := X0) hown (by omega)
    have HP := Lib.hid hpi
    have HL2 : Hid (Loc (W1.alloc (.cells #[.slice ao ts.length ca, .bool false] 81)) X0 #[.int .i64 0, .slice none 0 0, .slice none 0 0, .slice none 0 0, .int .i64 0, .bool false, .int .i64 0, .int .i64 0, .string ⟨#[]⟩, .string ⟨#[]⟩, .string ⟨#[]⟩, .string ⟨#[]⟩, .int .i64 0, .string ⟨#[]⟩, .string ⟨#[]⟩, .string ⟨#[]⟩, .slice none 0 0] 29) := HL1.out.alloc _
    have HW2 : Hid (Below W.heap.size W (W1.alloc (.cells #[.slice ao ts.length ca, .bool false] 81))) := HW.out.alloc (by have := HW.out.size; omega) _
    have hz2 := size_alloc W1 (.cells #[.slice ao ts.length ca, .bool false] 81)
    clear hpi hown HL1 hts
    go_upto_region 5 with fail
    obtain ⟨b, hb⟩ : ∃ b, b = W1.heap.size := ⟨_, rfl⟩
    rw [← hb] at HP ⊢
    have hbX : X0 < b := by omega
    have hbW : W.heap.size ≤ b := by have := HW.out.size; omega
    have hbz : b < (W1.alloc (.cells #[.slice ao ts.length ca, .bool false] 81)).heap.size := by omega
    clear hb hs1 hGl HW
    generalize W1.alloc (.cells #[.slice ao ts.length ca, .bool false] 81) = W2 at HP HL2 HW2 hz2 hbz ⊢
    go_wp2_with fail
    refine (query_ HP.out hl).mono ?_
    rintro e W3 ⟨vs, vc, vi, vp, rfl, hrows, hpi, hgr⟩
    rw [Hq0.out] at hrows hpi ⊢
    simp only at hrows hpi ⊢
    obtain ⟨a1, k1, rfl, m1⟩ := row_slice (l := q0.spots) hrows.rs
    obtain ⟨a2, k2, rfl, m2⟩ := row_slice (l := q0.conds) hrows.rc
    obtain ⟨a3, k3, rfl, m3⟩ := row_slice (l := q0.items) hrows.rt
    obtain ⟨a4, k4, rfl, m4⟩ := row_slice (l := q0.pairs) hrows.rp
    have HL3 := Lib.hid (HL2.out.grown hgr (by intro e; injection e with e; omega))
    have HW3 : Hid (Below W.heap.size W W3) := below_of (b := b) HW2.out hgr hbW
    have hs3 := hgr.size
    have HR3 := Lib.hid hrows
    have HP3 := Lib.hid hpi
    clear hrows hpi hgr HL2 HW2 HP m1 m2 m3 m4
    rename_i KK hKK
    refine hKK _ _ ?_
    clear hKK KK
    refine wpList_allocQuery rfl rfl ?_
    have n4 := Loc.new W3 #[.int .i64 0, .slice none 0 0, .slice none 0 0, .slice none 0 0, .int .i64 0, .bool false, .int .i64 0, .int .i64 0, .string ⟨#[]⟩, .string ⟨#[]⟩, .string ⟨#[]⟩, .string ⟨#[]⟩, .int .i64 0, .string ⟨#[]⟩, .string ⟨#[]⟩, .string ⟨#[]⟩, .slice none 0 0] 29
    refine wpList_store_mid rfl 29 _ _ rfl W3.heap.size 0 (qC q0 (.slice a1 q0.spots.length k1) (.slice a2 q0.conds.length k2) (.slice a3 q0.items.length k3) (.slice a4 q0.pairs.length k4)) rfl rfl n4.there Tryz.sizeQuery (qC_one _) ?_
    have hF : Loc ((W3.alloc (.cells #[.int .i64 0, .slice none 0 0, .slice none 0 0, .slice none 0 0, .int .i64 0, .bool false, .int .i64 0, .int .i64 0, .string ⟨#[]⟩, .string ⟨#[]⟩, .string ⟨#[]⟩, .string ⟨#[]⟩, .int .i64 0, .string ⟨#[]⟩, .string ⟨#[]⟩, .string ⟨#[]⟩, .slice none 0 0] 29)).setCells W3.heap.size 0 (qC q0 (.slice a1 q0.spots.length k1) (.slice a2 q0.conds.length k2) (.slice a3 q0.items.length k3) (.slice a4 q0.pairs.length k4)).toList) W3.heap.size (qC q0 (.slice a1 q0.spots.length k1) (.slice a2 q0.conds.length k2) (.slice a3 q0.items.length k3) (.slice a4 q0.pairs.length k4)) 29 := n4.setAll rfl
    have hG1 := grown_alloc W3 (.cells #[.int .i64 0, .slice none 0 0, .slice none 0 0, .slice none 0 0, .int .i64 0, .bool false, .int .i64 0, .int .i64 0, .string ⟨#[]⟩, .string ⟨#[]⟩, .string ⟨#[]⟩, .string ⟨#[]⟩, .int .i64 0, .string ⟨#[]⟩, .string ⟨#[]⟩, .string ⟨#[]⟩, .slice none 0 0] 29) (some W3.heap.size)
    have hG2 := grown_setMany W3.heap.size (qC q0 (.slice a1 q0.spots.length k1) (.slice a2 q0.conds.length k2) (.slice a3 q0.items.length k3) (.slice a4 q0.pairs.length k4)).toList 0 (W3.alloc (.cells #[.int .i64 0, .slice none 0 0, .slice none 0 0, .slice none 0 0, .int .i64 0, .bool false, .int .i64 0, .int .i64 0, .string ⟨#[]⟩, .string ⟨#[]⟩, .string ⟨#[]⟩, .string ⟨#[]⟩, .int .i64 0, .string ⟨#[]⟩, .string ⟨#[]⟩, .string ⟨#[]⟩, .slice none 0 0] 29))
    have hG := grown_trans hG1 hG2
    obtain ⟨x, hx⟩ : ∃ x, x = W3.heap.size := ⟨_, rfl⟩
    rw [← hx] at hF hG ⊢
    obtain ⟨W4, hW4⟩ : ∃ WF, (W3.alloc (.cells #[.int .i64 0, .slice none 0 0, .slice none 0 0, .slice none 0 0, .int .i64 0, .bool false, .int .i64 0, .int .i64 0, .string ⟨#[]⟩, .string ⟨#[]⟩, .string ⟨#[]⟩, .string ⟨#[]⟩, .int .i64 0, .string ⟨#[]⟩, .string ⟨#[]⟩, .string ⟨#[]⟩, .slice none 0 0] 29)).setCells x 0 (qC q0 (.slice a1 q0.spots.length k1) (.slice a2 q0.conds.length k2) (.slice a3 q0.items.length k3) (.slice a4 q0.pairs.length k4)).toList = WF := ⟨_, rfl⟩
    rw [← hx] at hG1 hG2 n4
    rw [hW4] at hF hG ⊢
    have hxb : b < x := by omega
    have hGx : G ≠ x := by have := HP3.out.far.2; omega
    have HX4 := Lib.hid hF
    have HP4 := Lib.hid (HP3.out.kept hG (by intro e; injection e with e; omega) (by intro e; injection e with e; exact hGx e))
    have HL4 := Lib.hid (HL3.out.grown hG (by intro e; injection e with e; omega))
    have HW4 : Hid (Below W.heap.size W W4) := below_of (b := x) HW3.out hG (by omega)
    have HR4 : Hid (QRows W2.heap.size q0 (.slice a1 q0.spots.length k1) (.slice a2 q0.conds.length k2) (.slice a3 q0.items.length k3) (.slice a4 q0.pairs.length k4) W4) := by
      have h := HR3.out
      exact ⟨h.rs.kept hG (Or.inr fun e => by have := (h.rs.lt x e).2; omega), h.rc.kept hG (Or.inr fun e => by have := (h.rc.lt x e).2; omega), h.rt.kept hG (Or.inr fun e => by have := (h.rt.lt x e).2; omega), h.rp.kept hG (Or.inr fun e => by have := (h.rp.lt x e).2; omega)⟩
    have hxX : X0 ≠ x := by omega
    clear hW4 hG hG1 hG2 n4 hF HR3 HP3 HL3 HW3 hx
    go_wp2_with fail
    refine (done_ HP4.out).mono ?_
    rintro e W4' ⟨rfl, hw4⟩
    obtain rfl := hw4.symm
    rw [Hd0.out]
    have hd : (s0.bad || !s0.rest.isEmpty) = true := by have := Hd0.out; revert this; cases s0.bad <;> cases s0.rest.isEmpty <;> simp
    have HNO : Hid (parseText (toks s) = (query0, 3)) := by show _ = _; rw [HT.out]; unfold parseP; simp only [Hq0.out, hd, if_true]
    clear hd
    go_upto_region 7 with fail
    refine wp_region_lit ?_
    refine wpList_zeroQuery rfl rfl ?_
    refine wpList_store_mid rfl 29 _ _ rfl X0 0 #[.int .i64 0, .slice none 0 0, .slice none 0 0, .slice none 0 0, .int .i64 0, .bool false, .int .i64 0, .int .i64 0, .string ⟨#[]⟩, .string ⟨#[]⟩, .string ⟨#[]⟩, .string ⟨#[]⟩, .int .i64 0, .string ⟨#[]⟩, .string ⟨#[]⟩, .string ⟨#[]⟩, .slice none 0 0] rfl rfl HL4.out.there Tryz.sizeQuery z_one ?_
    have hF : Loc (W4.setCells X0 0 (#[.int .i64 0, .slice none 0 0, .slice none 0 0, .slice none 0 0, .int .i64 0, .bool false, .int .i64 0, .int .i64 0, .string ⟨#[]⟩, .string ⟨#[]⟩, .string ⟨#[]⟩, .string ⟨#[]⟩, .int .i64 0, .string ⟨#[]⟩, .string ⟨#[]⟩, .string ⟨#[]⟩, .slice none 0 0] : Array Value).toList) X0 #[.int .i64 0, .slice none 0 0, .slice none 0 0, .slice none 0 0, .int .i64 0, .bool false, .int .i64 0, .int .i64 0, .string ⟨#[]⟩, .string ⟨#[]⟩, .string ⟨#[]⟩, .string ⟨#[]⟩, .int .i64 0, .string ⟨#[]⟩, .string ⟨#[]⟩, .string ⟨#[]⟩, .slice none 0 0] 29 := HL4.out.setAll rfl
    have hG := grown_setMany X0 (#[.int .i64 0, .slice none 0 0, .slice none 0 0, .slice none 0 0, .int .i64 0, .bool false, .int .i64 0, .int .i64 0, .string ⟨#[]⟩, .string ⟨#[]⟩, .string ⟨#[]⟩, .string ⟨#[]⟩, .int .i64 0, .string ⟨#[]⟩, .string ⟨#[]⟩, .string ⟨#[]⟩, .slice none 0 0] : Array Value).toList 0 W4
    obtain ⟨WF, hWF⟩ : ∃ WF, W4.setCells X0 0 (#[.int .i64 0, .slice none 0 0, .slice none 0 0, .slice none 0 0, .int .i64 0, .bool false, .int .i64 0, .int .i64 0, .string ⟨#[]⟩, .string ⟨#[]⟩, .string ⟨#[]⟩, .string ⟨#[]⟩, .int .i64 0, .string ⟨#[]⟩, .string ⟨#[]⟩, .string ⟨#[]⟩, .slice none 0 0] : Array Value).toList = WF := ⟨_, rfl⟩
    rw [hWF] at hF hG ⊢
    clear hWF
    go_wp2_with fail
    refine bodyPost_ret (v := .tuple #[.agg #[.int .i64 0, .slice none 0 0, .slice none 0 0, .slice none 0 0, .int .i64 0, .bool false, .int .i64 0, .int .i64 0, .string ⟨#[]⟩, .string ⟨#[]⟩, .string ⟨#[]⟩, .string ⟨#[]⟩, .int .i64 0, .string ⟨#[]⟩, .string ⟨#[]⟩, .string ⟨#[]⟩, .slice none 0 0], .int .i64 3]) (retQuery Tryz.results15 rfl rfl hF rfl) rfl ⟨?_, .slice none 0 0, .slice none 0 0, .slice none 0 0, .slice none 0 0, ?_, ?_⟩
    · exact below_of (b := X0) HW4.out hG hXW
    · rw [HNO.out]; rfl
    · rw [HNO.out]; exact QRows.none _ _

set_option maxRecDepth 100000 in
set_option maxHeartbeats 9000000 in
theorem progParseOut (s : ByteArray) (W : World) {ev : Value} (hg : W.cell? ⟨5, 0, none⟩ = some ev) (hev : ev = .nilIface ∨ ∃ te pe, ev = .iface te pe) (hs : s.size ≤ maxLen) {ts : List Tok} (hts : toks s = some ts) {q0 : PQuery} {s0 : RS} (Hq0 : Hid (queryP ⟨ts, false⟩ = (q0, s0))) (Hd0 : Hid ((!s0.bad && s0.rest.isEmpty) = true)) (Hsc : Hid (inScopeP q0 = false)) : Calls Tryz.prog 15 #[.string s] W (ParsePost (parseText (toks s)) W) := by
  have hB0 : Below W.heap.size W (W.alloc (.cells #[.int .i64 0, .slice none 0 0, .slice none 0 0, .slice none 0 0, .int .i64 0, .bool false, .int .i64 0, .int .i64 0, .string ⟨#[]⟩, .string ⟨#[]⟩, .string ⟨#[]⟩, .string ⟨#[]⟩, .int .i64 0, .string ⟨#[]⟩, .string ⟨#[]⟩, .string ⟨#[]⟩, .slice none 0 0] 29)) := Below.alloc (Below.refl _ _) (Nat.le_refl _) _
  have L0 := Loc.new W #[.int .i64 0, .slice none 0 0, .slice none 0 0, .slice none 0 0, .int .i64 0, .bool false, .int .i64 0, .int .i64 0, .string ⟨#[]⟩, .string ⟨#[]⟩, .string ⟨#[]⟩, .string ⟨#[]⟩, .int .i64 0, .string ⟨#[]⟩, .string ⟨#[]⟩, .string ⟨#[]⟩, .slice none 0 0] 29
  have HZ := size_alloc W (.cells #[.int .i64 0, .slice none 0 0, .slice none 0 0, .slice none 0 0, .int .i64 0, .bool false, .int .i64 0, .int .i64 0, .string ⟨#[]⟩, .string ⟨#[]⟩, .string ⟨#[]⟩, .string ⟨#[]⟩, .int .i64 0, .string ⟨#[]⟩, .string ⟨#[]⟩, .string ⟨#[]⟩, .slice none 0 0] 29)
  have hlt : (⟨5, 0, none⟩ : Addr).block < W.heap.size := Lib.lt_of_cell hg
  have HG := Lib.hid ((hB0.cell hlt).trans hg)
  have HEV := Lib.hid hev
  have HB0 := Lib.hid hB0
  have HL0 := Lib.hid L0
  clear hB0 L0 hg hev hlt
  go_enter Tryz.func15, Tryz.ntmps15
  go_wp2_with fail
  obtain ⟨X0, hX0⟩ : ∃ X0, X0 = W.heap.size := ⟨_, rfl⟩
  rw [← hX0] at HL0 ⊢
  have hXW : W.heap.size ≤ X0 := by omega
  have hXZ : X0 + 1 = (W.alloc (.cells #[.int .i64 0, .slice none 0 0, .slice none 0 0, .slice none 0 0, .int .i64 0, .bool false, .int .i64 0, .int .i64 0, .string ⟨#[]⟩, .string ⟨#[]⟩, .string ⟨#[]⟩, .string ⟨#[]⟩, .int .i64 0, .string ⟨#[]⟩, .string ⟨#[]⟩, .string ⟨#[]⟩, .slice none 0 0] 29)).heap.size := by rw [HZ, hX0]
  clear hX0
  generalize W.alloc (.cells #[.int .i64 0, .slice none 0 0, .slice none 0 0, .slice none 0 0, .int .i64 0, .bool false, .int .i64 0, .int .i64 0, .string ⟨#[]⟩, .string ⟨#[]⟩, .string ⟨#[]⟩, .string ⟨#[]⟩, .int .i64 0, .string ⟨#[]⟩, .string ⟨#[]⟩, .string ⟨#[]⟩, .slice none 0 0] 29) = Wz at HB0 HL0 HZ HG hXZ ⊢
  refine (tokens s Wz HG.out HEV.out hs).mono ?_
  rintro e W1 ⟨hb1, hr⟩
  have hs1 := hb1.size
  have HL1 : Hid (Loc W1 X0 #[.int .i64 0, .slice none 0 0, .slice none 0 0, .slice none 0 0, .int .i64 0, .bool false, .int .i64 0, .int .i64 0, .string ⟨#[]⟩, .string ⟨#[]⟩, .string ⟨#[]⟩, .string ⟨#[]⟩, .int .i64 0, .string ⟨#[]⟩, .string ⟨#[]⟩, .string ⟨#[]⟩, .slice none 0 0] 29) := HL0.out.grown (grown_below hb1 none) (by simp)
  have HW : Hid (Below W.heap.size W W1) := below_of (b := W.heap.size) HB0.out (grown_below hb1 _) (Nat.le_refl _)
  clear hb1 HL0 HB0 HG HEV
  rcases hr with ⟨hno, rfl⟩ | ⟨ts', lv, hts2, rfl, hown⟩
  · rw [hts] at hno; cases hno
  · obtain rfl : ts = ts' := by rw [hts] at hts2; exact Option.some.inj hts2
    clear hts2
    have hl := toks_len hts
    have HT := Lib.hid (parseText_eq hts)
    obtain ⟨ao, ca, rfl, hca⟩ := row_slice (l := ts) hown
    obtain ⟨G, hGl, hpi⟩ := PI.start (X0 := X0) hown (by omega)
    have HP := Lib.hid hpi
    have HL2 : Hid (Loc (W1.alloc (.cells #[.slice ao ts.length ca, .bool false] 81)) X0 #[.int .i64 0, .slice none 0 0, .slice none 0 0, .slice none 0 0, .int .i64 0, .bool false, .int .i64 0, .int .i64 0, .string ⟨#[]⟩, .string ⟨#[]⟩, .string ⟨#[]⟩, .string ⟨#[]⟩, .int .i64 0, .string ⟨#[]⟩, .string ⟨#[]⟩, .string ⟨#[]⟩, .slice none 0 0] 29) := HL1.out.alloc _
    have HW2 : Hid (Below W.heap.size W (W1.alloc (.cells #[.slice ao ts.length ca, .bool false] 81))) := HW.out.alloc (by have := HW.out.size; omega) _
    have hz2 := size_alloc W1 (.cells #[.slice ao ts.length ca, .bool false] 81)
    clear hpi hown HL1 hts
    go_upto_region 5 with fail
    obtain ⟨b, hb⟩ : ∃ b, b = W1.heap.size := ⟨_, rfl⟩
    rw [← hb] at HP ⊢
    have hbX : X0 < b := by omega
    have hbW : W.heap.size ≤ b := by have := HW.out.size; omega
    have hbz : b < (W1.alloc (.cells #[.slice ao ts.length ca, .bool false] 81)).heap.size := by omega
    clear hb hs1 hGl HW
    generalize W1.alloc (.cells #[.slice ao ts.length ca, .bool false] 81) = W2 at HP HL2 HW2 hz2 hbz ⊢
    go_wp2_with fail
    refine (query_ HP.out hl).mono ?_
    rintro e W3 ⟨vs, vc, vi, vp, rfl, hrows, hpi, hgr⟩
    rw [Hq0.out] at hrows hpi ⊢
    simp only at hrows hpi ⊢
    obtain ⟨a1, k1, rfl, m1⟩ := row_slice (l := q0.spots) hrows.rs
    obtain ⟨a2, k2, rfl, m2⟩ := row_slice (l := q0.conds) hrows.rc
    obtain ⟨a3, k3, rfl, m3⟩ := row_slice (l := q0.items) hrows.rt
    obtain ⟨a4, k4, rfl, m4⟩ := row_slice (l := q0.pairs) hrows.rp
    have HL3 := Lib.hid (HL2.out.grown hgr (by intro e; injection e with e; omega))
    have HW3 : Hid (Below W.heap.size W W3) := below_of (b := b) HW2.out hgr hbW
    have hs3 := hgr.size
    have HR3 := Lib.hid hrows
    have HP3 := Lib.hid hpi
    clear hrows hpi hgr HL2 HW2 HP m1 m2 m3 m4
    rename_i KK hKK
    refine hKK _ _ ?_
    clear hKK KK
    refine wpList_allocQuery rfl rfl ?_
    have n4 := Loc.new W3 #[.int .i64 0, .slice none 0 0, .slice none 0 0, .slice none 0 0, .int .i64 0, .bool false, .int .i64 0, .int .i64 0, .string ⟨#[]⟩, .string ⟨#[]⟩, .string ⟨#[]⟩, .string ⟨#[]⟩, .int .i64 0, .string ⟨#[]⟩, .string ⟨#[]⟩, .string ⟨#[]⟩, .slice none 0 0] 29
    refine wpList_store_mid rfl 29 _ _ rfl W3.heap.size 0 (qC q0 (.slice a1 q0.spots.length k1) (.slice a2 q0.conds.length k2) (.slice a3 q0.items.length k3) (.slice a4 q0.pairs.length k4)) rfl rfl n4.there Tryz.sizeQuery (qC_one _) ?_
    have hF : Loc ((W3.alloc (.cells #[.int .i64 0, .slice none 0 0, .slice none 0 0, .slice none 0 0, .int .i64 0, .bool false, .int .i64 0, .int .i64 0, .string ⟨#[]⟩, .string ⟨#[]⟩, .string ⟨#[]⟩, .string ⟨#[]⟩, .int .i64 0, .string ⟨#[]⟩, .string ⟨#[]⟩, .string ⟨#[]⟩, .slice none 0 0] 29)).setCells W3.heap.size 0 (qC q0 (.slice a1 q0.spots.length k1) (.slice a2 q0.conds.length k2) (.slice a3 q0.items.length k3) (.slice a4 q0.pairs.length k4)).toList) W3.heap.size (qC q0 (.slice a1 q0.spots.length k1) (.slice a2 q0.conds.length k2) (.slice a3 q0.items.length k3) (.slice a4 q0.pairs.length k4)) 29 := n4.setAll rfl
    have hG1 := grown_alloc W3 (.cells #[.int .i64 0, .slice none 0 0, .slice none 0 0, .slice none 0 0, .int .i64 0, .bool false, .int .i64 0, .int .i64 0, .string ⟨#[]⟩, .string ⟨#[]⟩, .string ⟨#[]⟩, .string ⟨#[]⟩, .int .i64 0, .string ⟨#[]⟩, .string ⟨#[]⟩, .string ⟨#[]⟩, .slice none 0 0] 29) (some W3.heap.size)
    have hG2 := grown_setMany W3.heap.size (qC q0 (.slice a1 q0.spots.length k1) (.slice a2 q0.conds.length k2) (.slice a3 q0.items.length k3) (.slice a4 q0.pairs.length k4)).toList 0 (W3.alloc (.cells #[.int .i64 0, .slice none 0 0, .slice none 0 0, .slice none 0 0, .int .i64 0, .bool false, .int .i64 0, .int .i64 0, .string ⟨#[]⟩, .string ⟨#[]⟩, .string ⟨#[]⟩, .string ⟨#[]⟩, .int .i64 0, .string ⟨#[]⟩, .string ⟨#[]⟩, .string ⟨#[]⟩, .slice none 0 0] 29))
    have hG := grown_trans hG1 hG2
    obtain ⟨x, hx⟩ : ∃ x, x = W3.heap.size := ⟨_, rfl⟩
    rw [← hx] at hF hG ⊢
    obtain ⟨W4, hW4⟩ : ∃ WF, (W3.alloc (.cells #[.int .i64 0, .slice none 0 0, .slice none 0 0, .slice none 0 0, .int .i64 0, .bool false, .int .i64 0, .int .i64 0, .string ⟨#[]⟩, .string ⟨#[]⟩, .string ⟨#[]⟩, .string ⟨#[]⟩, .int .i64 0, .string ⟨#[]⟩, .string ⟨#[]⟩, .string ⟨#[]⟩, .slice none 0 0] 29)).setCells x 0 (qC q0 (.slice a1 q0.spots.length k1) (.slice a2 q0.conds.length k2) (.slice a3 q0.items.length k3) (.slice a4 q0.pairs.length k4)).toList = WF := ⟨_, rfl⟩
    rw [← hx] at hG1 hG2 n4
    rw [hW4] at hF hG ⊢
    have hxb : b < x := by omega
    have hGx : G ≠ x := by have := HP3.out.far.2; omega
    have HX4 := Lib.hid hF
    have HP4 := Lib.hid (HP3.out.kept hG (by intro e; injection e with e; omega) (by intro e; injection e with e; exact hGx e))
    have HL4 := Lib.hid (HL3.out.grown hG (by intro e; injection e with e; omega))
    have HW4 : Hid (Below W.heap.size W W4) := below_of (b := x) HW3.out hG (by omega)
    have HR4 : Hid (QRows W2.heap.size q0 (.slice a1 q0.spots.length k1) (.slice a2 q0.conds.length k2) (.slice a3 q0.items.length k3) (.slice a4 q0.pairs.length k4) W4) := by
      have h := HR3.out
      exact ⟨h.rs.kept hG (Or.inr fun e => by have := (h.rs.lt x e).2; omega), h.rc.kept hG (Or.inr fun e => by have := (h.rc.lt x e).2; omega), h.rt.kept hG (Or.inr fun e => by have := (h.rt.lt x e).2; omega), h.rp.kept hG (Or.inr fun e => by have := (h.rp.lt x e).2; omega)⟩
    have hxX : X0 ≠ x := by omega
    clear hW4 hG hG1 hG2 n4 hF HR3 HP3 HL3 HW3 hx
    go_wp2_with fail
    refine (done_ HP4.out).mono ?_
    rintro e W4' ⟨rfl, hw4⟩
    obtain rfl := hw4.symm
    rw [Hd0.out]
    have hd : (s0.bad || !s0.rest.isEmpty) = false := by have := Hd0.out; revert this; cases s0.bad <;> cases s0.rest.isEmpty <;> simp
    have hgood : GoodQ q0 := by
      have h := Pure.query_good (st := ⟨ts, false⟩) (by rw [Hq0.out]; revert hd; cases s0.bad <;> simp)
      rw [Hq0.out] at h; exact h
    obtain ⟨l1, l2, l3, l4⟩ := good_small hgood
    clear hgood
    go_upto_region 8 with fail
    refine wp_region_lit ?_
    refine wpList_load_mid rfl 29 _ rfl x 0 rfl (qC q0 (.slice a1 q0.spots.length k1) (.slice a2 q0.conds.length k2) (.slice a3 q0.items.length k3) (.slice a4 q0.pairs.length k4)).toList _ HX4.out.range Tryz.underlying29 rfl (by rw [Tryz.sizeQuery]; rfl) ?_
    go_wp2_with fail
    refine (inScope_ (q := q0) HR4.out.rs HR4.out.rc HR4.out.rt (by omega) (by omega) (by omega)).mono ?_
    rintro e W5 ⟨rfl, hb5⟩
    rw [Hsc.out]
    have g5 := grown_below hb5 none
    have HL5 := Lib.hid (HL4.out.grown g5 (by simp))
    have HX5 := Lib.hid (HX4.out.grown g5 (by simp))
    have HW5 : Hid (Below W.heap.size W W5) := below_of (b := W.heap.size) HW4.out (grown_below hb5 _) (Nat.le_refl _)
    have HR5 : Hid (QRows W2.heap.size q0 (.slice a1 q0.spots.length k1) (.slice a2 q0.conds.length k2) (.slice a3 q0.items.length k3) (.slice a4 q0.pairs.length k4) W5) := ⟨kept_none HR4.out.rs g5, kept_none HR4.out.rc g5, kept_none HR4.out.rt g5, kept_none HR4.out.rp g5⟩
    clear hb5 g5 HL4 HX4 HW4 HR4 HP4
    have HNO : Hid (parseText (toks s) = (query0, 4)) := by show _ = _; rw [HT.out]; unfold parseP; simp only [Hq0.out, hd, Hsc.out]; rfl
    clear hd
    go_upto_region 9 with fail
    refine wp_region_lit ?_
    refine wpList_zeroQuery rfl rfl ?_
    refine wpList_store_mid rfl 29 _ _ rfl X0 0 #[.int .i64 0, .slice none 0 0, .slice none 0 0, .slice none 0 0, .int .i64 0, .bool false, .int .i64 0, .int .i64 0, .string ⟨#[]⟩, .string ⟨#[]⟩, .string ⟨#[]⟩, .string ⟨#[]⟩, .int .i64 0, .string ⟨#[]⟩, .string ⟨#[]⟩, .string ⟨#[]⟩, .slice none 0 0] rfl rfl HL5.out.there Tryz.sizeQuery z_one ?_
    have hF : Loc (W5.setCells X0 0 (#[.int .i64 0, .slice none 0 0, .slice none 0 0, .slice none 0 0, .int .i64 0, .bool false, .int .i64 0, .int .i64 0, .string ⟨#[]⟩, .string ⟨#[]⟩, .string ⟨#[]⟩, .string ⟨#[]⟩, .int .i64 0, .string ⟨#[]⟩, .string ⟨#[]⟩, .string ⟨#[]⟩, .slice none 0 0] : Array Value).toList) X0 #[.int .i64 0, .slice none 0 0, .slice none 0 0, .slice none 0 0, .int .i64 0, .bool false, .int .i64 0, .int .i64 0, .string ⟨#[]⟩, .string ⟨#[]⟩, .string ⟨#[]⟩, .string ⟨#[]⟩, .int .i64 0, .string ⟨#[]⟩, .string ⟨#[]⟩, .string ⟨#[]⟩, .slice none 0 0] 29 := HL5.out.setAll rfl
    have hG := grown_setMany X0 (#[.int .i64 0, .slice none 0 0, .slice none 0 0, .slice none 0 0, .int .i64 0, .bool false, .int .i64 0, .int .i64 0, .string ⟨#[]⟩, .string ⟨#[]⟩, .string ⟨#[]⟩, .string ⟨#[]⟩, .int .i64 0, .string ⟨#[]⟩, .string ⟨#[]⟩, .string ⟨#[]⟩, .slice none 0 0] : Array Value).toList 0 W5
    obtain ⟨WF, hWF⟩ : ∃ WF, W5.setCells X0 0 (#[.int .i64 0, .slice none 0 0, .slice none 0 0, .slice none 0 0, .int .i64 0, .bool false, .int .i64 0, .int .i64 0, .string ⟨#[]⟩, .string ⟨#[]⟩, .string ⟨#[]⟩, .string ⟨#[]⟩, .int .i64 0, .string ⟨#[]⟩, .string ⟨#[]⟩, .string ⟨#[]⟩, .slice none 0 0] : Array Value).toList = WF := ⟨_, rfl⟩
    rw [hWF] at hF hG ⊢
    clear hWF
    go_wp2_with fail
    refine bodyPost_ret (v := .tuple #[.agg #[.int .i64 0, .slice none 0 0, .slice none 0 0, .slice none 0 0, .int .i64 0, .bool false, .int .i64 0, .int .i64 0, .string ⟨#[]⟩, .string ⟨#[]⟩, .string ⟨#[]⟩, .string ⟨#[]⟩, .int .i64 0, .string ⟨#[]⟩, .string ⟨#[]⟩, .string ⟨#[]⟩, .slice none 0 0], .int .i64 4]) (retQuery Tryz.results15 rfl rfl hF rfl) rfl ⟨?_, .slice none 0 0, .slice none 0 0, .slice none 0 0, .slice none 0 0, ?_, ?_⟩
    · exact below_of (b := X0) HW5.out hG hXW
    · rw [HNO.out]; rfl
    · rw [HNO.out]; exact QRows.none _ _

set_option maxRecDepth 100000 in
set_option maxHeartbeats 9000000 in
theorem progParseOk (s : ByteArray) (W : World) {ev : Value} (hg : W.cell? ⟨5, 0, none⟩ = some ev) (hev : ev = .nilIface ∨ ∃ te pe, ev = .iface te pe) (hs : s.size ≤ maxLen) {ts : List Tok} (hts : toks s = some ts) {q0 : PQuery} {s0 : RS} (Hq0 : Hid (queryP ⟨ts, false⟩ = (q0, s0))) (Hd0 : Hid ((!s0.bad && s0.rest.isEmpty) = true)) (Hsc : Hid (inScopeP q0 = true)) : Calls Tryz.prog 15 #[.string s] W (ParsePost (parseText (toks s)) W) := by
  have hB0 : Below W.heap.size W (W.alloc (.cells #[.int .i64 0, .slice none 0 0, .slice none 0 0, .slice none 0 0, .int .i64 0, .bool false, .int .i64 0, .int .i64 0, .string ⟨#[]⟩, .string ⟨#[]⟩, .string ⟨#[]⟩, .string ⟨#[]⟩, .int .i64 0, .string ⟨#[]⟩, .string ⟨#[]⟩, .string ⟨#[]⟩, .slice none 0 0] 29)) := Below.alloc (Below.refl _ _) (Nat.le_refl _) _
  have L0 := Loc.new W #[.int .i64 0, .slice none 0 0, .slice none 0 0, .slice none 0 0, .int .i64 0, .bool false, .int .i64 0, .int .i64 0, .string ⟨#[]⟩, .string ⟨#[]⟩, .string ⟨#[]⟩, .string ⟨#[]⟩, .int .i64 0, .string ⟨#[]⟩, .string ⟨#[]⟩, .string ⟨#[]⟩, .slice none 0 0] 29
  have HZ := size_alloc W (.cells #[.int .i64 0, .slice none 0 0, .slice none 0 0, .slice none 0 0, .int .i64 0, .bool false, .int .i64 0, .int .i64 0, .string ⟨#[]⟩, .string ⟨#[]⟩, .string ⟨#[]⟩, .string ⟨#[]⟩, .int .i64 0, .string ⟨#[]⟩, .string ⟨#[]⟩, .string ⟨#[]⟩, .slice none 0 0] 29)
  have hlt : (⟨5, 0, none⟩ : Addr).block < W.heap.size := Lib.lt_of_cell hg
  have HG := Lib.hid ((hB0.cell hlt).trans hg)
  have HEV := Lib.hid hev
  have HB0 := Lib.hid hB0
  have HL0 := Lib.hid L0
  clear hB0 L0 hg hev hlt
  go_enter Tryz.func15, Tryz.ntmps15
  go_wp2_with fail
  obtain ⟨X0, hX0⟩ : ∃ X0, X0 = W.heap.size := ⟨_, rfl⟩
  rw [← hX0] at HL0 ⊢
  have hXW : W.heap.size ≤ X0 := by omega
  have hXZ : X0 + 1 = (W.alloc (.cells #[.int .i64 0, .slice none 0 0, .slice none 0 0, .slice none 0 0, .int .i64 0, .bool false, .int .i64 0, .int .i64 0, .string ⟨#[]⟩, .string ⟨#[]⟩, .string ⟨#[]⟩, .string ⟨#[]⟩, .int .i64 0, .string ⟨#[]⟩, .string ⟨#[]⟩, .string ⟨#[]⟩, .slice none 0 0] 29)).heap.size := by rw [HZ, hX0]
  clear hX0
  generalize W.alloc (.cells #[.int .i64 0, .slice none 0 0, .slice none 0 0, .slice none 0 0, .int .i64 0, .bool false, .int .i64 0, .int .i64 0, .string ⟨#[]⟩, .string ⟨#[]⟩, .string ⟨#[]⟩, .string ⟨#[]⟩, .int .i64 0, .string ⟨#[]⟩, .string ⟨#[]⟩, .string ⟨#[]⟩, .slice none 0 0] 29) = Wz at HB0 HL0 HZ HG hXZ ⊢
  refine (tokens s Wz HG.out HEV.out hs).mono ?_
  rintro e W1 ⟨hb1, hr⟩
  have hs1 := hb1.size
  have HL1 : Hid (Loc W1 X0 #[.int .i64 0, .slice none 0 0, .slice none 0 0, .slice none 0 0, .int .i64 0, .bool false, .int .i64 0, .int .i64 0, .string ⟨#[]⟩, .string ⟨#[]⟩, .string ⟨#[]⟩, .string ⟨#[]⟩, .int .i64 0, .string ⟨#[]⟩, .string ⟨#[]⟩, .string ⟨#[]⟩, .slice none 0 0] 29) := HL0.out.grown (grown_below hb1 none) (by simp)
  have HW : Hid (Below W.heap.size W W1) := below_of (b := W.heap.size) HB0.out (grown_below hb1 _) (Nat.le_refl _)
  clear hb1 HL0 HB0 HG HEV
  rcases hr with ⟨hno, rfl⟩ | ⟨ts', lv, hts2, rfl, hown⟩
  · rw [hts] at hno; cases hno
  · obtain rfl : ts = ts' := by rw [hts] at hts2; exact Option.some.inj hts2
    clear hts2
    have hl := toks_len hts
    have HT := Lib.hid (parseText_eq hts)
    obtain ⟨ao, ca, rfl, hca⟩ := row_slice (l := ts) hown
    obtain ⟨G, hGl, hpi⟩ := PI.start (X0 := X0) hown (by omega)
    have HP := Lib.hid hpi
    have HL2 : Hid (Loc (W1.alloc (.cells #[.slice ao ts.length ca, .bool false] 81)) X0 #[.int .i64 0, .slice none 0 0, .slice none 0 0, .slice none 0 0, .int .i64 0, .bool false, .int .i64 0, .int .i64 0, .string ⟨#[]⟩, .string ⟨#[]⟩, .string ⟨#[]⟩, .string ⟨#[]⟩, .int .i64 0, .string ⟨#[]⟩, .string ⟨#[]⟩, .string ⟨#[]⟩, .slice none 0 0] 29) := HL1.out.alloc _
    have HW2 : Hid (Below W.heap.size W (W1.alloc (.cells #[.slice ao ts.length ca, .bool false] 81))) := HW.out.alloc (by have := HW.out.size; omega) _
    have hz2 := size_alloc W1 (.cells #[.slice ao ts.length ca, .bool false] 81)
    clear hpi hown HL1 hts
    go_upto_region 5 with fail
    obtain ⟨b, hb⟩ : ∃ b, b = W1.heap.size := ⟨_, rfl⟩
    rw [← hb] at HP ⊢
    have hbX : X0 < b := by omega
    have hbW : W.heap.size ≤ b := by have := HW.out.size; omega
    have hbz : b < (W1.alloc (.cells #[.slice ao ts.length ca, .bool false] 81)).heap.size := by omega
    clear hb hs1 hGl HW
    generalize W1.alloc (.cells #[.slice ao ts.length ca, .bool false] 81) = W2 at HP HL2 HW2 hz2 hbz ⊢
    go_wp2_with fail
    refine (query_ HP.out hl).mono ?_
    rintro e W3 ⟨vs, vc, vi, vp, rfl, hrows, hpi, hgr⟩
    rw [Hq0.out] at hrows hpi ⊢
    simp only at hrows hpi ⊢
    obtain ⟨a1, k1, rfl, m1⟩ := row_slice (l := q0.spots) hrows.rs
    obtain ⟨a2, k2, rfl, m2⟩ := row_slice (l := q0.conds) hrows.rc
    obtain ⟨a3, k3, rfl, m3⟩ := row_slice (l := q0.items) hrows.rt
    obtain ⟨a4, k4, rfl, m4⟩ := row_slice (l := q0.pairs) hrows.rp
    have HL3 := Lib.hid (HL2.out.grown hgr (by intro e; injection e with e; omega))
    have HW3 : Hid (Below W.heap.size W W3) := below_of (b := b) HW2.out hgr hbW
    have hs3 := hgr.size
    have HR3 := Lib.hid hrows
    have HP3 := Lib.hid hpi
    clear hrows hpi hgr HL2 HW2 HP m1 m2 m3 m4
    rename_i KK hKK
    refine hKK _ _ ?_
    clear hKK KK
    refine wpList_allocQuery rfl rfl ?_
    have n4 := Loc.new W3 #[.int .i64 0, .slice none 0 0, .slice none 0 0, .slice none 0 0, .int .i64 0, .bool false, .int .i64 0, .int .i64 0, .string ⟨#[]⟩, .string ⟨#[]⟩, .string ⟨#[]⟩, .string ⟨#[]⟩, .int .i64 0, .string ⟨#[]⟩, .string ⟨#[]⟩, .string ⟨#[]⟩, .slice none 0 0] 29
    refine wpList_store_mid rfl 29 _ _ rfl W3.heap.size 0 (qC q0 (.slice a1 q0.spots.length k1) (.slice a2 q0.conds.length k2) (.slice a3 q0.items.length k3) (.slice a4 q0.pairs.length k4)) rfl rfl n4.there Tryz.sizeQuery (qC_one _) ?_
    have hF : Loc ((W3.alloc (.cells #[.int .i64 0, .slice none 0 0, .slice none 0 0, .slice none 0 0, .int .i64 0, .bool false, .int .i64 0, .int .i64 0, .string ⟨#[]⟩, .string ⟨#[]⟩, .string ⟨#[]⟩, .string ⟨#[]⟩, .int .i64 0, .string ⟨#[]⟩, .string ⟨#[]⟩, .string ⟨#[]⟩, .slice none 0 0] 29)).setCells W3.heap.size 0 (qC q0 (.slice a1 q0.spots.length k1) (.slice a2 q0.conds.length k2) (.slice a3 q0.items.length k3) (.slice a4 q0.pairs.length k4)).toList) W3.heap.size (qC q0 (.slice a1 q0.spots.length k1) (.slice a2 q0.conds.length k2) (.slice a3 q0.items.length k3) (.slice a4 q0.pairs.length k4)) 29 := n4.setAll rfl
    have hG1 := grown_alloc W3 (.cells #[.int .i64 0, .slice none 0 0, .slice none 0 0, .slice none 0 0, .int .i64 0, .bool false, .int .i64 0, .int .i64 0, .string ⟨#[]⟩, .string ⟨#[]⟩, .string ⟨#[]⟩, .string ⟨#[]⟩, .int .i64 0, .string ⟨#[]⟩, .string ⟨#[]⟩, .string ⟨#[]⟩, .slice none 0 0] 29) (some W3.heap.size)
    have hG2 := grown_setMany W3.heap.size (qC q0 (.slice a1 q0.spots.length k1) (.slice a2 q0.conds.length k2) (.slice a3 q0.items.length k3) (.slice a4 q0.pairs.length k4)).toList 0 (W3.alloc (.cells #[.int .i64 0, .slice none 0 0, .slice none 0 0, .slice none 0 0, .int .i64 0, .bool false, .int .i64 0, .int .i64 0, .string ⟨#[]⟩, .string ⟨#[]⟩, .string ⟨#[]⟩, .string ⟨#[]⟩, .int .i64 0, .string ⟨#[]⟩, .string ⟨#[]⟩, .string ⟨#[]⟩, .slice none 0 0] 29))
    have hG := grown_trans hG1 hG2
    obtain ⟨x, hx⟩ : ∃ x, x = W3.heap.size := ⟨_, rfl⟩
    rw [← hx] at hF hG ⊢
    obtain ⟨W4, hW4⟩ : ∃ WF, (W3.alloc (.cells #[.int .i64 0, .slice none 0 0, .slice none 0 0, .slice none 0 0, .int .i64 0, .bool false, .int .i64 0, .int .i64 0, .string ⟨#[]⟩, .string ⟨#[]⟩, .string ⟨#[]⟩, .string ⟨#[]⟩, .int .i64 0, .string ⟨#[]⟩, .string ⟨#[]⟩, .string ⟨#[]⟩, .slice none 0 0] 29)).setCells x 0 (qC q0 (.slice a1 q0.spots.length k1) (.slice a2 q0.conds.length k2) (.slice a3 q0.items.length k3) (.slice a4 q0.pairs.length k4)).toList = WF := ⟨_, rfl⟩
    rw [← hx] at hG1 hG2 n4
    rw [hW4] at hF hG ⊢
    have hxb : b < x := by omega
    have hGx : G ≠ x := by have := HP3.out.far.2; omega
    have HX4 := Lib.hid hF
    have HP4 := Lib.hid (HP3.out.kept hG (by intro e; injection e with e; omega) (by intro e; injection e with e; exact hGx e))
    have HL4 := Lib.hid (HL3.out.grown hG (by intro e; injection e with e; omega))
    have HW4 : Hid (Below W.heap.size W W4) := below_of (b := x) HW3.out hG (by omega)
    have HR4 : Hid (QRows W2.heap.size q0 (.slice a1 q0.spots.length k1) (.slice a2 q0.conds.length k2) (.slice a3 q0.items.length k3) (.slice a4 q0.pairs.length k4) W4) := by
      have h := HR3.out
      exact ⟨h.rs.kept hG (Or.inr fun e => by have := (h.rs.lt x e).2; omega), h.rc.kept hG (Or.inr fun e => by have := (h.rc.lt x e).2; omega), h.rt.kept hG (Or.inr fun e => by have := (h.rt.lt x e).2; omega), h.rp.kept hG (Or.inr fun e => by have := (h.rp.lt x e).2; omega)⟩
    have hxX : X0 ≠ x := by omega
    clear hW4 hG hG1 hG2 n4 hF HR3 HP3 HL3 HW3 hx
    go_wp2_with fail
    refine (done_ HP4.out).mono ?_
    rintro e W4' ⟨rfl, hw4⟩
    obtain rfl := hw4.symm
    rw [Hd0.out]
    have hd : (s0.bad || !s0.rest.isEmpty) = false := by have := Hd0.out; revert this; cases s0.bad <;> cases s0.rest.isEmpty <;> simp
    have hgood : GoodQ q0 := by
      have h := Pure.query_good (st := ⟨ts, false⟩) (by rw [Hq0.out]; revert hd; cases s0.bad <;> simp)
      rw [Hq0.out] at h; exact h
    obtain ⟨l1, l2, l3, l4⟩ := good_small hgood
    clear hgood
    go_upto_region 8 with fail
    refine wp_region_lit ?_
    refine wpList_load_mid rfl 29 _ rfl x 0 rfl (qC q0 (.slice a1 q0.spots.length k1) (.slice a2 q0.conds.length k2) (.slice a3 q0.items.length k3) (.slice a4 q0.pairs.length k4)).toList _ HX4.out.range Tryz.underlying29 rfl (by rw [Tryz.sizeQuery]; rfl) ?_
    go_wp2_with fail
    refine (inScope_ (q := q0) HR4.out.rs HR4.out.rc HR4.out.rt (by omega) (by omega) (by omega)).mono ?_
    rintro e W5 ⟨rfl, hb5⟩
    rw [Hsc.out]
    have g5 := grown_below hb5 none
    have HL5 := Lib.hid (HL4.out.grown g5 (by simp))
    have HX5 := Lib.hid (HX4.out.grown g5 (by simp))
    have HW5 : Hid (Below W.heap.size W W5) := below_of (b := W.heap.size) HW4.out (grown_below hb5 _) (Nat.le_refl _)
    have HR5 : Hid (QRows W2.heap.size q0 (.slice a1 q0.spots.length k1) (.slice a2 q0.conds.length k2) (.slice a3 q0.items.length k3) (.slice a4 q0.pairs.length k4) W5) := ⟨kept_none HR4.out.rs g5, kept_none HR4.out.rc g5, kept_none HR4.out.rt g5, kept_none HR4.out.rp g5⟩
    clear hb5 g5 HL4 HX4 HW4 HR4 HP4
    have HOK : Hid (parseText (toks s) = (q0, 0)) := by show _ = _; rw [HT.out]; unfold parseP; simp only [Hq0.out, hd, Hsc.out]; rfl
    clear hd
    go_upto_region 10 with fail
    refine wp_region_lit ?_
    refine wpList_load_mid rfl 29 _ rfl x 0 rfl (qC q0 (.slice a1 q0.spots.length k1) (.slice a2 q0.conds.length k2) (.slice a3 q0.items.length k3) (.slice a4 q0.pairs.length k4)).toList _ HX5.out.range Tryz.underlying29 rfl (by rw [Tryz.sizeQuery]; rfl) ?_
    refine wpList_store_mid rfl 29 _ _ rfl X0 0 (qC q0 (.slice a1 q0.spots.length k1) (.slice a2 q0.conds.length k2) (.slice a3 q0.items.length k3) (.slice a4 q0.pairs.length k4)) rfl rfl HL5.out.there Tryz.sizeQuery (qC_one q0) ?_
    have hF : Loc (W5.setCells X0 0 (qC q0 (.slice a1 q0.spots.length k1) (.slice a2 q0.conds.length k2) (.slice a3 q0.items.length k3) (.slice a4 q0.pairs.length k4)).toList) X0 (qC q0 (.slice a1 q0.spots.length k1) (.slice a2 q0.conds.length k2) (.slice a3 q0.items.length k3) (.slice a4 q0.pairs.length k4)) 29 := HL5.out.setAll rfl
    have hG := grown_setMany X0 (qC q0 (.slice a1 q0.spots.length k1) (.slice a2 q0.conds.length k2) (.slice a3 q0.items.length k3) (.slice a4 q0.pairs.length k4)).toList 0 W5
    obtain ⟨WF, hWF⟩ : ∃ WF, W5.setCells X0 0 (qC q0 (.slice a1 q0.spots.length k1) (.slice a2 q0.conds.length k2) (.slice a3 q0.items.length k3) (.slice a4 q0.pairs.length k4)).toList = WF := ⟨_, rfl⟩
    rw [hWF] at hF hG ⊢
    clear hWF
    go_wp2_with fail
    refine bodyPost_ret (v := .tuple #[.agg (qC q0 (.slice a1 q0.spots.length k1) (.slice a2 q0.conds.length k2) (.slice a3 q0.items.length k3) (.slice a4 q0.pairs.length k4)), .int .i64 0]) (retQuery Tryz.results15 rfl rfl hF rfl) rfl ⟨?_, (.slice a1 q0.spots.length k1), (.slice a2 q0.conds.length k2), (.slice a3 q0.items.length k3), (.slice a4 q0.pairs.length k4), ?_, ?_⟩
    · exact below_of (b := X0) HW5.out hG hXW
    · rw [HOK.out]
    · rw [HOK.out]
      have hw : W.heap.size ≤ W2.heap.size := by omega
      exact ⟨row_weaken (HR5.out.rs.kept hG (Or.inr (row_loc HR5.out.rs HL5.out (by decide)))) hw, row_weaken (HR5.out.rc.kept hG (Or.inr (row_loc HR5.out.rc HL5.out (by decide)))) hw, row_weaken (HR5.out.rt.kept hG (Or.inr (row_loc HR5.out.rt HL5.out (by decide)))) hw, row_weaken (HR5.out.rp.kept hG (Or.inr (row_loc HR5.out.rp HL5.out (by decide)))) hw⟩

theorem progParse (s : ByteArray) (W : World) {ev : Value} (hg : W.cell? ⟨5, 0, none⟩ = some ev) (hev : ev = .nilIface ∨ ∃ te pe, ev = .iface te pe) (hs : s.size ≤ maxLen) : Calls Tryz.prog 15 #[.string s] W (ParsePost (parseText (toks s)) W) := by
  cases hts : toks s with
  | none => rw [← hts]; exact progParseNone s W hg hev hs hts
  | some ts =>
    rw [← hts]
    cases hq0 : queryP ⟨ts, false⟩ with
    | mk q0 s0 =>
      cases hd : (!s0.bad && s0.rest.isEmpty) with
      | false => exact progParseBad s W hg hev hs hts hq0 hd
      | true =>
        cases hsc : inScopeP q0 with
        | true => exact progParseOk s W hg hev hs hts hq0 hd hsc
        | false => exact progParseOut s W hg hev hs hts hq0 hd hsc

end Go.Proofs.YtobgbmfpicmpcaaGreatDoor

/- The reference's Parse: a text that has no tokens; tokens that are none of the grammar's, or that are left. -/
namespace Go.Proofs.YtobgbmfpicmpcaaGreatDoor
open Go.RowKit

set_option maxRecDepth 100000 in
set_option maxHeartbeats 9000000 in
theorem refParseNone (s : ByteArray) (W : World) (hs : s.size ≤ maxLen) (hnone : toks s = none) : Calls Tryz.prog 14 #[.string s] W (ParsePost (parseText (toks s)) W) := by
  have hB0 : Below W.heap.size W (W.alloc (.cells #[.int .i64 0, .slice none 0 0, .slice none 0 0, .slice none 0 0, .int .i64 0, .bool false, .int .i64 0, .int .i64 0, .string ⟨#[]⟩, .string ⟨#[]⟩, .string ⟨#[]⟩, .string ⟨#[]⟩, .int .i64 0, .string ⟨#[]⟩, .string ⟨#[]⟩, .string ⟨#[]⟩, .slice none 0 0] 29)) := Below.alloc (Below.refl _ _) (Nat.le_refl _) _
  have L0 := Loc.new W #[.int .i64 0, .slice none 0 0, .slice none 0 0, .slice none 0 0, .int .i64 0, .bool false, .int .i64 0, .int .i64 0, .string ⟨#[]⟩, .string ⟨#[]⟩, .string ⟨#[]⟩, .string ⟨#[]⟩, .int .i64 0, .string ⟨#[]⟩, .string ⟨#[]⟩, .string ⟨#[]⟩, .slice none 0 0] 29
  have HZ := size_alloc W (.cells #[.int .i64 0, .slice none 0 0, .slice none 0 0, .slice none 0 0, .int .i64 0, .bool false, .int .i64 0, .int .i64 0, .string ⟨#[]⟩, .string ⟨#[]⟩, .string ⟨#[]⟩, .string ⟨#[]⟩, .int .i64 0, .string ⟨#[]⟩, .string ⟨#[]⟩, .string ⟨#[]⟩, .slice none 0 0] 29)
  have HB0 := Lib.hid hB0
  have HL0 := Lib.hid L0
  clear hB0 L0
  go_enter Tryz.func14, Tryz.ntmps14
  go_wp2_with fail
  obtain ⟨X0, hX0⟩ : ∃ X0, X0 = W.heap.size := ⟨_, rfl⟩
  rw [← hX0] at HL0 ⊢
  have hXW : W.heap.size ≤ X0 := by omega
  have hXZ : X0 + 1 = (W.alloc (.cells #[.int .i64 0, .slice none 0 0, .slice none 0 0, .slice none 0 0, .int .i64 0, .bool false, .int .i64 0, .int .i64 0, .string ⟨#[]⟩, .string ⟨#[]⟩, .string ⟨#[]⟩, .string ⟨#[]⟩, .int .i64 0, .string ⟨#[]⟩, .string ⟨#[]⟩, .string ⟨#[]⟩, .slice none 0 0] 29)).heap.size := by rw [HZ, hX0]
  clear hX0
  generalize W.alloc (.cells #[.int .i64 0, .slice none 0 0, .slice none 0 0, .slice none 0 0, .int .i64 0, .bool false, .int .i64 0, .int .i64 0, .string ⟨#[]⟩, .string ⟨#[]⟩, .string ⟨#[]⟩, .string ⟨#[]⟩, .int .i64 0, .string ⟨#[]⟩, .string ⟨#[]⟩, .string ⟨#[]⟩, .slice none 0 0] 29) = Wz at HB0 HL0 HZ hXZ ⊢
  refine (refTokensAny s Wz hs).mono ?_
  rintro e W1 ⟨hb1, hr⟩
  have HB1 := Lib.hid hb1
  have hs1 := hb1.size
  rcases hr with ⟨hno, rfl⟩ | ⟨ts, lv, hts, rfl, hown⟩
  · have HL1 : Hid (Loc W1 X0 #[.int .i64 0, .slice none 0 0, .slice none 0 0, .slice none 0 0, .int .i64 0, .bool false, .int .i64 0, .int .i64 0, .string ⟨#[]⟩, .string ⟨#[]⟩, .string ⟨#[]⟩, .string ⟨#[]⟩, .int .i64 0, .string ⟨#[]⟩, .string ⟨#[]⟩, .string ⟨#[]⟩, .slice none 0 0] 29) := HL0.out.grown (grown_below hb1 none) (by simp)
    have HW : Hid (Below W.heap.size W W1) := below_of (b := W.heap.size) HB0.out (grown_below hb1 _) (Nat.le_refl _)
    clear hb1 HB1 HL0 HB0
    have HNO : Hid (parseText (toks s) = (query0, 3)) := by show _ = _; rw [hno]; rfl
    go_upto_region 3 with fail
    refine wp_region_lit ?_
    refine wpList_zeroQuery rfl rfl ?_
    refine wpList_move rfl rfl ?_
    refine wpList_store_mid rfl 29 _ _ rfl X0 0 #[.int .i64 0, .slice none 0 0, .slice none 0 0, .slice none 0 0, .int .i64 0, .bool false, .int .i64 0, .int .i64 0, .string ⟨#[]⟩, .string ⟨#[]⟩, .string ⟨#[]⟩, .string ⟨#[]⟩, .int .i64 0, .string ⟨#[]⟩, .string ⟨#[]⟩, .string ⟨#[]⟩, .slice none 0 0] rfl rfl HL1.out.there Tryz.sizeQuery z_one ?_
    have hF : Loc (W1.setCells X0 0 (#[.int .i64 0, .slice none 0 0, .slice none 0 0, .slice none 0 0, .int .i64 0, .bool false, .int .i64 0, .int .i64 0, .string ⟨#[]⟩, .string ⟨#[]⟩, .string ⟨#[]⟩, .string ⟨#[]⟩, .int .i64 0, .string ⟨#[]⟩, .string ⟨#[]⟩, .string ⟨#[]⟩, .slice none 0 0] : Array Value).toList) X0 #[.int .i64 0, .slice none 0 0, .slice none 0 0, .slice none 0 0, .int .i64 0, .bool false, .int .i64 0, .int .i64 0, .string ⟨#[]⟩, .string ⟨#[]⟩, .string ⟨#[]⟩, .string ⟨#[]⟩, .int .i64 0, .string ⟨#[]⟩, .string ⟨#[]⟩, .string ⟨#[]⟩, .slice none 0 0] 29 := HL1.out.setAll rfl
    have hG := grown_setMany X0 (#[.int .i64 0, .slice none 0 0, .slice none 0 0, .slice none 0 0, .int .i64 0, .bool false, .int .i64 0, .int .i64 0, .string ⟨#[]⟩, .string ⟨#[]⟩, .string ⟨#[]⟩, .string ⟨#[]⟩, .int .i64 0, .string ⟨#[]⟩, .string ⟨#[]⟩, .string ⟨#[]⟩, .slice none 0 0] : Array Value).toList 0 W1
    obtain ⟨WF, hWF⟩ : ∃ WF, W1.setCells X0 0 (#[.int .i64 0, .slice none 0 0, .slice none 0 0, .slice none 0 0, .int .i64 0, .bool false, .int .i64 0, .int .i64 0, .string ⟨#[]⟩, .string ⟨#[]⟩, .string ⟨#[]⟩, .string ⟨#[]⟩, .int .i64 0, .string ⟨#[]⟩, .string ⟨#[]⟩, .string ⟨#[]⟩, .slice none 0 0] : Array Value).toList = WF := ⟨_, rfl⟩
    rw [hWF] at hF hG ⊢
    clear hWF
    go_wp2_with fail
    refine bodyPost_ret (v := .tuple #[.agg #[.int .i64 0, .slice none 0 0, .slice none 0 0, .slice none 0 0, .int .i64 0, .bool false, .int .i64 0, .int .i64 0, .string ⟨#[]⟩, .string ⟨#[]⟩, .string ⟨#[]⟩, .string ⟨#[]⟩, .int .i64 0, .string ⟨#[]⟩, .string ⟨#[]⟩, .string ⟨#[]⟩, .slice none 0 0], .int .i64 3]) (retQuery Tryz.results14 rfl rfl hF rfl) rfl ⟨?_, .slice none 0 0, .slice none 0 0, .slice none 0 0, .slice none 0 0, ?_, ?_⟩
    · exact below_of (b := X0) HW.out hG hXW
    · rw [HNO.out]; rfl
    · rw [HNO.out]; exact QRows.none _ _
  · rw [hnone] at hts; cases hts

set_option maxRecDepth 100000 in
set_option maxHeartbeats 9000000 in
theorem refParseBad (s : ByteArray) (W : World) (hs : s.size ≤ maxLen) {ts : List Tok} (hts : toks s = some ts) {q0 : PQuery} {s0 : RS} (Hq0 : Hid (queryR ⟨ts, false⟩ = (q0, s0))) (Hbad : Hid (s0.bad = true)) : Calls Tryz.prog 14 #[.string s] W (ParsePost (parseText (toks s)) W) := by
  have hB0 : Below W.heap.size W (W.alloc (.cells #[.int .i64 0, .slice none 0 0, .slice none 0 0, .slice none 0 0, .int .i64 0, .bool false, .int .i64 0, .int .i64 0, .string ⟨#[]⟩, .string ⟨#[]⟩, .string ⟨#[]⟩, .string ⟨#[]⟩, .int .i64 0, .string ⟨#[]⟩, .string ⟨#[]⟩, .string ⟨#[]⟩, .slice none 0 0] 29)) := Below.alloc (Below.refl _ _) (Nat.le_refl _) _
  have L0 := Loc.new W #[.int .i64 0, .slice none 0 0, .slice none 0 0, .slice none 0 0, .int .i64 0, .bool false, .int .i64 0, .int .i64 0, .string ⟨#[]⟩, .string ⟨#[]⟩, .string ⟨#[]⟩, .string ⟨#[]⟩, .int .i64 0, .string ⟨#[]⟩, .string ⟨#[]⟩, .string ⟨#[]⟩, .slice none 0 0] 29
  have HZ := size_alloc W (.cells #[.int .i64 0, .slice none 0 0, .slice none 0 0, .slice none 0 0, .int .i64 0, .bool false, .int .i64 0, .int .i64 0, .string ⟨#[]⟩, .string ⟨#[]⟩, .string ⟨#[]⟩, .string ⟨#[]⟩, .int .i64 0, .string ⟨#[]⟩, .string ⟨#[]⟩, .string ⟨#[]⟩, .slice none 0 0] 29)
  have HB0 := Lib.hid hB0
  have HL0 := Lib.hid L0
  clear hB0 L0
  go_enter Tryz.func14, Tryz.ntmps14
  go_wp2_with fail
  obtain ⟨X0, hX0⟩ : ∃ X0, X0 = W.heap.size := ⟨_, rfl⟩
  rw [← hX0] at HL0 ⊢
  have hXW : W.heap.size ≤ X0 := by omega
  have hXZ : X0 + 1 = (W.alloc (.cells #[.int .i64 0, .slice none 0 0, .slice none 0 0, .slice none 0 0, .int .i64 0, .bool false, .int .i64 0, .int .i64 0, .string ⟨#[]⟩, .string ⟨#[]⟩, .string ⟨#[]⟩, .string ⟨#[]⟩, .int .i64 0, .string ⟨#[]⟩, .string ⟨#[]⟩, .string ⟨#[]⟩, .slice none 0 0] 29)).heap.size := by rw [HZ, hX0]
  clear hX0
  generalize W.alloc (.cells #[.int .i64 0, .slice none 0 0, .slice none 0 0, .slice none 0 0, .int .i64 0, .bool false, .int .i64 0, .int .i64 0, .string ⟨#[]⟩, .string ⟨#[]⟩, .string ⟨#[]⟩, .string ⟨#[]⟩, .int .i64 0, .string ⟨#[]⟩, .string ⟨#[]⟩, .string ⟨#[]⟩, .slice none 0 0] 29) = Wz at HB0 HL0 HZ hXZ ⊢
  refine (refTokensAny s Wz hs).mono ?_
  rintro e W1 ⟨hb1, hr⟩
  have HB1 := Lib.hid hb1
  have hs1 := hb1.size
  rcases hr with ⟨hno, rfl⟩ | ⟨ts', lv, hts2, rfl, hown⟩
  · rw [hts] at hno; cases hno
  · obtain rfl : ts = ts' := by rw [hts] at hts2; exact Option.some.inj hts2
    clear hts2
    have hl := toks_len hts
    obtain ⟨ao, ca, rfl, hca⟩ := row_slice (l := ts) hown
    have HQ0 := Lib.hid (QAt.start hb1 hown hl)
    clear hb1 hown HB1
    go_upto_region 6 with fail
    obtain ⟨x, hx⟩ : ∃ x, x = W1.heap.size + 1 := ⟨_, rfl⟩
    obtain ⟨b, hb⟩ : ∃ b, b = W1.heap.size := ⟨_, rfl⟩
    have hbW : Wz.heap.size ≤ b := by omega
    have hbX : X0 ≠ b := by omega
    rw [← hx, ← hb] at HQ0 ⊢
    clear hx hb hs1
    generalize (W1.alloc (.cells #[.slice ao ts.length ca, .int .i64 0, .bool false] 76)).alloc (.cells #[.int .i64 0, .slice none 0 0, .slice none 0 0, .slice none 0 0, .int .i64 0, .bool false, .int .i64 0, .int .i64 0, .string ⟨#[]⟩, .string ⟨#[]⟩, .string ⟨#[]⟩, .string ⟨#[]⟩, .int .i64 0, .string ⟨#[]⟩, .string ⟨#[]⟩, .string ⟨#[]⟩, .slice none 0 0] 29) = W2 at HQ0 ⊢
    have HQ : Hid (QAt Wz b (.slice ao ts.length ca) ts ⟨ts, false⟩ x (qC query0 (.slice none 0 0) (.slice none 0 0) (.slice none 0 0) (.slice none 0 0)) ⟨(.slice none 0 0), [], (.slice none 0 0), [], (.slice none 0 0), [], (.slice none 0 0), []⟩ W2) := HQ0.out
    clear HQ0
    obtain ⟨m0, hm0⟩ : ∃ m0, peekR kCREATE ⟨ts, false⟩ = m0 := ⟨_, rfl⟩
    have HM0 := Lib.hid hm0
    obtain ⟨s1, hs1⟩ : ∃ s1, hasR kCREATE ⟨ts, false⟩ = s1 := ⟨_, rfl⟩
    have HS1 := Lib.hid hs1
    clear hm0 hs1
    go_wp2_with fail
    refine (has HQ.out.ri kCREATE m0 HM0.out).mono ?_
    rintro e W3 ⟨rfl, h3, g3⟩
    rw [HS1.out] at h3
    have H3 := Lib.hid (HQ.out.call h3 g3)
    clear h3 g3 HQ
    go_upto_region 7 with fail
    go_cut [9] (fun v w => ∃ m s2, v = .bool m ∧ QAt Wz b (.slice ao ts.length ca) ts s2 x (qC query0 (.slice none 0 0) (.slice none 0 0) (.slice none 0 0) (.slice none 0 0)) ⟨(.slice none 0 0), [], (.slice none 0 0), [], (.slice none 0 0), [], (.slice none 0 0), []⟩ w ∧ ((m0 = true ∧ m = false ∧ s2 = s1) ∨ (m0 = false ∧ m = peekR kCALL s1 ∧ s2 = hasR kCALL s1)))
    case first =>
      cases m0 with
      | true =>
        go_wp2_with fail
        go_meet
        case rel => exact ⟨false, s1, rfl, H3.out, Or.inl ⟨trivial, rfl, rfl⟩⟩
      | false =>
        obtain ⟨mc, hmc⟩ : ∃ mc, peekR kCALL s1 = mc := ⟨_, rfl⟩
        have HMC := Lib.hid hmc
        clear hmc
        go_wp2_with fail
        refine (has H3.out.ri kCALL mc HMC.out).mono ?_
        rintro e W4 ⟨rfl, h4, g4⟩
        have H4 := Lib.hid (H3.out.call h4 g4)
        clear h4 g4
        go_wp2_with fail
        go_meet
        case rel => exact ⟨mc, _, rfl, H4.out, Or.inr ⟨trivial, HMC.out.symm, rfl⟩⟩
    case rest =>
      obtain ⟨m, s2, rfl, hq2, hcase⟩ := hcut
      have H4 := Lib.hid hq2
      have HCA := Lib.hid hcase
      clear hq2 hcase H3
      go_upto_block 0 with fail
      go_cut [] (fun w => ∃ q vs vc vi vp s3, QAt Wz b (.slice ao ts.length ca) ts s3 x (qC q vs vc vi vp) ⟨vs, q.spots, vc, q.conds, vi, q.items, vp, q.pairs⟩ w ∧ queryR ⟨ts, false⟩ = (q, s3))
      case first =>
        cases m0 with
        | true =>
          have HE : Hid (s2 = s1) := by rcases HCA.out with ⟨_, _, e⟩ | ⟨e, _⟩; exact e; cases e
          go_wp2_with fail
          refine (make_ H4.out).mono ?_
          rintro e W5 ⟨rfl, vp, hq⟩
          have H5 := Lib.hid hq
          clear hq
          go_wp2_with fail
          go_meet
          case rel => exact ⟨{ query0 with kind := 5, label := (makeR s2).1.1, pairs := (makeR s2).1.2 }, (.slice none 0 0), (.slice none 0 0), (.slice none 0 0), vp, (makeR s2).2, H5.out, by unfold queryR; simp only [HM0.out, HS1.out, if_true, HE.out]⟩
        | false =>
          have HE : Hid (m = peekR kCALL s1 ∧ s2 = hasR kCALL s1) := by rcases HCA.out with ⟨e, _⟩ | ⟨_, a, b⟩; cases e; exact ⟨a, b⟩
          have HE1 : Hid (s1 = ⟨ts, false⟩) := by show _ = _; rw [← HS1.out]; exact hasR_not HM0.out
          cases m with
          | true =>
            obtain ⟨nm, s3, hnm⟩ : ∃ n sz, nameR s2 = (n, sz) := ⟨_, _, rfl⟩
            have HNM := Lib.hid hnm
            have c0 : wc.cell? ⟨x, 0, none⟩ = some (.int .i64 0) := (H4.out.lq.cell 0).trans rfl
            have f0 : wc.frozen? ⟨x, 0, none⟩ = false := H4.out.lq.free 0
            have H5 := Lib.hid (H4.out.set 0 (.int .i64 6))
            clear hnm H4
            go_wp2_with fail
            generalize wc.setCell ⟨x, 0, none⟩ (.int .i64 6) = W5 at H5 ⊢
            clear c0 f0
            refine (nameIs H5.out.ri HNM.out).mono ?_
            rintro e W6 ⟨rfl, h6, g6⟩
            have H6a := H5.out.call h6 g6
            have c8 : W6.cell? ⟨x, 8, none⟩ = some (.string ⟨#[]⟩) := (H6a.lq.cell 8).trans rfl
            have f8 : W6.frozen? ⟨x, 8, none⟩ = false := H6a.lq.free 8
            have H6 := Lib.hid (H6a.set 8 (.string nm))
            clear h6 g6 H6a H5
            go_wp2_with fail
            go_meet
            case rel => exact ⟨{ query0 with kind := 6, name := nm }, (.slice none 0 0), (.slice none 0 0), (.slice none 0 0), (.slice none 0 0), s3, H6.out, by have h1 := HE.out; rw [HE1.out] at h1; unfold queryR; simp only [HM0.out, ← h1.1, ← h1.2, Bool.false_eq_true, if_false, if_true, HNM.out]⟩
          | false =>
            have HE2 : Hid (s2 = ⟨ts, false⟩) := by have h1 := HE.out; show _ = _; rw [h1.2, hasR_not h1.1.symm]; exact HE1.out
            go_wp2_with fail
            refine (match_ H4.out).mono ?_
            rintro e W5 ⟨rfl, vs, vc, hq⟩
            obtain ⟨sp, cd, s3, hms⟩ : ∃ sp cd s3, matchR s2 = ((sp, cd), s3) := ⟨_, _, _, rfl⟩
            rw [hms] at hq
            have HMS := Lib.hid hms
            have H5 := Lib.hid hq
            have q2 : W5.cell? ⟨b, 2, none⟩ = some (.bool s3.bad) := (hq.ri.box.cell 2).trans rfl
            have HQY : Hid (queryR ⟨ts, false⟩ = if s3.bad then ({ query0 with spots := sp, conds := cd }, s3) else behindR { query0 with spots := sp, conds := cd } s3) := by
              have h1 := HE.out.1
              rw [HE1.out] at h1
              show _ = _
              unfold queryR
              have h2 := HMS.out
              rw [HE2.out] at h2
              simp only [HM0.out, ← h1, Bool.false_eq_true, if_false, h2]
            clear hq hms H4
            cases hb3 : s3.bad with
            | true =>
              have HB3 := Lib.hid hb3
              rw [hb3] at q2
              clear hb3
              go_wp2_with fail
              go_meet
              case rel => exact ⟨{ query0 with spots := sp, conds := cd }, vs, vc, (.slice none 0 0), (.slice none 0 0), s3, H5.out, by rw [HQY.out, HB3.out]; rfl⟩
            | false =>
              have HB3 := Lib.hid hb3
              rw [hb3] at q2
              clear hb3
              go_wp2_with fail
              refine (behind H5.out).mono ?_
              rintro e W6 ⟨rfl, vi, hq⟩
              have H6 := Lib.hid hq
              clear hq q2
              go_wp2_with fail
              go_meet
              case rel =>
                refine ⟨(behindR { query0 with spots := sp, conds := cd } s3).1, vs, vc, vi, (.slice none 0 0), (behindR { query0 with spots := sp, conds := cd } s3).2, ?_, by rw [HQY.out, HB3.out]; rfl⟩
                have e1 := behindR_keeps { query0 with spots := sp, conds := cd } s3
                rw [e1.1, e1.2.1, e1.2.2]
                exact H6.out
      case rest =>
        clear H4 HCA
        obtain ⟨q, vs, vc, vi, vp, s3, hq, hqy⟩ := hcut
        obtain ⟨a1, k1, rfl, _⟩ := row_slice (l := q.spots) hq.rs
        obtain ⟨a2, k2, rfl, _⟩ := row_slice (l := q.conds) hq.rc
        obtain ⟨a3, k3, rfl, _⟩ := row_slice (l := q.items) hq.rt
        obtain ⟨a4, k4, rfl, _⟩ := row_slice (l := q.pairs) hq.rp
        have HLc : Hid (Loc wc X0 #[.int .i64 0, .slice none 0 0, .slice none 0 0, .slice none 0 0, .int .i64 0, .bool false, .int .i64 0, .int .i64 0, .string ⟨#[]⟩, .string ⟨#[]⟩, .string ⟨#[]⟩, .string ⟨#[]⟩, .int .i64 0, .string ⟨#[]⟩, .string ⟨#[]⟩, .string ⟨#[]⟩, .slice none 0 0] 29) := HL0.out.grown hq.grown (by intro e; injection e with e; exact hbX e)
        have HWc : Hid (Below W.heap.size W wc) := below_of HB0.out hq.grown (by omega)
        have HQY := Lib.hid hqy
        have HX : Hid (Loc wc x (qC q (.slice a1 q.spots.length k1) (.slice a2 q.conds.length k2) (.slice a3 q.items.length k3) (.slice a4 q.pairs.length k4)) 29) := hq.lq
        have HR : Hid (QRows Wz.heap.size q (.slice a1 q.spots.length k1) (.slice a2 q.conds.length k2) (.slice a3 q.items.length k3) (.slice a4 q.pairs.length k4) wc) := ⟨hq.rs, hq.rc, hq.rt, hq.rp⟩
        obtain ⟨_, _, k, _, _, _, hk, hkl, _, b1, b2, _⟩ := hq.ri.seen
        clear hq HL0 HB0
        have hqq : q0 = q ∧ s0 = s3 := by rw [Hq0.out] at hqy; exact ⟨congrArg Prod.fst hqy, congrArg Prod.snd hqy⟩
        clear hqy
        have hbad : s3.bad = true := by rw [← hqq.2]; exact Hbad.out
        clear hqq
        have HWHY : Hid (parseText (toks s) = (query0, 3)) := by show _ = _; rw [hts]; unfold parseText parseR; simp only [HQY.out, hbad]; rfl
        rw [hbad] at b2
        clear hbad
        go_upto_region 17 with fail
        refine wp_region_lit ?_
        refine wpList_zeroQuery rfl rfl ?_
        refine wpList_store_mid rfl 29 _ _ rfl X0 0 #[.int .i64 0, .slice none 0 0, .slice none 0 0, .slice none 0 0, .int .i64 0, .bool false, .int .i64 0, .int .i64 0, .string ⟨#[]⟩, .string ⟨#[]⟩, .string ⟨#[]⟩, .string ⟨#[]⟩, .int .i64 0, .string ⟨#[]⟩, .string ⟨#[]⟩, .string ⟨#[]⟩, .slice none 0 0] rfl rfl HLc.out.there Tryz.sizeQuery z_one ?_
        have hF : Loc (wc.setCells X0 0 (#[.int .i64 0, .slice none 0 0, .slice none 0 0, .slice none 0 0, .int .i64 0, .bool false, .int .i64 0, .int .i64 0, .string ⟨#[]⟩, .string ⟨#[]⟩, .string ⟨#[]⟩, .string ⟨#[]⟩, .int .i64 0, .string ⟨#[]⟩, .string ⟨#[]⟩, .string ⟨#[]⟩, .slice none 0 0] : Array Value).toList) X0 #[.int .i64 0, .slice none 0 0, .slice none 0 0, .slice none 0 0, .int .i64 0, .bool false, .int .i64 0, .int .i64 0, .string ⟨#[]⟩, .string ⟨#[]⟩, .string ⟨#[]⟩, .string ⟨#[]⟩, .int .i64 0, .string ⟨#[]⟩, .string ⟨#[]⟩, .string ⟨#[]⟩, .slice none 0 0] 29 := HLc.out.setAll rfl
        have hG := grown_setMany X0 (#[.int .i64 0, .slice none 0 0, .slice none 0 0, .slice none 0 0, .int .i64 0, .bool false, .int .i64 0, .int .i64 0, .string ⟨#[]⟩, .string ⟨#[]⟩, .string ⟨#[]⟩, .string ⟨#[]⟩, .int .i64 0, .string ⟨#[]⟩, .string ⟨#[]⟩, .string ⟨#[]⟩, .slice none 0 0] : Array Value).toList 0 wc
        obtain ⟨WF, hWF⟩ : ∃ WF, wc.setCells X0 0 (#[.int .i64 0, .slice none 0 0, .slice none 0 0, .slice none 0 0, .int .i64 0, .bool false, .int .i64 0, .int .i64 0, .string ⟨#[]⟩, .string ⟨#[]⟩, .string ⟨#[]⟩, .string ⟨#[]⟩, .int .i64 0, .string ⟨#[]⟩, .string ⟨#[]⟩, .string ⟨#[]⟩, .slice none 0 0] : Array Value).toList = WF := ⟨_, rfl⟩
        rw [hWF] at hF hG ⊢
        clear hWF
        go_wp2_with fail
        refine bodyPost_ret (v := .tuple #[.agg #[.int .i64 0, .slice none 0 0, .slice none 0 0, .slice none 0 0, .int .i64 0, .bool false, .int .i64 0, .int .i64 0, .string ⟨#[]⟩, .string ⟨#[]⟩, .string ⟨#[]⟩, .string ⟨#[]⟩, .int .i64 0, .string ⟨#[]⟩, .string ⟨#[]⟩, .string ⟨#[]⟩, .slice none 0 0], .int .i64 3]) (retQuery Tryz.results14 rfl rfl hF rfl) rfl ⟨?_, .slice none 0 0, .slice none 0 0, .slice none 0 0, .slice none 0 0, ?_, ?_⟩
        · exact below_of (b := X0) HWc.out hG hXW
        · rw [HWHY.out]; rfl
        · rw [HWHY.out]; exact QRows.none _ _


set_option maxRecDepth 100000 in
set_option maxHeartbeats 9000000 in
theorem refParseRest (s : ByteArray) (W : World) (hs : s.size ≤ maxLen) {ts : List Tok} (hts : toks s = some ts) {q0 : PQuery} {s0 : RS} (Hq0 : Hid (queryR ⟨ts, false⟩ = (q0, s0))) (Hbad : Hid (s0.bad = false)) (Hr0 : Hid (¬ s0.rest.length = 0)) : Calls Tryz.prog 14 #[.string s] W (ParsePost (parseText (toks s)) W) := by
  have hB0 : Below W.heap.size W (W.alloc (.cells #[.int .i64 0, .slice none 0 0, .slice none 0 0, .slice none 0 0, .int .i64 0, .bool false, .int .i64 0, .int .i64 0, .string ⟨#[]⟩, .string ⟨#[]⟩, .string ⟨#[]⟩, .string ⟨#[]⟩, .int .i64 0, .string ⟨#[]⟩, .string ⟨#[]⟩, .string ⟨#[]⟩, .slice none 0 0] 29)) := Below.alloc (Below.refl _ _) (Nat.le_refl _) _
  have L0 := Loc.new W #[.int .i64 0, .slice none 0 0, .slice none 0 0, .slice none 0 0, .int .i64 0, .bool false, .int .i64 0, .int .i64 0, .string ⟨#[]⟩, .string ⟨#[]⟩, .string ⟨#[]⟩, .string ⟨#[]⟩, .int .i64 0, .string ⟨#[]⟩, .string ⟨#[]⟩, .string ⟨#[]⟩, .slice none 0 0] 29
  have HZ := size_alloc W (.cells #[.int .i64 0, .slice none 0 0, .slice none 0 0, .slice none 0 0, .int .i64 0, .bool false, .int .i64 0, .int .i64 0, .string ⟨#[]⟩, .string ⟨#[]⟩, .string ⟨#[]⟩, .string ⟨#[]⟩, .int .i64 0, .string ⟨#[]⟩, .string ⟨#[]⟩, .string ⟨#[]⟩, .slice none 0 0] 29)
  have HB0 := Lib.hid hB0
  have HL0 := Lib.hid L0
  clear hB0 L0
  go_enter Tryz.func14, Tryz.ntmps14
  go_wp2_with fail
  obtain ⟨X0, hX0⟩ : ∃ X0, X0 = W.heap.size := ⟨_, rfl⟩
  rw [← hX0] at HL0 ⊢
  have hXW : W.heap.size ≤ X0 := by omega
  have hXZ : X0 + 1 = (W.alloc (.cells #[.int .i64 0, .slice none 0 0, .slice none 0 0, .slice none 0 0, .int .i64 0, .bool false, .int .i64 0, .int .i64 0, .string ⟨#[]⟩, .string ⟨#[]⟩, .string ⟨#[]⟩, .string ⟨#[]⟩, .int .i64 0, .string ⟨#[]⟩, .string ⟨#[]⟩, .string ⟨#[]⟩, .slice none 0 0] 29)).heap.size := by rw [HZ, hX0]
  clear hX0
  generalize W.alloc (.cells #[.int .i64 0, .slice none 0 0, .slice none 0 0, .slice none 0 0, .int .i64 0, .bool false, .int .i64 0, .int .i64 0, .string ⟨#[]⟩, .string ⟨#[]⟩, .string ⟨#[]⟩, .string ⟨#[]⟩, .int .i64 0, .string ⟨#[]⟩, .string ⟨#[]⟩, .string ⟨#[]⟩, .slice none 0 0] 29) = Wz at HB0 HL0 HZ hXZ ⊢
  refine (refTokensAny s Wz hs).mono ?_
  rintro e W1 ⟨hb1, hr⟩
  have HB1 := Lib.hid hb1
  have hs1 := hb1.size
  rcases hr with ⟨hno, rfl⟩ | ⟨ts', lv, hts2, rfl, hown⟩
  · rw [hts] at hno; cases hno
  · obtain rfl : ts = ts' := by rw [hts] at hts2; exact Option.some.inj hts2
    clear hts2
    have hl := toks_len hts
    obtain ⟨ao, ca, rfl, hca⟩ := row_slice (l := ts) hown
    have HQ0 := Lib.hid (QAt.start hb1 hown hl)
    clear hb1 hown HB1
    go_upto_region 6 with fail
    obtain ⟨x, hx⟩ : ∃ x, x = W1.heap.size + 1 := ⟨_, rfl⟩
    obtain ⟨b, hb⟩ : ∃ b, b = W1.heap.size := ⟨_, rfl⟩
    have hbW : Wz.heap.size ≤ b := by omega
    have hbX : X0 ≠ b := by omega
    rw [← hx, ← hb] at HQ0 ⊢
    clear hx hb hs1
    generalize (W1.alloc (.cells #[.slice ao ts.length ca, .int .i64 0, .bool false] 76)).alloc (.cells #[.int .i64 0, .slice none 0 0, .slice none 0 0, .slice none 0 0, .int .i64 0, .bool false, .int .i64 0, .int .i64 0, .string ⟨#[]⟩, .string ⟨#[]⟩, .string ⟨#[]⟩, .string ⟨#[]⟩, .int .i64 0, .string ⟨#[]⟩, .string ⟨#[]⟩, .string ⟨#[]⟩, .slice none 0 0] 29) = W2 at HQ0 ⊢
    have HQ : Hid (QAt Wz b (.slice ao ts.length ca) ts ⟨ts, false⟩ x (qC query0 (.slice none 0 0) (.slice none 0 0) (.slice none 0 0) (.slice none 0 0)) ⟨(.slice none 0 0), [], (.slice none 0 0), [], (.slice none 0 0), [], (.slice none 0 0), []⟩ W2) := HQ0.out
    clear HQ0
    obtain ⟨m0, hm0⟩ : ∃ m0, peekR kCREATE ⟨ts, false⟩ = m0 := ⟨_, rfl⟩
    have HM0 := Lib.hid hm0
    obtain ⟨s1, hs1⟩ : ∃ s1, hasR kCREATE ⟨ts, false⟩ = s1 := ⟨_, rfl⟩
    have HS1 := Lib.hid hs1
    clear hm0 hs1
    go_wp2_with fail
    refine (has HQ.out.ri kCREATE m0 HM0.out).mono ?_
    rintro e W3 ⟨rfl, h3, g3⟩
    rw [HS1.out] at h3
    have H3 := Lib.hid (HQ.out.call h3 g3)
    clear h3 g3 HQ
    go_upto_region 7 with fail
    go_cut [9] (fun v w => ∃ m s2, v = .bool m ∧ QAt Wz b (.slice ao ts.length ca) ts s2 x (qC query0 (.slice none 0 0) (.slice none 0 0) (.slice none 0 0) (.slice none 0 0)) ⟨(.slice none 0 0), [], (.slice none 0 0), [], (.slice none 0 0), [], (.slice none 0 0), []⟩ w ∧ ((m0 = true ∧ m = false ∧ s2 = s1) ∨ (m0 = false ∧ m = peekR kCALL s1 ∧ s2 = hasR kCALL s1)))
    case first =>
      cases m0 with
      | true =>
        go_wp2_with fail
        go_meet
        case rel => exact ⟨false, s1, rfl, H3.out, Or.inl ⟨trivial, rfl, rfl⟩⟩
      | false =>
        obtain ⟨mc, hmc⟩ : ∃ mc, peekR kCALL s1 = mc := ⟨_, rfl⟩
        have HMC := Lib.hid hmc
        clear hmc
        go_wp2_with fail
        refine (has H3.out.ri kCALL mc HMC.out).mono ?_
        rintro e W4 ⟨rfl, h4, g4⟩
        have H4 := Lib.hid (H3.out.call h4 g4)
        clear h4 g4
        go_wp2_with fail
        go_meet
        case rel => exact ⟨mc, _, rfl, H4.out, Or.inr ⟨trivial, HMC.out.symm, rfl⟩⟩
    case rest =>
      obtain ⟨m, s2, rfl, hq2, hcase⟩ := hcut
      have H4 := Lib.hid hq2
      have HCA := Lib.hid hcase
      clear hq2 hcase H3
      go_upto_block 0 with fail
      go_cut [] (fun w => ∃ q vs vc vi vp s3, QAt Wz b (.slice ao ts.length ca) ts s3 x (qC q vs vc vi vp) ⟨vs, q.spots, vc, q.conds, vi, q.items, vp, q.pairs⟩ w ∧ queryR ⟨ts, false⟩ = (q, s3))
      case first =>
        cases m0 with
        | true =>
          have HE : Hid (s2 = s1) := by rcases HCA.out with ⟨_, _, e⟩ | ⟨e, _⟩; exact e; cases e
          go_wp2_with fail
          refine (make_ H4.out).mono ?_
          rintro e W5 ⟨rfl, vp, hq⟩
          have H5 := Lib.hid hq
          clear hq
          go_wp2_with fail
          go_meet
          case rel => exact ⟨{ query0 with kind := 5, label := (makeR s2).1.1, pairs := (makeR s2).1.2 }, (.slice none 0 0), (.slice none 0 0), (.slice none 0 0), vp, (makeR s2).2, H5.out, by unfold queryR; simp only [HM0.out, HS1.out, if_true, HE.out]⟩
        | false =>
          have HE : Hid (m = peekR kCALL s1 ∧ s2 = hasR kCALL s1) := by rcases HCA.out with ⟨e, _⟩ | ⟨_, a, b⟩; cases e; exact ⟨a, b⟩
          have HE1 : Hid (s1 = ⟨ts, false⟩) := by show _ = _; rw [← HS1.out]; exact hasR_not HM0.out
          cases m with
          | true =>
            obtain ⟨nm, s3, hnm⟩ : ∃ n sz, nameR s2 = (n, sz) := ⟨_, _, rfl⟩
            have HNM := Lib.hid hnm
            have c0 : wc.cell? ⟨x, 0, none⟩ = some (.int .i64 0) := (H4.out.lq.cell 0).trans rfl
            have f0 : wc.frozen? ⟨x, 0, none⟩ = false := H4.out.lq.free 0
            have H5 := Lib.hid (H4.out.set 0 (.int .i64 6))
            clear hnm H4
            go_wp2_with fail
            generalize wc.setCell ⟨x, 0, none⟩ (.int .i64 6) = W5 at H5 ⊢
            clear c0 f0
            refine (nameIs H5.out.ri HNM.out).mono ?_
            rintro e W6 ⟨rfl, h6, g6⟩
            have H6a := H5.out.call h6 g6
            have c8 : W6.cell? ⟨x, 8, none⟩ = some (.string ⟨#[]⟩) := (H6a.lq.cell 8).trans rfl
            have f8 : W6.frozen? ⟨x, 8, none⟩ = false := H6a.lq.free 8
            have H6 := Lib.hid (H6a.set 8 (.string nm))
            clear h6 g6 H6a H5
            go_wp2_with fail
            go_meet
            case rel => exact ⟨{ query0 with kind := 6, name := nm }, (.slice none 0 0), (.slice none 0 0), (.slice none 0 0), (.slice none 0 0), s3, H6.out, by have h1 := HE.out; rw [HE1.out] at h1; unfold queryR; simp only [HM0.out, ← h1.1, ← h1.2, Bool.false_eq_true, if_false, if_true, HNM.out]⟩
          | false =>
            have HE2 : Hid (s2 = ⟨ts, false⟩) := by have h1 := HE.out; show _ = _; rw [h1.2, hasR_not h1.1.symm]; exact HE1.out
            go_wp2_with fail
            refine (match_ H4.out).mono ?_
            rintro e W5 ⟨rfl, vs, vc, hq⟩
            obtain ⟨sp, cd, s3, hms⟩ : ∃ sp cd s3, matchR s2 = ((sp, cd), s3) := ⟨_, _, _, rfl⟩
            rw [hms] at hq
            have HMS := Lib.hid hms
            have H5 := Lib.hid hq
            have q2 : W5.cell? ⟨b, 2, none⟩ = some (.bool s3.bad) := (hq.ri.box.cell 2).trans rfl
            have HQY : Hid (queryR ⟨ts, false⟩ = if s3.bad then ({ query0 with spots := sp, conds := cd }, s3) else behindR { query0 with spots := sp, conds := cd } s3) := by
              have h1 := HE.out.1
              rw [HE1.out] at h1
              show _ = _
              unfold queryR
              have h2 := HMS.out
              rw [HE2.out] at h2
              simp only [HM0.out, ← h1, Bool.false_eq_true, if_false, h2]
            clear hq hms H4
            cases hb3 : s3.bad with
            | true =>
              have HB3 := Lib.hid hb3
              rw [hb3] at q2
              clear hb3
              go_wp2_with fail
              go_meet
              case rel => exact ⟨{ query0 with spots := sp, conds := cd }, vs, vc, (.slice none 0 0), (.slice none 0 0), s3, H5.out, by rw [HQY.out, HB3.out]; rfl⟩
            | false =>
              have HB3 := Lib.hid hb3
              rw [hb3] at q2
              clear hb3
              go_wp2_with fail
              refine (behind H5.out).mono ?_
              rintro e W6 ⟨rfl, vi, hq⟩
              have H6 := Lib.hid hq
              clear hq q2
              go_wp2_with fail
              go_meet
              case rel =>
                refine ⟨(behindR { query0 with spots := sp, conds := cd } s3).1, vs, vc, vi, (.slice none 0 0), (behindR { query0 with spots := sp, conds := cd } s3).2, ?_, by rw [HQY.out, HB3.out]; rfl⟩
                have e1 := behindR_keeps { query0 with spots := sp, conds := cd } s3
                rw [e1.1, e1.2.1, e1.2.2]
                exact H6.out
      case rest =>
        clear H4 HCA
        obtain ⟨q, vs, vc, vi, vp, s3, hq, hqy⟩ := hcut
        obtain ⟨a1, k1, rfl, _⟩ := row_slice (l := q.spots) hq.rs
        obtain ⟨a2, k2, rfl, _⟩ := row_slice (l := q.conds) hq.rc
        obtain ⟨a3, k3, rfl, _⟩ := row_slice (l := q.items) hq.rt
        obtain ⟨a4, k4, rfl, _⟩ := row_slice (l := q.pairs) hq.rp
        have HLc : Hid (Loc wc X0 #[.int .i64 0, .slice none 0 0, .slice none 0 0, .slice none 0 0, .int .i64 0, .bool false, .int .i64 0, .int .i64 0, .string ⟨#[]⟩, .string ⟨#[]⟩, .string ⟨#[]⟩, .string ⟨#[]⟩, .int .i64 0, .string ⟨#[]⟩, .string ⟨#[]⟩, .string ⟨#[]⟩, .slice none 0 0] 29) := HL0.out.grown hq.grown (by intro e; injection e with e; exact hbX e)
        have HWc : Hid (Below W.heap.size W wc) := below_of HB0.out hq.grown (by omega)
        have HQY := Lib.hid hqy
        have HX : Hid (Loc wc x (qC q (.slice a1 q.spots.length k1) (.slice a2 q.conds.length k2) (.slice a3 q.items.length k3) (.slice a4 q.pairs.length k4)) 29) := hq.lq
        have HR : Hid (QRows Wz.heap.size q (.slice a1 q.spots.length k1) (.slice a2 q.conds.length k2) (.slice a3 q.items.length k3) (.slice a4 q.pairs.length k4) wc) := ⟨hq.rs, hq.rc, hq.rt, hq.rp⟩
        obtain ⟨_, _, k, _, _, _, hk, hkl, _, b1, b2, _⟩ := hq.ri.seen
        clear hq HL0 HB0
        have hqq : q0 = q ∧ s0 = s3 := by rw [Hq0.out] at hqy; exact ⟨congrArg Prod.fst hqy, congrArg Prod.snd hqy⟩
        clear hqy
        have hbad : s3.bad = false := by rw [← hqq.2]; exact Hbad.out
        have hr0 : ¬ s3.rest.length = 0 := by rw [← hqq.2]; exact Hr0.out
        clear hqq
        rw [hbad] at b2
        have hkt : ¬ (k : Int) = (ts.length : Int) := by omega
        have hre : s3.rest.isEmpty = false := by cases hr : s3.rest with | nil => rw [hr] at hr0; exact absurd rfl hr0 | cons a l => rfl
        have HWHY : Hid (parseText (toks s) = (query0, 3)) := by show _ = _; rw [hts]; unfold parseText parseR; simp only [HQY.out, hre]; simp
        clear hbad hr0 hre
        go_upto_region 17 with fail
        refine wp_region_lit ?_
        refine wpList_zeroQuery rfl rfl ?_
        refine wpList_store_mid rfl 29 _ _ rfl X0 0 #[.int .i64 0, .slice none 0 0, .slice none 0 0, .slice none 0 0, .int .i64 0, .bool false, .int .i64 0, .int .i64 0, .string ⟨#[]⟩, .string ⟨#[]⟩, .string ⟨#[]⟩, .string ⟨#[]⟩, .int .i64 0, .string ⟨#[]⟩, .string ⟨#[]⟩, .string ⟨#[]⟩, .slice none 0 0] rfl rfl HLc.out.there Tryz.sizeQuery z_one ?_
        have hF : Loc (wc.setCells X0 0 (#[.int .i64 0, .slice none 0 0, .slice none 0 0, .slice none 0 0, .int .i64 0, .bool false, .int .i64 0, .int .i64 0, .string ⟨#[]⟩, .string ⟨#[]⟩, .string ⟨#[]⟩, .string ⟨#[]⟩, .int .i64 0, .string ⟨#[]⟩, .string ⟨#[]⟩, .string ⟨#[]⟩, .slice none 0 0] : Array Value).toList) X0 #[.int .i64 0, .slice none 0 0, .slice none 0 0, .slice none 0 0, .int .i64 0, .bool false, .int .i64 0, .int .i64 0, .string ⟨#[]⟩, .string ⟨#[]⟩, .string ⟨#[]⟩, .string ⟨#[]⟩, .int .i64 0, .string ⟨#[]⟩, .string ⟨#[]⟩, .string ⟨#[]⟩, .slice none 0 0] 29 := HLc.out.setAll rfl
        have hG := grown_setMany X0 (#[.int .i64 0, .slice none 0 0, .slice none 0 0, .slice none 0 0, .int .i64 0, .bool false, .int .i64 0, .int .i64 0, .string ⟨#[]⟩, .string ⟨#[]⟩, .string ⟨#[]⟩, .string ⟨#[]⟩, .int .i64 0, .string ⟨#[]⟩, .string ⟨#[]⟩, .string ⟨#[]⟩, .slice none 0 0] : Array Value).toList 0 wc
        obtain ⟨WF, hWF⟩ : ∃ WF, wc.setCells X0 0 (#[.int .i64 0, .slice none 0 0, .slice none 0 0, .slice none 0 0, .int .i64 0, .bool false, .int .i64 0, .int .i64 0, .string ⟨#[]⟩, .string ⟨#[]⟩, .string ⟨#[]⟩, .string ⟨#[]⟩, .int .i64 0, .string ⟨#[]⟩, .string ⟨#[]⟩, .string ⟨#[]⟩, .slice none 0 0] : Array Value).toList = WF := ⟨_, rfl⟩
        rw [hWF] at hF hG ⊢
        clear hWF
        go_wp2_with fail
        refine bodyPost_ret (v := .tuple #[.agg #[.int .i64 0, .slice none 0 0, .slice none 0 0, .slice none 0 0, .int .i64 0, .bool false, .int .i64 0, .int .i64 0, .string ⟨#[]⟩, .string ⟨#[]⟩, .string ⟨#[]⟩, .string ⟨#[]⟩, .int .i64 0, .string ⟨#[]⟩, .string ⟨#[]⟩, .string ⟨#[]⟩, .slice none 0 0], .int .i64 3]) (retQuery Tryz.results14 rfl rfl hF rfl) rfl ⟨?_, .slice none 0 0, .slice none 0 0, .slice none 0 0, .slice none 0 0, ?_, ?_⟩
        · exact below_of (b := X0) HWc.out hG hXW
        · rw [HWHY.out]; rfl
        · rw [HWHY.out]; exact QRows.none _ _

end Go.Proofs.YtobgbmfpicmpcaaGreatDoor

