/- The law Written is proved: for every choice, every two numbers and every text the call returns true and the four read as they did; the package variables that the row lists are tied to the program's own text by the given tie. -/
import Derived.Test.YtobgbmfpicmpcaaGreatDoorCards
import Derived.Test.YtobgbmfpicmpcaaGreatDoorTie
import Derived.ProofKit
import Derived.LaidMore
import Derived.LaidSub
import Derived.OpenShut
import Derived.Stop.Joined
import Derived.Stop.LaidErr
import Derived.SevenTiedAt
import Derived.Carry
import Derived.Lib.LaidTab
import Derived.Test.YtobgbmfpicmpcaaGreatDoorC17
namespace Go.Proofs.YtobgbmfpicmpcaaGreatDoor
open Go.RowKit

theorem term_fits {t : PTerm} (h : GoodTerm t) : I64 t.val := by
  rcases h with ⟨_, _, h⟩ | ⟨_, _, h⟩
  · exact ⟨by have := h.1; omega, by have := h.2; omega⟩
  · rw [h]; exact ⟨by omega, by omega⟩
theorem match_fits {q : PQuery} (h : GoodMatch q) : (∀ s ∈ q.spots, I64 s.least ∧ I64 s.most) ∧ (∀ c ∈ q.conds, I64 c.a.val ∧ I64 c.b.val) := by
  refine ⟨fun s hs => ?_, fun c hc => ?_⟩
  · rcases (h.spots s hs).typ with ⟨_, a, b⟩ | ⟨_, a, b, c⟩
    · rw [a, b]; exact ⟨⟨by omega, by omega⟩, ⟨by omega, by omega⟩⟩
    · exact ⟨⟨by omega, by omega⟩, ⟨by omega, by omega⟩⟩
  · have hg := h.conds c hc
    refine ⟨term_fits hg.lef, ?_⟩
    rcases hg.rig with ⟨_, hb⟩ | ⟨_, hb⟩
    · exact term_fits hb
    · rw [hb]; exact ⟨by simp [term0], by simp [term0]⟩
theorem i64_0 : I64 0 := ⟨by omega, by omega⟩
theorem good_fits {q : PQuery} (h : GoodQ q) : QFits q := by
  rcases h with h | h | h | h | h | h
  · obtain ⟨hm, _, _, hl, o0, o1, _, s0, s1, li, e⟩ := h
    obtain ⟨a, b⟩ := match_fits hm
    refine ⟨a, b, ?_, ?_, ⟨by omega, by omega⟩, ⟨by omega, by omega⟩, ⟨by omega, by omega⟩⟩
    · rw [e]; intro p hp; cases hp
    · rw [e]; exact i64_0
  · obtain ⟨hm, _, _, hv, e⟩ := h
    obtain ⟨a, b⟩ := match_fits hm
    refine ⟨a, b, ?_, term_fits hv, ?_, ?_, ?_⟩
    · rw [e]; intro p hp; cases hp
    all_goals (rw [e]; exact i64_0)
  · obtain ⟨hm, _, e⟩ := h
    obtain ⟨a, b⟩ := match_fits hm
    refine ⟨a, b, ?_, ?_, ?_, ?_, ?_⟩
    · rw [e]; intro p hp; cases hp
    all_goals (rw [e]; exact i64_0)
  · obtain ⟨hm, _, _, _, e⟩ := h
    obtain ⟨a, b⟩ := match_fits hm
    refine ⟨a, b, ?_, ?_, ?_, ?_, ?_⟩
    · rw [e]; intro p hp; cases hp
    all_goals (rw [e]; exact i64_0)
  · obtain ⟨_, hp, _, _, e⟩ := h
    refine ⟨?_, ?_, ?_, ?_, ?_, ?_, ?_⟩
    · rw [e]; intro p hp; cases hp
    · rw [e]; intro p hp; cases hp
    · intro p hpp
      have := (hp p hpp).2
      exact ⟨by have := this.1; omega, by have := this.2; omega⟩
    all_goals (rw [e]; exact i64_0)
  · obtain ⟨_, e⟩ := h
    refine ⟨?_, ?_, ?_, ?_, ?_, ?_, ?_⟩
    · rw [e]; intro p hp; cases hp
    · rw [e]; intro p hp; cases hp
    · rw [e]; intro p hp; cases hp
    all_goals (rw [e]; exact i64_0)
/-- A good query in scope is read as it was written. -/
theorem parse_good {q : PQuery} (h : GoodQ q) (hs : inScopeP q = true) : parseText (toks ⟨(joined (queryW q)).toArray⟩) = (q, 0) := by
  have ht : toks ⟨(joined (queryW q)).toArray⟩ = some (Pure.K (queryW q)) := by
    unfold toks
    rw [if_neg (by have := Pure.size_written h; omega), Pure.run_written h]
  rw [parseText_eq ht]
  unfold parseP
  simp only [Pure.query_ok h, hs]
  rfl
theorem few_good {q : PQuery} (h : GoodQ q) : tooMany q = false := by
  obtain ⟨a, b, c, d⟩ := good_small h
  unfold tooMany
  simp only [Bool.or_eq_false_iff, decide_eq_false_iff_not]
  omega
theorem fmt_good {q : PQuery} (h : GoodQ q) (hs : inScopeP q = true) : fmtOf toks (joined (queryW q)) q = (⟨(joined (queryW q)).toArray⟩, 0) := by
  unfold fmtOf
  rw [few_good h, parse_good h hs]
  simp [Pure.eqQ_iff.2 rfl]
theorem len_good {q : PQuery} (h : GoodQ q) : (joined (queryW q)).length ≤ 140737488355328 := by
  have := Pure.joined_len (Pure.wl_query h)
  omega
/-- What Parse answers is good and in scope, or an error. -/
theorem parse_cases (s : ByteArray) : ((parseText (toks s)).2 = 0 ∧ GoodQ (parseText (toks s)).1 ∧ inScopeP (parseText (toks s)).1 = true) ∨ (parseText (toks s)).2 = 3 ∨ (parseText (toks s)).2 = 4 := by
  cases ht : toks s with
  | none => right; left; rfl
  | some ts =>
    have h := parseText_eq ht
    rw [ht] at h
    rw [h]
    by_cases he : (parseP ts).2 = 0
    · left
      refine ⟨he, (Pure.round_trip he).2, ?_⟩
      revert he
      unfold parseP
      simp only
      split
      · simp
      · split
        · intro _; assumption
        · simp
    · right
      revert he
      unfold parseP
      simp only
      split
      · simp
      · split <;> simp

set_option maxRecDepth 100000 in
set_option maxHeartbeats 4000000 in
theorem writtenBad {W : World} {c wh it : Int} {s : ByteArray} {ev : Value} (hc : I64 c) (hw : I64 wh) (hi : I64 it) (ht : Tab W) (hg : W.cell? ⟨5, 0, none⟩ = some ev) (hev : ev = .nilIface ∨ ∃ te pe, ev = .iface te pe) (hm : s.size ≤ maxLen) {p : PQuery} {er : Int} (HR : Hid (parseText (toks s) = (p, er))) (he : er = 3 ∨ er = 4) :
    Calls Tryz.prog 7 #[.int .i64 c, .int .i64 wh, .int .i64 it, .string s] W fun e W' => e = .returned (.bool true) ∧ Below W.heap.size W W' := by
  have HC := Lib.hid hc
  have HWH := Lib.hid hw
  have HIT := Lib.hid hi
  have HT := Lib.hid ht
  have HG := Lib.hid hg
  have HEV := Lib.hid hev
  have HM := Lib.hid hm
  have hlt : (⟨5, 0, none⟩ : Addr).block < W.heap.size := Lib.lt_of_cell hg
  have HLT := Lib.hid hlt
  obtain ⟨q, hq⟩ : ∃ q, krQ c wh it = q := ⟨_, rfl⟩
  have hgq := Pure.kr_good c wh it
  have hsq := Pure.kr_scope c wh it
  rw [hq] at hgq hsq
  obtain ⟨t, htx⟩ : ∃ t, krText c wh it = t := ⟨_, rfl⟩
  have hte : t = ⟨(joined (queryW q)).toArray⟩ := by rw [← htx, ← hq]; rfl
  have HTX := Lib.hid htx
  have HP : Hid (parseText (toks t) = (q, 0)) := by show _ = _; rw [hte]; exact parse_good hgq hsq
  have HF : Hid (fmtOf toks (joined (queryW q)) q = (t, 0)) := by show _ = _; rw [hte]; exact fmt_good hgq hsq
  have HZ : Hid (t.size ≤ maxLen) := by show _ ≤ _; rw [hte]; have := Pure.size_written hgq; unfold maxLen; omega
  have HGQ := Lib.hid hgq
  clear hc hw hi ht hg hev hm hlt hq hgq hsq htx hte
  go_enter Tryz.func7, Tryz.ntmps7
  go_wp2_with fail
  refine (read_K HC.out HWH.out HIT.out HT.out).mono ?_
  rw [HTX.out]
  rintro e W1 ⟨rfl, hb1⟩
  have HB1 := Lib.hid hb1
  clear hb1
  go_wp2_with fail
  refine (progParse t W1 ((HB1.out.cell HLT.out).trans HG.out) HEV.out HZ.out).mono ?_
  rw [HP.out]
  rintro e W2 ⟨hb, vs, vc, vi, vp, rfl, hrows⟩
  simp only at hrows ⊢
  obtain ⟨a11, k11, rfl, m1⟩ := row_slice (l := q.spots) hrows.rs
  obtain ⟨a12, k12, rfl, m2⟩ := row_slice (l := q.conds) hrows.rc
  obtain ⟨a13, k13, rfl, m3⟩ := row_slice (l := q.items) hrows.rt
  obtain ⟨a14, k14, rfl, m4⟩ := row_slice (l := q.pairs) hrows.rp
  clear m1 m2 m3 m4
  have kb := kept_below (w := W2) (cs := (qC q (.slice a11 q.spots.length k11) (.slice a12 q.conds.length k12) (.slice a13 q.items.length k13) (.slice a14 q.pairs.length k14))) (T := 29) #[.int .i64 0, .slice none 0 0, .slice none 0 0, .slice none 0 0, .int .i64 0, .bool false, .int .i64 0, .int .i64 0, .string ⟨#[]⟩, .string ⟨#[]⟩, .string ⟨#[]⟩, .string ⟨#[]⟩, .int .i64 0, .string ⟨#[]⟩, .string ⟨#[]⟩, .string ⟨#[]⟩, .slice none 0 0]
  have HQ1 := Lib.hid (qsees_of (hrows.later kb))
  have HL1 : Hid (Loc ((W2.alloc (.cells #[.int .i64 0, .slice none 0 0, .slice none 0 0, .slice none 0 0, .int .i64 0, .bool false, .int .i64 0, .int .i64 0, .string ⟨#[]⟩, .string ⟨#[]⟩, .string ⟨#[]⟩, .string ⟨#[]⟩, .int .i64 0, .string ⟨#[]⟩, .string ⟨#[]⟩, .string ⟨#[]⟩, .slice none 0 0] 29)).setCells W2.heap.size 0 (qC q (.slice a11 q.spots.length k11) (.slice a12 q.conds.length k12) (.slice a13 q.items.length k13) (.slice a14 q.pairs.length k14)).toList) W2.heap.size (qC q (.slice a11 q.spots.length k11) (.slice a12 q.conds.length k12) (.slice a13 q.items.length k13) (.slice a14 q.pairs.length k14)) 29) := kept_loc _ rfl
  have hbk := below_step hb kb
  have HBW3 := Lib.hid (below_step HB1.out hbk)
  have HNW3 := Lib.hid hbk
  clear hb hrows kb hbk
  rename_i KK hKK
  refine hKK _ _ ?_
  clear hKK KK
  refine wpList_move rfl rfl ?_
  refine wpList_extract rfl rfl rfl rfl ?_
  refine wpList_extract rfl rfl rfl rfl ?_
  refine wpList_allocQuery rfl rfl ?_
  refine wpList_store_mid rfl 29 _ _ rfl W2.heap.size 0 (qC q (.slice a11 q.spots.length k11) (.slice a12 q.conds.length k12) (.slice a13 q.items.length k13) (.slice a14 q.pairs.length k14)) rfl rfl (Loc.new W2 #[.int .i64 0, .slice none 0 0, .slice none 0 0, .slice none 0 0, .int .i64 0, .bool false, .int .i64 0, .int .i64 0, .string ⟨#[]⟩, .string ⟨#[]⟩, .string ⟨#[]⟩, .string ⟨#[]⟩, .int .i64 0, .string ⟨#[]⟩, .string ⟨#[]⟩, .string ⟨#[]⟩, .slice none 0 0] 29).there Tryz.sizeQuery (qC_one _) ?_
  obtain ⟨X1, hX1⟩ : ∃ x, x = W2.heap.size := ⟨_, rfl⟩
  rw [← hX1] at HL1 HQ1 HBW3 HNW3 ⊢
  clear hX1
  generalize (W2.alloc (.cells #[.int .i64 0, .slice none 0 0, .slice none 0 0, .slice none 0 0, .int .i64 0, .bool false, .int .i64 0, .int .i64 0, .string ⟨#[]⟩, .string ⟨#[]⟩, .string ⟨#[]⟩, .string ⟨#[]⟩, .int .i64 0, .string ⟨#[]⟩, .string ⟨#[]⟩, .string ⟨#[]⟩, .slice none 0 0] 29)).setCells X1 0 (qC q (.slice a11 q.spots.length k11) (.slice a12 q.conds.length k12) (.slice a13 q.items.length k13) (.slice a14 q.pairs.length k14)).toList = W3 at HL1 HQ1 HBW3 HNW3 ⊢
  go_upto_region 3 with fail
  refine wp_region_lit ?_
  refine wpList_load_mid rfl 29 _ rfl X1 0 rfl (qC q (.slice a11 q.spots.length k11) (.slice a12 q.conds.length k12) (.slice a13 q.items.length k13) (.slice a14 q.pairs.length k14)).toList _ (HL1.out).range Tryz.underlying29 rfl (by rw [Tryz.sizeQuery]; rfl) ?_
  go_wp2_with fail
  refine (progFormat (q := q) HQ1.out (good_fits HGQ.out) (HT.out.below HBW3.out) ((HBW3.out.cell HLT.out).trans HG.out) HEV.out (fun _ => len_good HGQ.out)).mono ?_
  unfold FmtPost
  rw [HF.out]
  rintro e W4 ⟨rfl, hb4⟩
  have HB4 := Lib.hid (below_step HBW3.out hb4)
  clear hb4 HQ1 HL1 HNW3
  have htt : (t.toList == t.toList) = true := by simp
  go_wp2_with fail
  refine (progParse s W4 ((HB4.out.cell HLT.out).trans HG.out) HEV.out HM.out).mono ?_
  rw [HR.out]
  rintro e W5 ⟨hb, vs, vc, vi, vp, rfl, hrows⟩
  simp only at hrows ⊢
  obtain ⟨a21, k21, rfl, m1⟩ := row_slice (l := p.spots) hrows.rs
  obtain ⟨a22, k22, rfl, m2⟩ := row_slice (l := p.conds) hrows.rc
  obtain ⟨a23, k23, rfl, m3⟩ := row_slice (l := p.items) hrows.rt
  obtain ⟨a24, k24, rfl, m4⟩ := row_slice (l := p.pairs) hrows.rp
  clear m1 m2 m3 m4
  have kb := kept_below (w := W5) (cs := (qC p (.slice a21 p.spots.length k21) (.slice a22 p.conds.length k22) (.slice a23 p.items.length k23) (.slice a24 p.pairs.length k24))) (T := 29) #[.int .i64 0, .slice none 0 0, .slice none 0 0, .slice none 0 0, .int .i64 0, .bool false, .int .i64 0, .int .i64 0, .string ⟨#[]⟩, .string ⟨#[]⟩, .string ⟨#[]⟩, .string ⟨#[]⟩, .int .i64 0, .string ⟨#[]⟩, .string ⟨#[]⟩, .string ⟨#[]⟩, .slice none 0 0]
  have HQ2 := Lib.hid (qsees_of (hrows.later kb))
  have HL2 : Hid (Loc ((W5.alloc (.cells #[.int .i64 0, .slice none 0 0, .slice none 0 0, .slice none 0 0, .int .i64 0, .bool false, .int .i64 0, .int .i64 0, .string ⟨#[]⟩, .string ⟨#[]⟩, .string ⟨#[]⟩, .string ⟨#[]⟩, .int .i64 0, .string ⟨#[]⟩, .string ⟨#[]⟩, .string ⟨#[]⟩, .slice none 0 0] 29)).setCells W5.heap.size 0 (qC p (.slice a21 p.spots.length k21) (.slice a22 p.conds.length k22) (.slice a23 p.items.length k23) (.slice a24 p.pairs.length k24)).toList) W5.heap.size (qC p (.slice a21 p.spots.length k21) (.slice a22 p.conds.length k22) (.slice a23 p.items.length k23) (.slice a24 p.pairs.length k24)) 29) := kept_loc _ rfl
  have hbk := below_step hb kb
  have HBW6 := Lib.hid (below_step HB4.out hbk)
  have HNW6 := Lib.hid hbk
  clear hb hrows kb hbk
  rename_i KK hKK
  refine hKK _ _ ?_
  clear hKK KK
  refine wpList_move rfl rfl ?_
  refine wpList_extract rfl rfl rfl rfl ?_
  refine wpList_extract rfl rfl rfl rfl ?_
  refine wpList_allocQuery rfl rfl ?_
  refine wpList_store_mid rfl 29 _ _ rfl W5.heap.size 0 (qC p (.slice a21 p.spots.length k21) (.slice a22 p.conds.length k22) (.slice a23 p.items.length k23) (.slice a24 p.pairs.length k24)) rfl rfl (Loc.new W5 #[.int .i64 0, .slice none 0 0, .slice none 0 0, .slice none 0 0, .int .i64 0, .bool false, .int .i64 0, .int .i64 0, .string ⟨#[]⟩, .string ⟨#[]⟩, .string ⟨#[]⟩, .string ⟨#[]⟩, .int .i64 0, .string ⟨#[]⟩, .string ⟨#[]⟩, .string ⟨#[]⟩, .slice none 0 0] 29).there Tryz.sizeQuery (qC_one _) ?_
  obtain ⟨X2, hX2⟩ : ∃ x, x = W5.heap.size := ⟨_, rfl⟩
  rw [← hX2] at HL2 HQ2 HBW6 HNW6 ⊢
  clear hX2
  generalize (W5.alloc (.cells #[.int .i64 0, .slice none 0 0, .slice none 0 0, .slice none 0 0, .int .i64 0, .bool false, .int .i64 0, .int .i64 0, .string ⟨#[]⟩, .string ⟨#[]⟩, .string ⟨#[]⟩, .string ⟨#[]⟩, .int .i64 0, .string ⟨#[]⟩, .string ⟨#[]⟩, .string ⟨#[]⟩, .slice none 0 0] 29)).setCells X2 0 (qC p (.slice a21 p.spots.length k21) (.slice a22 p.conds.length k22) (.slice a23 p.items.length k23) (.slice a24 p.pairs.length k24)).toList = W6 at HL2 HQ2 HBW6 HNW6 ⊢
  rcases he with rfl | rfl
  · go_wp2_with fail
    go_ret
    exact ⟨rfl, HBW6.out⟩
  · go_wp2_with fail
    go_ret
    exact ⟨rfl, HBW6.out⟩

set_option maxRecDepth 100000 in
set_option maxHeartbeats 4000000 in
theorem writtenOk {W : World} {c wh it : Int} {s : ByteArray} {ev : Value} (hc : I64 c) (hw : I64 wh) (hi : I64 it) (ht : Tab W) (hg : W.cell? ⟨5, 0, none⟩ = some ev) (hev : ev = .nilIface ∨ ∃ te pe, ev = .iface te pe) (hm : s.size ≤ maxLen) {p : PQuery} (HR : Hid (parseText (toks s) = (p, 0))) (HGP : Hid (GoodQ p)) (HSP : Hid (inScopeP p = true)) :
    Calls Tryz.prog 7 #[.int .i64 c, .int .i64 wh, .int .i64 it, .string s] W fun e W' => e = .returned (.bool true) ∧ Below W.heap.size W W' := by
  have HC := Lib.hid hc
  have HWH := Lib.hid hw
  have HIT := Lib.hid hi
  have HT := Lib.hid ht
  have HG := Lib.hid hg
  have HEV := Lib.hid hev
  have HM := Lib.hid hm
  have hlt : (⟨5, 0, none⟩ : Addr).block < W.heap.size := Lib.lt_of_cell hg
  have HLT := Lib.hid hlt
  obtain ⟨q, hq⟩ : ∃ q, krQ c wh it = q := ⟨_, rfl⟩
  have hgq := Pure.kr_good c wh it
  have hsq := Pure.kr_scope c wh it
  rw [hq] at hgq hsq
  obtain ⟨t, htx⟩ : ∃ t, krText c wh it = t := ⟨_, rfl⟩
  have hte : t = ⟨(joined (queryW q)).toArray⟩ := by rw [← htx, ← hq]; rfl
  have HTX := Lib.hid htx
  have HP : Hid (parseText (toks t) = (q, 0)) := by show _ = _; rw [hte]; exact parse_good hgq hsq
  have HF : Hid (fmtOf toks (joined (queryW q)) q = (t, 0)) := by show _ = _; rw [hte]; exact fmt_good hgq hsq
  have HZ : Hid (t.size ≤ maxLen) := by show _ ≤ _; rw [hte]; have := Pure.size_written hgq; unfold maxLen; omega
  have HGQ := Lib.hid hgq
  clear hc hw hi ht hg hev hm hlt hq hgq hsq htx hte
  go_enter Tryz.func7, Tryz.ntmps7
  go_wp2_with fail
  refine (read_K HC.out HWH.out HIT.out HT.out).mono ?_
  rw [HTX.out]
  rintro e W1 ⟨rfl, hb1⟩
  have HB1 := Lib.hid hb1
  clear hb1
  go_wp2_with fail
  refine (progParse t W1 ((HB1.out.cell HLT.out).trans HG.out) HEV.out HZ.out).mono ?_
  rw [HP.out]
  rintro e W2 ⟨hb, vs, vc, vi, vp, rfl, hrows⟩
  simp only at hrows ⊢
  obtain ⟨a11, k11, rfl, m1⟩ := row_slice (l := q.spots) hrows.rs
  obtain ⟨a12, k12, rfl, m2⟩ := row_slice (l := q.conds) hrows.rc
  obtain ⟨a13, k13, rfl, m3⟩ := row_slice (l := q.items) hrows.rt
  obtain ⟨a14, k14, rfl, m4⟩ := row_slice (l := q.pairs) hrows.rp
  clear m1 m2 m3 m4
  have kb := kept_below (w := W2) (cs := (qC q (.slice a11 q.spots.length k11) (.slice a12 q.conds.length k12) (.slice a13 q.items.length k13) (.slice a14 q.pairs.length k14))) (T := 29) #[.int .i64 0, .slice none 0 0, .slice none 0 0, .slice none 0 0, .int .i64 0, .bool false, .int .i64 0, .int .i64 0, .string ⟨#[]⟩, .string ⟨#[]⟩, .string ⟨#[]⟩, .string ⟨#[]⟩, .int .i64 0, .string ⟨#[]⟩, .string ⟨#[]⟩, .string ⟨#[]⟩, .slice none 0 0]
  have HQ1 := Lib.hid (qsees_of (hrows.later kb))
  have HL1 : Hid (Loc ((W2.alloc (.cells #[.int .i64 0, .slice none 0 0, .slice none 0 0, .slice none 0 0, .int .i64 0, .bool false, .int .i64 0, .int .i64 0, .string ⟨#[]⟩, .string ⟨#[]⟩, .string ⟨#[]⟩, .string ⟨#[]⟩, .int .i64 0, .string ⟨#[]⟩, .string ⟨#[]⟩, .string ⟨#[]⟩, .slice none 0 0] 29)).setCells W2.heap.size 0 (qC q (.slice a11 q.spots.length k11) (.slice a12 q.conds.length k12) (.slice a13 q.items.length k13) (.slice a14 q.pairs.length k14)).toList) W2.heap.size (qC q (.slice a11 q.spots.length k11) (.slice a12 q.conds.length k12) (.slice a13 q.items.length k13) (.slice a14 q.pairs.length k14)) 29) := kept_loc _ rfl
  have hbk := below_step hb kb
  have HBW3 := Lib.hid (below_step HB1.out hbk)
  have HNW3 := Lib.hid hbk
  clear hb hrows kb hbk
  rename_i KK hKK
  refine hKK _ _ ?_
  clear hKK KK
  refine wpList_move rfl rfl ?_
  refine wpList_extract rfl rfl rfl rfl ?_
  refine wpList_extract rfl rfl rfl rfl ?_
  refine wpList_allocQuery rfl rfl ?_
  refine wpList_store_mid rfl 29 _ _ rfl W2.heap.size 0 (qC q (.slice a11 q.spots.length k11) (.slice a12 q.conds.length k12) (.slice a13 q.items.length k13) (.slice a14 q.pairs.length k14)) rfl rfl (Loc.new W2 #[.int .i64 0, .slice none 0 0, .slice none 0 0, .slice none 0 0, .int .i64 0, .bool false, .int .i64 0, .int .i64 0, .string ⟨#[]⟩, .string ⟨#[]⟩, .string ⟨#[]⟩, .string ⟨#[]⟩, .int .i64 0, .string ⟨#[]⟩, .string ⟨#[]⟩, .string ⟨#[]⟩, .slice none 0 0] 29).there Tryz.sizeQuery (qC_one _) ?_
  obtain ⟨X1, hX1⟩ : ∃ x, x = W2.heap.size := ⟨_, rfl⟩
  rw [← hX1] at HL1 HQ1 HBW3 HNW3 ⊢
  clear hX1
  generalize (W2.alloc (.cells #[.int .i64 0, .slice none 0 0, .slice none 0 0, .slice none 0 0, .int .i64 0, .bool false, .int .i64 0, .int .i64 0, .string ⟨#[]⟩, .string ⟨#[]⟩, .string ⟨#[]⟩, .string ⟨#[]⟩, .int .i64 0, .string ⟨#[]⟩, .string ⟨#[]⟩, .string ⟨#[]⟩, .slice none 0 0] 29)).setCells X1 0 (qC q (.slice a11 q.spots.length k11) (.slice a12 q.conds.length k12) (.slice a13 q.items.length k13) (.slice a14 q.pairs.length k14)).toList = W3 at HL1 HQ1 HBW3 HNW3 ⊢
  go_upto_region 3 with fail
  refine wp_region_lit ?_
  refine wpList_load_mid rfl 29 _ rfl X1 0 rfl (qC q (.slice a11 q.spots.length k11) (.slice a12 q.conds.length k12) (.slice a13 q.items.length k13) (.slice a14 q.pairs.length k14)).toList _ (HL1.out).range Tryz.underlying29 rfl (by rw [Tryz.sizeQuery]; rfl) ?_
  go_wp2_with fail
  refine (progFormat (q := q) HQ1.out (good_fits HGQ.out) (HT.out.below HBW3.out) ((HBW3.out.cell HLT.out).trans HG.out) HEV.out (fun _ => len_good HGQ.out)).mono ?_
  unfold FmtPost
  rw [HF.out]
  rintro e W4 ⟨rfl, hb4⟩
  have HB4 := Lib.hid (below_step HBW3.out hb4)
  clear hb4 HQ1 HL1 HNW3
  have htt : (t.toList == t.toList) = true := by simp
  go_wp2_with fail
  refine (progParse s W4 ((HB4.out.cell HLT.out).trans HG.out) HEV.out HM.out).mono ?_
  rw [HR.out]
  rintro e W5 ⟨hb, vs, vc, vi, vp, rfl, hrows⟩
  simp only at hrows ⊢
  obtain ⟨a21, k21, rfl, m1⟩ := row_slice (l := p.spots) hrows.rs
  obtain ⟨a22, k22, rfl, m2⟩ := row_slice (l := p.conds) hrows.rc
  obtain ⟨a23, k23, rfl, m3⟩ := row_slice (l := p.items) hrows.rt
  obtain ⟨a24, k24, rfl, m4⟩ := row_slice (l := p.pairs) hrows.rp
  clear m1 m2 m3 m4
  have kb := kept_below (w := W5) (cs := (qC p (.slice a21 p.spots.length k21) (.slice a22 p.conds.length k22) (.slice a23 p.items.length k23) (.slice a24 p.pairs.length k24))) (T := 29) #[.int .i64 0, .slice none 0 0, .slice none 0 0, .slice none 0 0, .int .i64 0, .bool false, .int .i64 0, .int .i64 0, .string ⟨#[]⟩, .string ⟨#[]⟩, .string ⟨#[]⟩, .string ⟨#[]⟩, .int .i64 0, .string ⟨#[]⟩, .string ⟨#[]⟩, .string ⟨#[]⟩, .slice none 0 0]
  have HQ2 := Lib.hid (qsees_of (hrows.later kb))
  have HL2 : Hid (Loc ((W5.alloc (.cells #[.int .i64 0, .slice none 0 0, .slice none 0 0, .slice none 0 0, .int .i64 0, .bool false, .int .i64 0, .int .i64 0, .string ⟨#[]⟩, .string ⟨#[]⟩, .string ⟨#[]⟩, .string ⟨#[]⟩, .int .i64 0, .string ⟨#[]⟩, .string ⟨#[]⟩, .string ⟨#[]⟩, .slice none 0 0] 29)).setCells W5.heap.size 0 (qC p (.slice a21 p.spots.length k21) (.slice a22 p.conds.length k22) (.slice a23 p.items.length k23) (.slice a24 p.pairs.length k24)).toList) W5.heap.size (qC p (.slice a21 p.spots.length k21) (.slice a22 p.conds.length k22) (.slice a23 p.items.length k23) (.slice a24 p.pairs.length k24)) 29) := kept_loc _ rfl
  have hbk := below_step hb kb
  have HBW6 := Lib.hid (below_step HB4.out hbk)
  have HNW6 := Lib.hid hbk
  clear hb hrows kb hbk
  rename_i KK hKK
  refine hKK _ _ ?_
  clear hKK KK
  refine wpList_move rfl rfl ?_
  refine wpList_extract rfl rfl rfl rfl ?_
  refine wpList_extract rfl rfl rfl rfl ?_
  refine wpList_allocQuery rfl rfl ?_
  refine wpList_store_mid rfl 29 _ _ rfl W5.heap.size 0 (qC p (.slice a21 p.spots.length k21) (.slice a22 p.conds.length k22) (.slice a23 p.items.length k23) (.slice a24 p.pairs.length k24)) rfl rfl (Loc.new W5 #[.int .i64 0, .slice none 0 0, .slice none 0 0, .slice none 0 0, .int .i64 0, .bool false, .int .i64 0, .int .i64 0, .string ⟨#[]⟩, .string ⟨#[]⟩, .string ⟨#[]⟩, .string ⟨#[]⟩, .int .i64 0, .string ⟨#[]⟩, .string ⟨#[]⟩, .string ⟨#[]⟩, .slice none 0 0] 29).there Tryz.sizeQuery (qC_one _) ?_
  obtain ⟨X2, hX2⟩ : ∃ x, x = W5.heap.size := ⟨_, rfl⟩
  rw [← hX2] at HL2 HQ2 HBW6 HNW6 ⊢
  clear hX2
  generalize (W5.alloc (.cells #[.int .i64 0, .slice none 0 0, .slice none 0 0, .slice none 0 0, .int .i64 0, .bool false, .int .i64 0, .int .i64 0, .string ⟨#[]⟩, .string ⟨#[]⟩, .string ⟨#[]⟩, .string ⟨#[]⟩, .int .i64 0, .string ⟨#[]⟩, .string ⟨#[]⟩, .string ⟨#[]⟩, .slice none 0 0] 29)).setCells X2 0 (qC p (.slice a21 p.spots.length k21) (.slice a22 p.conds.length k22) (.slice a23 p.items.length k23) (.slice a24 p.pairs.length k24)).toList = W6 at HL2 HQ2 HBW6 HNW6 ⊢
  obtain ⟨a, hae⟩ : ∃ a : ByteArray, a = ⟨(joined (queryW p)).toArray⟩ := ⟨_, rfl⟩
  have HPA : Hid (parseText (toks a) = (p, 0)) := by show _ = _; rw [hae]; exact parse_good HGP.out HSP.out
  have HFP : Hid (fmtOf toks (joined (queryW p)) p = (a, 0)) := by show _ = _; rw [hae]; exact fmt_good HGP.out HSP.out
  have HZA : Hid (a.size ≤ maxLen) := by show _ ≤ _; rw [hae]; have := Pure.size_written HGP.out; unfold maxLen; omega
  clear hae
  go_upto_region 9 with fail
  refine wp_region_lit ?_
  refine wpList_load_mid rfl 29 _ rfl X2 0 rfl (qC p (.slice a21 p.spots.length k21) (.slice a22 p.conds.length k22) (.slice a23 p.items.length k23) (.slice a24 p.pairs.length k24)).toList _ (HL2.out).range Tryz.underlying29 rfl (by rw [Tryz.sizeQuery]; rfl) ?_
  go_wp2_with fail
  refine (progFormat (q := p) HQ2.out (good_fits HGP.out) (HT.out.below HBW6.out) ((HBW6.out.cell HLT.out).trans HG.out) HEV.out (fun _ => len_good HGP.out)).mono ?_
  unfold FmtPost
  rw [HFP.out]
  rintro e W7 ⟨rfl, hb7⟩
  have HB7 := Lib.hid (below_step HBW6.out hb7)
  have HL2b := Lib.hid (HL2.out.grown (grown_below hb7 none) (by simp))
  clear hb7 HQ2 HL2 HNW6
  go_wp2_with fail
  refine (progParse a W7 ((HB7.out.cell HLT.out).trans HG.out) HEV.out HZA.out).mono ?_
  rw [HPA.out]
  rintro e W8 ⟨hb, vs, vc, vi, vp, rfl, hrows⟩
  simp only at hrows ⊢
  obtain ⟨a31, k31, rfl, m1⟩ := row_slice (l := p.spots) hrows.rs
  obtain ⟨a32, k32, rfl, m2⟩ := row_slice (l := p.conds) hrows.rc
  obtain ⟨a33, k33, rfl, m3⟩ := row_slice (l := p.items) hrows.rt
  obtain ⟨a34, k34, rfl, m4⟩ := row_slice (l := p.pairs) hrows.rp
  clear m1 m2 m3 m4
  have kb := kept_below (w := W8) (cs := (qC p (.slice a31 p.spots.length k31) (.slice a32 p.conds.length k32) (.slice a33 p.items.length k33) (.slice a34 p.pairs.length k34))) (T := 29) #[.int .i64 0, .slice none 0 0, .slice none 0 0, .slice none 0 0, .int .i64 0, .bool false, .int .i64 0, .int .i64 0, .string ⟨#[]⟩, .string ⟨#[]⟩, .string ⟨#[]⟩, .string ⟨#[]⟩, .int .i64 0, .string ⟨#[]⟩, .string ⟨#[]⟩, .string ⟨#[]⟩, .slice none 0 0]
  have HQ3 := Lib.hid (qsees_of (hrows.later kb))
  have HL3 : Hid (Loc ((W8.alloc (.cells #[.int .i64 0, .slice none 0 0, .slice none 0 0, .slice none 0 0, .int .i64 0, .bool false, .int .i64 0, .int .i64 0, .string ⟨#[]⟩, .string ⟨#[]⟩, .string ⟨#[]⟩, .string ⟨#[]⟩, .int .i64 0, .string ⟨#[]⟩, .string ⟨#[]⟩, .string ⟨#[]⟩, .slice none 0 0] 29)).setCells W8.heap.size 0 (qC p (.slice a31 p.spots.length k31) (.slice a32 p.conds.length k32) (.slice a33 p.items.length k33) (.slice a34 p.pairs.length k34)).toList) W8.heap.size (qC p (.slice a31 p.spots.length k31) (.slice a32 p.conds.length k32) (.slice a33 p.items.length k33) (.slice a34 p.pairs.length k34)) 29) := kept_loc _ rfl
  have hbk := below_step hb kb
  have HBW9 := Lib.hid (below_step HB7.out hbk)
  have HNW9 := Lib.hid hbk
  clear hb hrows kb hbk
  rename_i KK hKK
  refine hKK _ _ ?_
  clear hKK KK
  refine wpList_move rfl rfl ?_
  refine wpList_extract rfl rfl rfl rfl ?_
  refine wpList_extract rfl rfl rfl rfl ?_
  refine wpList_allocQuery rfl rfl ?_
  refine wpList_store_mid rfl 29 _ _ rfl W8.heap.size 0 (qC p (.slice a31 p.spots.length k31) (.slice a32 p.conds.length k32) (.slice a33 p.items.length k33) (.slice a34 p.pairs.length k34)) rfl rfl (Loc.new W8 #[.int .i64 0, .slice none 0 0, .slice none 0 0, .slice none 0 0, .int .i64 0, .bool false, .int .i64 0, .int .i64 0, .string ⟨#[]⟩, .string ⟨#[]⟩, .string ⟨#[]⟩, .string ⟨#[]⟩, .int .i64 0, .string ⟨#[]⟩, .string ⟨#[]⟩, .string ⟨#[]⟩, .slice none 0 0] 29).there Tryz.sizeQuery (qC_one _) ?_
  obtain ⟨X3, hX3⟩ : ∃ x, x = W8.heap.size := ⟨_, rfl⟩
  rw [← hX3] at HL3 HQ3 HBW9 HNW9 ⊢
  clear hX3
  generalize (W8.alloc (.cells #[.int .i64 0, .slice none 0 0, .slice none 0 0, .slice none 0 0, .int .i64 0, .bool false, .int .i64 0, .int .i64 0, .string ⟨#[]⟩, .string ⟨#[]⟩, .string ⟨#[]⟩, .string ⟨#[]⟩, .int .i64 0, .string ⟨#[]⟩, .string ⟨#[]⟩, .string ⟨#[]⟩, .slice none 0 0] 29)).setCells X3 0 (qC p (.slice a31 p.spots.length k31) (.slice a32 p.conds.length k32) (.slice a33 p.items.length k33) (.slice a34 p.pairs.length k34)).toList = W9 at HL3 HQ3 HBW9 HNW9 ⊢
  have HL2c := Lib.hid (HL2b.out.grown (grown_below HNW9.out none) (by simp))
  go_upto_region 11 with fail
  refine wp_region_lit ?_
  refine wpList_load_mid rfl 29 _ rfl X3 0 rfl (qC p (.slice a31 p.spots.length k31) (.slice a32 p.conds.length k32) (.slice a33 p.items.length k33) (.slice a34 p.pairs.length k34)).toList _ (HL3.out).range Tryz.underlying29 rfl (by rw [Tryz.sizeQuery]; rfl) ?_
  go_wp2_with fail
  refine (progFormat (q := p) HQ3.out (good_fits HGP.out) (HT.out.below HBW9.out) ((HBW9.out.cell HLT.out).trans HG.out) HEV.out (fun _ => len_good HGP.out)).mono ?_
  unfold FmtPost
  rw [HFP.out]
  rintro e W10 ⟨rfl, hb10⟩
  have HB10 := Lib.hid (below_step HBW9.out hb10)
  have hl3 := HL3.out.grown (grown_below hb10 none) (by simp)
  have hl2 := HL2c.out.grown (grown_below hb10 none) (by simp)
  have y1 : W10.cell? ⟨X3, 1, none⟩ = some (.slice a31 p.spots.length k31) := (hl3.cell 1).trans rfl
  have y0 : W10.cell? ⟨X3, 0, none⟩ = some (.int .i64 p.kind) := (hl3.cell 0).trans rfl
  have x1 : W10.cell? ⟨X2, 1, none⟩ = some (.slice a21 p.spots.length k21) := (hl2.cell 1).trans rfl
  have x0 : W10.cell? ⟨X2, 0, none⟩ = some (.int .i64 p.kind) := (hl2.cell 0).trans rfl
  have haa : (a.toList == a.toList) = true := by simp
  have hkk : (p.kind == p.kind) = true := by simp
  have hss : ((p.spots.length : Int) == (p.spots.length : Int)) = true := by simp
  clear hb10 hl2 hl3 HQ3 HL3 HNW9 HL2b HL2c
  go_wp2_with fail
  go_ret
  exact ⟨rfl, HB10.out⟩

theorem written {W : World} {c wh it : Int} {s : ByteArray} {ev : Value} (hc : I64 c) (hw : I64 wh) (hi : I64 it) (ht : Tab W) (hg : W.cell? ⟨5, 0, none⟩ = some ev) (hev : ev = .nilIface ∨ ∃ te pe, ev = .iface te pe) (hm : s.size ≤ maxLen) :
    Calls Tryz.prog 7 #[.int .i64 c, .int .i64 wh, .int .i64 it, .string s] W fun e W' => e = .returned (.bool true) ∧ Below W.heap.size W W' := by
  rcases parse_cases s with ⟨h1, h2, h3⟩ | h
  · exact writtenOk hc hw hi ht hg hev hm (p := (parseText (toks s)).1) (Prod.ext rfl h1) h2 h3
  · exact writtenBad hc hw hi ht hg hev hm (p := (parseText (toks s)).1) (er := (parseText (toks s)).2) rfl h

end Go.Proofs.YtobgbmfpicmpcaaGreatDoor

/- The law Written is proved: for every choice, every two numbers and every text the call returns true and the four read as they did; the package variables that the row lists are tied to the program's own text by the given tie. -/
namespace Go.Proofs.YtobgbmfpicmpcaaGreatDoor
open Go.ChangeShapes Go.WideShapes Go.ChangeAt Go.RowKit
open Go.ChangeMaps (open_string shut_string)

theorem Tryz.own : ownKnob Tryz.prog.godebug = none := by kernel_rfl
theorem gRange : Tryz.prog.globalNamed "strconv.ErrRange" = some 5 := by kernel_rfl
theorem gRangeType : (Tryz.prog.globals[5]?).map (·.type) = some 177 := by kernel_rfl
theorem cells71 : Tryz.prog.cellsOf 442 = 1 := by kernel_rfl
theorem cells9 : Tryz.prog.cellsOf 9 = 1 := by kernel_rfl
theorem star : "*" ++ "errors.errorString" = "*errors.errorString" := by decide
theorem row69 (u : TypeId) (h : Tryz.prog.typeName? 3 u = some "*errors.errorString") : u = 440 :=
  typeName_ptr_named (nm := "errors.errorString") (by rw [star]; kernel_rfl) (by kernel_rfl) (by decide) u (by rw [star]; exact h)
theorem gPowType : (Tryz.prog.globals[0]?).map (·.type) = some 348 := by kernel_rfl
theorem powUnder : Tryz.prog.underlying 348 = some (.array 20 278) := by kernel_rfl
theorem u64Under : Tryz.prog.underlying 278 = some (.int .u64) := by kernel_rfl
theorem u64Cells : Tryz.prog.cellsOf 278 = 1 := by kernel_rfl
theorem powCells : Tryz.prog.cellsOf 348 = 20 := by kernel_rfl
theorem powData : (Rows.laid_internal_strconv_uint64pow10 : DataW Unit) = Lib.tabData .u64 Lib.pow10Tab := by rfl

/-- What the listed variables give the walk: ErrRange holds an error. -/
theorem range_of {W : World} (h : laidMetH Tryz.prog Rows.writtenRow.laid W) : ∃ ev, W.cell? ⟨5, 0, none⟩ = some ev ∧ (ev = .nilIface ∨ ∃ te pe, ev = .iface te pe) := by
  have h1 := laidMetH.filter (fun x => x.1 == "strconv.ErrRange") h
  have e : (Rows.writtenRow.laid.filter fun x => x.1 == "strconv.ErrRange") = [("strconv.ErrRange", Rows.laid_strconv_ErrRange)] := by kernel_rfl
  rw [e] at h1
  rw [MakeChecks.laidMetH_plain _ _ _ (by kernel_rfl)] at h1
  obtain ⟨a0, s0, hv0, -, -, -⟩ := laid_sentinel h1 gRange gRangeType Tryz.underlying177 row69 Tryz.underlying440 Tryz.underlying442 rfl rfl Tryz.underlying9 cells71 cells9
  exact ⟨_, by have h0 := World.var?_cell gRange hv0 0; simpa using h0, Or.inr ⟨_, _, rfl⟩⟩
/-- And the table of powers of ten stands as it was laid. -/
theorem tab_of {W : World} (h : laidMetH Tryz.prog Rows.writtenRow.laid W) : Tab W := by
  have h1 := laidMetH.filter (fun x => x.1 == "internal/strconv.uint64pow10") h
  have e : (Rows.writtenRow.laid.filter fun x => x.1 == "internal/strconv.uint64pow10") = [("internal/strconv.uint64pow10", Rows.laid_internal_strconv_uint64pow10)] := by kernel_rfl
  rw [e] at h1
  rw [MakeChecks.laidMetH_plain _ _ _ (by kernel_rfl)] at h1
  rw [powData] at h1
  exact Lib.tabIs_of_head gPow gPowType powUnder u64Under u64Cells powCells h1

theorem door_met (os : Os) (args : Array Value) : laidMetH Tryz.prog Rows.writtenRow.laid ((World.doorLaid Tryz.prog 400 os).forCall (fun _ _ => 0) ⟨#[], args, []⟩).memory :=
  laidMetH_of_parts3 (fuel := 8) (laidMet_of_run' 8 (by kernel_rfl) (by kernel_rfl)) (by kernel_rfl) (by kernel_rfl)
theorem fits_of_wf {n : Int} (h : (Lit.int .i64 n).wf = true) : I64 n := by
  have h := h
  rw [Lit.wf, Bool.and_eq_true, decide_eq_true_eq, decide_eq_true_eq] at h
  exact ⟨h.1, h.2⟩

set_option maxRecDepth 100000 in
theorem lifted (os : Os) (started : os.Started) (H : Type) (enc : TypeId × Value → H) :
    ReturnsInHanded {} Tryz.checked os 7 .any (fun w args => (Rows.writtenSpec.pre enc Tryz.prog Tryz.f7 [] false w args ∧ laidMetH Tryz.prog Rows.writtenRow.laid w) ∧ sizedMet enc Tryz.prog Tryz.f7 (OpenSpec.ofChange Rows.writtenSpec) false w args)
      (Rows.writtenSpec.post enc Tryz.prog Tryz.f7 false true false false) := by
  refine returnsInHanded_of_change_and (C := Tryz.checked) (X := fun w _ => laidMetH Tryz.prog Rows.writtenRow.laid w) (fun _ _ _ hh h => h.of_heap hh) Tryz.own started (by kernel_rfl) Tryz.func7
    (ChangeSpec.witness_shaped (enc := enc) (C := Tryz.checked) (os := os) (X := fun w _ => laidMetH Tryz.prog Rows.writtenRow.laid w) false (World.doorLaid Tryz.prog 400 os) #[.int .i64 0, .int .i64 0, .int .i64 0, .string ⟨#[]⟩] 8 rfl (World.shaped_of_RefB (by kernel_rfl) (by kernel_rfl)) (by kernel_rfl) (by kernel_rfl) (by kernel_rfl) (door_met os _)) ?_
  intro W base args ds gs before hval0 hW _ _ hL _
  have hval : ∀ (j : Nat) t v, Tryz.f7.params[j]? = some t → args[j]? = some v → Value.okWide Tryz.prog W .any base t v := hval0
  have hW' := hW
  obtain ⟨p, q, hA0, hV, rfl, _, _⟩ := hW
  have hA : DataW.TrodAll enc Tryz.prog W 0 (fun _ => true) true Tryz.f7.params.toList args.toList ds p := hA0
  rw [Tryz.params7] at hA hval
  obtain ⟨v0, v1, v2, v3, d0, d1, d2, d3, p0, p1, p2, p3, rfl, rfl, rfl, h0, h1, h2, h3⟩ := trodAll_four hA
  obtain ⟨rfl, rfl⟩ := trodVars_none hV
  obtain ⟨c, rfl, rfl, rfl, hc⟩ := open_int Tryz.underlying3 (hval 0 3 v0 rfl rfl) h0
  obtain ⟨wh, rfl, rfl, rfl, hwh⟩ := open_int Tryz.underlying3 (hval 1 3 v1 rfl rfl) h1
  obtain ⟨it, rfl, rfl, rfl, hit⟩ := open_int Tryz.underlying3 (hval 2 3 v2 rfl rfl) h2
  obtain ⟨s, rfl, rfl, rfl, hs⟩ := open_string Tryz.underlying9 (hval 3 9 v3 rfl rfl) h3
  obtain ⟨ev, hg, hev⟩ := range_of hL
  have ht := tab_of hL
  clear hA0 hval0
  simp only [List.append_nil] at hW'
  refine (written (fits_of_wf hc) (fits_of_wf hwh) (fits_of_wf hit) ht hg hev hs).mono fun e W' ⟨he, hnx⟩ => ?_
  subst he
  refine ⟨_, rfl, _, _, _, [], [], [], hW', ?_, ?_, rfl, hnx.frame _, fun h => by cases h⟩
  · exact trodAll_mk1 (shut_bool Tryz.underlying4 _)
  · exact trodAll_mk4 (shut_int Tryz.underlying3 hc) (shut_int Tryz.underlying3 hwh) (shut_int Tryz.underlying3 hit) (shut_string Tryz.underlying9 hs)

theorem and2 {a b : Bool} (h1 : a = true) (h2 : b = true) : (a && b) = true := by rw [h1, h2]; rfl
set_option maxRecDepth 100000 in
theorem writtenClosed : joinedFacts Tryz.prog 7 Tryz.f7 Rows.writtenSpec Rows.writtenRow = true := by
  unfold joinedFacts
  exact and2 (and2 (and2 (and2 (and2 (and2 (and2 (and2 (and2 (and2 (and2 (and2 (and2 (and2 (and2 (and2 (and2 (and2 (and2 (and2 (and2 (and2 (and2 (and2 (and2 (and2 (and2 (and2 (and2 (and2 (and2 (writtenF1) writtenF2) writtenF3) writtenF4) writtenF5) writtenF6) writtenF7) writtenF8) writtenF9) writtenF10) writtenF11) writtenF12) writtenF13) writtenF14) writtenF15) writtenF16) writtenF17) writtenF18) writtenF19) writtenF20) writtenF21) writtenF22) writtenF23) writtenF24) writtenF25) writtenF26) writtenF27) writtenF28) writtenF29) writtenF30) writtenF31) writtenF32
theorem written_row_holds : Rows.WrittenSaid :=
  OpenClaim.holds_of_wide 7 Tryz.f7 rfl rfl rfl rfl rfl rfl rfl ⟨rfl, rfl, rfl, rfl, rfl⟩ rfl rfl rfl rfl rfl writtenNamed Tryz.func7 writtenClosed writtenInst writtenWrap
    (fun os started H enc _ => lifted os started H enc)
theorem string_plain : Tryz.prog.wantsStandIn 9 = false := by kernel_rfl
theorem int_plain : Tryz.prog.wantsStandIn 3 = false := by kernel_rfl

/-- The tied card. -/
theorem written_holds : Rows.WrittenCardSaid :=
  Claim7.holds_tied_plain_at .later [] [.data, .data, .data, .sentinel, .sentinel] true (true, "688554a4e8ee496442038ba4f4df914fac4bc704e873b26b6050a7898a9f0fee") true
    written_row_holds (fun _ h => by cases h) writtenWf (fun _ h => by cases h) written_row_tie rfl ⟨rfl, rfl⟩ writtenMain rfl
    (fun f fn hf hfn => by
      obtain rfl : f = 7 := Option.some.inj (writtenNamed.symm.trans hf) |>.symm
      obtain rfl : fn = Tryz.f7 := (Option.some.inj (Tryz.func7.symm.trans hfn)).symm
      exact ⟨writtenLooks, fun j t ht => by
        rw [Tryz.params7] at ht
        have hm : t ∈ [3, 3, 3, 9] := by simpa using Array.mem_of_getElem? ht
        simp only [List.mem_cons, List.not_mem_nil, or_false] at hm
        rcases hm with rfl | rfl | rfl | rfl
        · exact int_plain
        · exact int_plain
        · exact int_plain
        · exact string_plain⟩)
    writtenGoes
#print axioms written_holds
end Go.Proofs.YtobgbmfpicmpcaaGreatDoor

