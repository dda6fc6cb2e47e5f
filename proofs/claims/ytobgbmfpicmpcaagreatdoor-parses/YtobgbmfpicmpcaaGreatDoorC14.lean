/- The reference's Parse: a variable that stands for nothing; a query; and the whole. -/
import Derived.Deep.AppendLies
import Derived.Laws.OwnMore
import Derived.Laws.IdiomStrings
import Derived.Test.YtobgbmfpicmpcaaGreatDoorC13
namespace Go.Proofs.YtobgbmfpicmpcaaGreatDoor
open Go.RowKit

set_option maxRecDepth 100000 in
set_option maxHeartbeats 9000000 in
theorem refParseOut (s : ByteArray) (W : World) (hs : s.size ≤ maxLen) {ts : List Tok} (hts : toks s = some ts) {q0 : PQuery} {s0 : RS} (Hq0 : Hid (queryR ⟨ts, false⟩ = (q0, s0))) (Hbad : Hid (s0.bad = false)) (Hr0 : Hid (s0.rest.length = 0)) (Hsc : Hid (scopedR q0 = false)) : Calls Tryz.prog 14 #[.string s] W (ParsePost (parseText (toks s)) W) := by
  have hB0 : Below W.heap.size W (W.alloc (.cells #[.int .i64 0, .slice none 0 0, .slice none 0 0, .slice none 0 0, .int .i64 0, .bool false, .int .i64 0, .int .i64 0, .string ⟨#[]⟩, .string ⟨#[]⟩, .string ⟨#[]⟩, .string ⟨#[]⟩, .int .i64 0, .string ⟨#[]⟩, .string ⟨#[]⟩, .string ⟨#[]⟩, .slice none 0 0] 29)) := Below.alloc (Below.refl _ _) (Nat.le_refl _) _
  have L0 := Loc.new W #[.int .i64 0, .slice none 0 0, .slice none 0 0, .slice none 0 0, .int .i64 0, .bool false, .int .i64 0, .int .i64 0, .string ⟨#[]⟩, .string ⟨#[]⟩, .string ⟨#[]⟩, .string ⟨#[]⟩, .int .i64 0, .string ⟨#[]⟩, .string ⟨#[]⟩, .string ⟨#[]⟩, .slice none 0 0] 29
  have HZ := size_alloc W (.cells #[.int .i64 0, .slice none 0 0, .slice none 0 0, .slice none 0 0, .int .i64 0, .bool false, .int .i64 0, .int .i64 0, .string ⟨#[]⟩, .string ⟨#[]⟩, .string ⟨#[]⟩, .string ⟨#[]⟩, .int .i64 0, .string ⟨#[]⟩, .string ⟨#[]⟩, .string ⟨#[]⟩, .slice none 0 0] 29)
  have HB0 := Lib.hid hB0
  have HL0 := Lib.hid L0
  clear hB0 L0
  go_enter Tryz.func14, Tryz.ntmps14
  go_wp2_with fail
  obtain ⟨X0, hX0⟩ : ∃ X0, X0 = W.heap.size := ⟨_, rfl⟩
  rw [← hX0] at HL0 ⊢
  have hXW : W.heap.size ≤ X0 := by omega
  have hXZ : X0 + 1 = (W.alloc (.cells #[.int .i64 0, .slice none 0 0, .slice none 0 0, .slice none 0 0, .int .i64 0, .bool false, .int .i64 0, .int .i64 0, .string ⟨#[]⟩, .string ⟨#[]⟩, .string ⟨#[]⟩, .string ⟨#[]⟩, .int .i64 0, .string ⟨#[]⟩, .string ⟨#[]⟩, .string ⟨#[]⟩, .slice none 0 0] 29)).heap.size := by rw [HZ, hX0]
  clear hX0
  generalize W.alloc (.cells #[.int .i64 0, .slice none 0 0, .slice none 0 0, .slice none 0 0, .int .i64 0, .bool false, .int .i64 0, .int .i64 0, .string ⟨#[]⟩, .string ⟨#[]⟩, .string ⟨#[]⟩, .string ⟨#[]⟩, .int .i64 0, .string ⟨#[]⟩, .string ⟨#[]⟩, .string ⟨#[]⟩, .slice none 0 0] 29) = Wz at HB0 HL0 HZ hXZ ⊢
  refine (refTokensAny s Wz hs).mono ?_
  rintro e W1 ⟨hb1, hr⟩
  have HB1 := Lib.hid hb1
  have hs1 := hb1.size
  rcases hr with ⟨hno, rfl⟩ | ⟨ts', lv, hts2, rfl, hown⟩
  · rw [hts] at hno; cases hno
  · obtain rfl : ts = ts' := by rw [hts] at hts2; exact Option.some.inj hts2
    clear hts2
    have hl := toks_len hts
    obtain ⟨ao, ca, rfl, hca⟩ := row_slice (l := ts) hown
    have HQ0 := Lib.hid (QAt.start hb1 hown hl)
    clear hb1 hown HB1
    go_upto_region 6 with fail
    obtain ⟨x, hx⟩ : ∃ x, x = W1.heap.size + 1 := ⟨_, rfl⟩
    obtain ⟨b, hb⟩ : ∃ b, b = W1.heap.size := ⟨_, rfl⟩
    have hbW : Wz.heap.size ≤ b := by omega
    have hbX : X0 ≠ b := by omega
    rw [← hx, ← hb] at HQ0 ⊢
    clear hx hb hs1
    generalize (W1.alloc (.cells #[.slice ao ts.length ca, .int .i64 0, .bool false] 76)).alloc (.cells #[.int .i64 0, .slice none 0 0, .slice none 0 0, .slice none 0 0, .int .i64 0, .bool false, .int .i64 0, .int .i64 0, .string ⟨#[]⟩, .string ⟨#[]⟩, .string ⟨#[]⟩, .string ⟨#[]⟩, .int .i64 0, .string ⟨#[]⟩, .string ⟨#[]⟩, .string ⟨#[]⟩, .slice none 0 0] 29) = W2 at HQ0 ⊢
    have HQ : Hid (QAt Wz b (.slice ao ts.length ca) ts ⟨ts, false⟩ x (qC query0 (.slice none 0 0) (.slice none 0 0) (.slice none 0 0) (.slice none 0 0)) ⟨(.slice none 0 0), [], (.slice none 0 0), [], (.slice none 0 0), [], (.slice none 0 0), []⟩ W2) := HQ0.out
    clear HQ0
    obtain ⟨m0, hm0⟩ : ∃ m0, peekR kCREATE ⟨ts, false⟩ = m0 := ⟨_, rfl⟩
    have HM0 := Lib.hid hm0
    obtain ⟨s1, hs1⟩ : ∃ s1, hasR kCREATE ⟨ts, false⟩ = s1 := ⟨_, rfl⟩
    have HS1 := Lib.hid hs1
    clear hm0 hs1
    go_wp2_with fail
    refine (has HQ.out.ri kCREATE m0 HM0.out).mono ?_
    rintro e W3 ⟨rfl, h3, g3⟩
    rw [HS1.out] at h3
    have H3 := Lib.hid (HQ.out.call h3 g3)
    clear h3 g3 HQ
    go_upto_region 7 with fail
    go_cut [9] (fun v w => ∃ m s2, v = .bool m ∧ QAt Wz b (.slice ao ts.length ca) ts s2 x (qC query0 (.slice none 0 0) (.slice none 0 0) (.slice none 0 0) (.slice none 0 0)) ⟨(.slice none 0 0), [], (.slice none 0 0), [], (.slice none 0 0), [], (.slice none 0 0), []⟩ w ∧ ((m0 = true ∧ m = false ∧ s2 = s1) ∨ (m0 = false ∧ m = peekR kCALL s1 ∧ s2 = hasR kCALL s1)))
    case first =>
      cases m0 with
      | true =>
        go_wp2_with fail
        go_meet
        case rel => exact ⟨false, s1, rfl, H3.out, Or.inl ⟨trivial, rfl, rfl⟩⟩
      | false =>
        obtain ⟨mc, hmc⟩ : ∃ mc, peekR kCALL s1 = mc := ⟨_, rfl⟩
        have HMC := Lib.hid hmc
        clear hmc
        go_wp2_with fail
        refine (has H3.out.ri kCALL mc HMC.out).mono ?_
        rintro e W4 ⟨rfl, h4, g4⟩
        have H4 := Lib.hid (H3.out.call h4 g4)
        clear h4 g4
        go_wp2_with fail
        go_meet
        case rel => exact ⟨mc, _, rfl, H4.out, Or.inr ⟨trivial, HMC.out.symm, rfl⟩⟩
    case rest =>
      obtain ⟨m, s2, rfl, hq2, hcase⟩ := hcut
      have H4 := Lib.hid hq2
      have HCA := Lib.hid hcase
      clear hq2 hcase H3
      go_upto_block 0 with fail
      go_cut [] (fun w => ∃ q vs vc vi vp s3, QAt Wz b (.slice ao ts.length ca) ts s3 x (qC q vs vc vi vp) ⟨vs, q.spots, vc, q.conds, vi, q.items, vp, q.pairs⟩ w ∧ queryR ⟨ts, false⟩ = (q, s3))
      case first =>
        cases m0 with
        | true =>
          have HE : Hid (s2 = s1) := by rcases HCA.out with ⟨_, _, e⟩ | ⟨e, _⟩; exact e; cases e
          go_wp2_with fail
          refine (make_ H4.out).mono ?_
          rintro e W5 ⟨rfl, vp, hq⟩
          have H5 := Lib.hid hq
          clear hq
          go_wp2_with fail
          go_meet
          case rel => exact ⟨{ query0 with kind := 5, label := (makeR s2).1.1, pairs := (makeR s2).1.2 }, (.slice none 0 0), (.slice none 0 0), (.slice none 0 0), vp, (makeR s2).2, H5.out, by unfold queryR; simp only [HM0.out, HS1.out, if_true, HE.out]⟩
        | false =>
          have HE : Hid (m = peekR kCALL s1 ∧ s2 = hasR kCALL s1) := by rcases HCA.out with ⟨e, _⟩ | ⟨_, a, b⟩; cases e; exact ⟨a, b⟩
          have HE1 : Hid (s1 = ⟨ts, false⟩) := by show _ = _; rw [← HS1.out]; exact hasR_not HM0.out
          cases m with
          | true =>
            obtain ⟨nm, s3, hnm⟩ : ∃ n sz, nameR s2 = (n, sz) := ⟨_, _, rfl⟩
            have HNM := Lib.hid hnm
            have c0 : wc.cell? ⟨x, 0, none⟩ = some (.int .i64 0) := (H4.out.lq.cell 0).trans rfl
            have f0 : wc.frozen? ⟨x, 0, none⟩ = false := H4.out.lq.free 0
            have H5 := Lib.hid (H4.out.set 0 (.int .i64 6))
            clear hnm H4
            go_wp2_with fail
            generalize wc.setCell ⟨x, 0, none⟩ (.int .i64 6) = W5 at H5 ⊢
            clear c0 f0
            refine (nameIs H5.out.ri HNM.out).mono ?_
            rintro e W6 ⟨rfl, h6, g6⟩
            have H6a := H5.out.call h6 g6
            have c8 : W6.cell? ⟨x, 8, none⟩ = some (.string ⟨#[]⟩) := (H6a.lq.cell 8).trans rfl
            have f8 : W6.frozen? ⟨x, 8, none⟩ = false := H6a.lq.free 8
            have H6 := Lib.hid (H6a.set 8 (.string nm))
            clear h6 g6 H6a H5
            go_wp2_with fail
            go_meet
            case rel => exact ⟨{ query0 with kind := 6, name := nm }, (.slice none 0 0), (.slice none 0 0), (.slice none 0 0), (.slice none 0 0), s3, H6.out, by have h1 := HE.out; rw [HE1.out] at h1; unfold queryR; simp only [HM0.out, ← h1.1, ← h1.2, Bool.false_eq_true, if_false, if_true, HNM.out]⟩
          | false =>
            have HE2 : Hid (s2 = ⟨ts, false⟩) := by have h1 := HE.out; show _ = _; rw [h1.2, hasR_not h1.1.symm]; exact HE1.out
            go_wp2_with fail
            refine (match_ H4.out).mono ?_
            rintro e W5 ⟨rfl, vs, vc, hq⟩
            obtain ⟨sp, cd, s3, hms⟩ : ∃ sp cd s3, matchR s2 = ((sp, cd), s3) := ⟨_, _, _, rfl⟩
            rw [hms] at hq
            have HMS := Lib.hid hms
            have H5 := Lib.hid hq
            have q2 : W5.cell? ⟨b, 2, none⟩ = some (.bool s3.bad) := (hq.ri.box.cell 2).trans rfl
            have HQY : Hid (queryR ⟨ts, false⟩ = if s3.bad then ({ query0 with spots := sp, conds := cd }, s3) else behindR { query0 with spots := sp, conds := cd } s3) := by
              have h1 := HE.out.1
              rw [HE1.out] at h1
              show _ = _
              unfold queryR
              have h2 := HMS.out
              rw [HE2.out] at h2
              simp only [HM0.out, ← h1, Bool.false_eq_true, if_false, h2]
            clear hq hms H4
            cases hb3 : s3.bad with
            | true =>
              have HB3 := Lib.hid hb3
              rw [hb3] at q2
              clear hb3
              go_wp2_with fail
              go_meet
              case rel => exact ⟨{ query0 with spots := sp, conds := cd }, vs, vc, (.slice none 0 0), (.slice none 0 0), s3, H5.out, by rw [HQY.out, HB3.out]; rfl⟩
            | false =>
              have HB3 := Lib.hid hb3
              rw [hb3] at q2
              clear hb3
              go_wp2_with fail
              refine (behind H5.out).mono ?_
              rintro e W6 ⟨rfl, vi, hq⟩
              have H6 := Lib.hid hq
              clear hq q2
              go_wp2_with fail
              go_meet
              case rel =>
                refine ⟨(behindR { query0 with spots := sp, conds := cd } s3).1, vs, vc, vi, (.slice none 0 0), (behindR { query0 with spots := sp, conds := cd } s3).2, ?_, by rw [HQY.out, HB3.out]; rfl⟩
                have e1 := behindR_keeps { query0 with spots := sp, conds := cd } s3
                rw [e1.1, e1.2.1, e1.2.2]
                exact H6.out
      case rest =>
        clear H4 HCA
        obtain ⟨q, vs, vc, vi, vp, s3, hq, hqy⟩ := hcut
        obtain ⟨a1, k1, rfl, _⟩ := row_slice (l := q.spots) hq.rs
        obtain ⟨a2, k2, rfl, _⟩ := row_slice (l := q.conds) hq.rc
        obtain ⟨a3, k3, rfl, _⟩ := row_slice (l := q.items) hq.rt
        obtain ⟨a4, k4, rfl, _⟩ := row_slice (l := q.pairs) hq.rp
        have HLc : Hid (Loc wc X0 #[.int .i64 0, .slice none 0 0, .slice none 0 0, .slice none 0 0, .int .i64 0, .bool false, .int .i64 0, .int .i64 0, .string ⟨#[]⟩, .string ⟨#[]⟩, .string ⟨#[]⟩, .string ⟨#[]⟩, .int .i64 0, .string ⟨#[]⟩, .string ⟨#[]⟩, .string ⟨#[]⟩, .slice none 0 0] 29) := HL0.out.grown hq.grown (by intro e; injection e with e; exact hbX e)
        have HWc : Hid (Below W.heap.size W wc) := below_of HB0.out hq.grown (by omega)
        have HQY := Lib.hid hqy
        have HX : Hid (Loc wc x (qC q (.slice a1 q.spots.length k1) (.slice a2 q.conds.length k2) (.slice a3 q.items.length k3) (.slice a4 q.pairs.length k4)) 29) := hq.lq
        have HR : Hid (QRows Wz.heap.size q (.slice a1 q.spots.length k1) (.slice a2 q.conds.length k2) (.slice a3 q.items.length k3) (.slice a4 q.pairs.length k4) wc) := ⟨hq.rs, hq.rc, hq.rt, hq.rp⟩
        obtain ⟨_, _, k, _, _, _, hk, hkl, _, b1, b2, _⟩ := hq.ri.seen
        clear hq HL0 HB0
        have hqq : q0 = q ∧ s0 = s3 := by rw [Hq0.out] at hqy; exact ⟨congrArg Prod.fst hqy, congrArg Prod.snd hqy⟩
        clear hqy
        have hbad : s3.bad = false := by rw [← hqq.2]; exact Hbad.out
        have hr0 : s3.rest.length = 0 := by rw [← hqq.2]; exact Hr0.out
        have HSC : Hid (scopedR q = false) := by show _ = _; rw [← hqq.1]; exact Hsc.out
        clear hqq
        rw [hbad] at b2
        have hkt : (k : Int) = (ts.length : Int) := by omega
        have hre : s3.rest = [] := List.length_eq_zero_iff.1 hr0
        have hsm := query_small (st := ⟨ts, false⟩) (by rw [HQY.out]; exact hbad)
        rw [HQY.out] at hsm
        obtain ⟨hs1, hs2, hs3⟩ := hsm
        have HP : Hid (parseText (toks s) = if scopedR q then (q, 0) else (query0, 4)) := by show _ = _; rw [hts]; unfold parseText parseR; simp only [HQY.out, hbad, hre]; rfl
        clear hbad hre hr0
        go_upto_region 18 with fail
        refine wp_region_lit ?_
        refine wpList_load_mid rfl 29 _ rfl x 0 rfl (qC q (.slice a1 q.spots.length k1) (.slice a2 q.conds.length k2) (.slice a3 q.items.length k3) (.slice a4 q.pairs.length k4)).toList _ HX.out.range Tryz.underlying29 rfl (by rw [Tryz.sizeQuery]; rfl) ?_
        go_wp2_with fail
        refine (scope_ (q := q) HR.out.rs HR.out.rc HR.out.rt (by omega) (by omega) (by omega)).mono ?_
        rintro e W5 ⟨rfl, hb5⟩
        have g5 := grown_below hb5 none
        have HL5 : Hid (Loc W5 X0 #[.int .i64 0, .slice none 0 0, .slice none 0 0, .slice none 0 0, .int .i64 0, .bool false, .int .i64 0, .int .i64 0, .string ⟨#[]⟩, .string ⟨#[]⟩, .string ⟨#[]⟩, .string ⟨#[]⟩, .int .i64 0, .string ⟨#[]⟩, .string ⟨#[]⟩, .string ⟨#[]⟩, .slice none 0 0] 29) := HLc.out.grown g5 (by simp)
        have HX5 : Hid (Loc W5 x (qC q (.slice a1 q.spots.length k1) (.slice a2 q.conds.length k2) (.slice a3 q.items.length k3) (.slice a4 q.pairs.length k4)) 29) := HX.out.grown g5 (by simp)
        have HW5 : Hid (Below W.heap.size W W5) := below_of (b := W.heap.size) HWc.out (grown_below hb5 _) (Nat.le_refl _)
        have HR5 : Hid (QRows Wz.heap.size q (.slice a1 q.spots.length k1) (.slice a2 q.conds.length k2) (.slice a3 q.items.length k3) (.slice a4 q.pairs.length k4) W5) := ⟨kept_none HR.out.rs g5, kept_none HR.out.rc g5, kept_none HR.out.rt g5, kept_none HR.out.rp g5⟩
        clear hb5 g5 HLc HX HWc HR b1 b2
        rw [HSC.out]
        have HWHY : Hid (parseText (toks s) = (query0, 4)) := by show _ = _; rw [HP.out, HSC.out]; rfl
        go_upto_region 20 with fail
        refine wp_region_lit ?_
        refine wpList_zeroQuery rfl rfl ?_
        refine wpList_store_mid rfl 29 _ _ rfl X0 0 #[.int .i64 0, .slice none 0 0, .slice none 0 0, .slice none 0 0, .int .i64 0, .bool false, .int .i64 0, .int .i64 0, .string ⟨#[]⟩, .string ⟨#[]⟩, .string ⟨#[]⟩, .string ⟨#[]⟩, .int .i64 0, .string ⟨#[]⟩, .string ⟨#[]⟩, .string ⟨#[]⟩, .slice none 0 0] rfl rfl HL5.out.there Tryz.sizeQuery z_one ?_
        have hF : Loc (W5.setCells X0 0 (#[.int .i64 0, .slice none 0 0, .slice none 0 0, .slice none 0 0, .int .i64 0, .bool false, .int .i64 0, .int .i64 0, .string ⟨#[]⟩, .string ⟨#[]⟩, .string ⟨#[]⟩, .string ⟨#[]⟩, .int .i64 0, .string ⟨#[]⟩, .string ⟨#[]⟩, .string ⟨#[]⟩, .slice none 0 0] : Array Value).toList) X0 #[.int .i64 0, .slice none 0 0, .slice none 0 0, .slice none 0 0, .int .i64 0, .bool false, .int .i64 0, .int .i64 0, .string ⟨#[]⟩, .string ⟨#[]⟩, .string ⟨#[]⟩, .string ⟨#[]⟩, .int .i64 0, .string ⟨#[]⟩, .string ⟨#[]⟩, .string ⟨#[]⟩, .slice none 0 0] 29 := HL5.out.setAll rfl
        have hG := grown_setMany X0 (#[.int .i64 0, .slice none 0 0, .slice none 0 0, .slice none 0 0, .int .i64 0, .bool false, .int .i64 0, .int .i64 0, .string ⟨#[]⟩, .string ⟨#[]⟩, .string ⟨#[]⟩, .string ⟨#[]⟩, .int .i64 0, .string ⟨#[]⟩, .string ⟨#[]⟩, .string ⟨#[]⟩, .slice none 0 0] : Array Value).toList 0 W5
        obtain ⟨WF, hWF⟩ : ∃ WF, W5.setCells X0 0 (#[.int .i64 0, .slice none 0 0, .slice none 0 0, .slice none 0 0, .int .i64 0, .bool false, .int .i64 0, .int .i64 0, .string ⟨#[]⟩, .string ⟨#[]⟩, .string ⟨#[]⟩, .string ⟨#[]⟩, .int .i64 0, .string ⟨#[]⟩, .string ⟨#[]⟩, .string ⟨#[]⟩, .slice none 0 0] : Array Value).toList = WF := ⟨_, rfl⟩
        rw [hWF] at hF hG ⊢
        clear hWF
        go_wp2_with fail
        refine bodyPost_ret (v := .tuple #[.agg #[.int .i64 0, .slice none 0 0, .slice none 0 0, .slice none 0 0, .int .i64 0, .bool false, .int .i64 0, .int .i64 0, .string ⟨#[]⟩, .string ⟨#[]⟩, .string ⟨#[]⟩, .string ⟨#[]⟩, .int .i64 0, .string ⟨#[]⟩, .string ⟨#[]⟩, .string ⟨#[]⟩, .slice none 0 0], .int .i64 4]) (retQuery Tryz.results14 rfl rfl hF rfl) rfl ⟨?_, .slice none 0 0, .slice none 0 0, .slice none 0 0, .slice none 0 0, ?_, ?_⟩
        · exact below_of (b := X0) HW5.out hG hXW
        · rw [HWHY.out]; rfl
        · rw [HWHY.out]; exact QRows.none _ _


set_option maxRecDepth 100000 in
set_option maxHeartbeats 9000000 in
theorem refParseOk (s : ByteArray) (W : World) (hs : s.size ≤ maxLen) {ts : List Tok} (hts : toks s = some ts) {q0 : PQuery} {s0 : RS} (Hq0 : Hid (queryR ⟨ts, false⟩ = (q0, s0))) (Hbad : Hid (s0.bad = false)) (Hr0 : Hid (s0.rest.length = 0)) (Hsc : Hid (scopedR q0 = true)) : Calls Tryz.prog 14 #[.string s] W (ParsePost (parseText (toks s)) W) := by
  have hB0 : Below W.heap.size W (W.alloc (.cells #[.int .i64 0, .slice none 0 0, .slice none 0 0, .slice none 0 0, .int .i64 0, .bool false, .int .i64 0, .int .i64 0, .string ⟨#[]⟩, .string ⟨#[]⟩, .string ⟨#[]⟩, .string ⟨#[]⟩, .int .i64 0, .string ⟨#[]⟩, .string ⟨#[]⟩, .string ⟨#[]⟩, .slice none 0 0] 29)) := Below.alloc (Below.refl _ _) (Nat.le_refl _) _
  have L0 := Loc.new W #[.int .i64 0, .slice none 0 0, .slice none 0 0, .slice none 0 0, .int .i64 0, .bool false, .int .i64 0, .int .i64 0, .string ⟨#[]⟩, .string ⟨#[]⟩, .string ⟨#[]⟩, .string ⟨#[]⟩, .int .i64 0, .string ⟨#[]⟩, .string ⟨#[]⟩, .string ⟨#[]⟩, .slice none 0 0] 29
  have HZ := size_alloc W (.cells #[.int .i64 0, .slice none 0 0, .slice none 0 0, .slice none 0 0, .int .i64 0, .bool false, .int .i64 0, .int .i64 0, .string ⟨#[]⟩, .string ⟨#[]⟩, .string ⟨#[]⟩, .string ⟨#[]⟩, .int .i64 0, .string ⟨#[]⟩, .string ⟨#[]⟩, .string ⟨#[]⟩, .slice none 0 0] 29)
  have HB0 := Lib.hid hB0
  have HL0 := Lib.hid L0
  clear hB0 L0
  go_enter Tryz.func14, Tryz.ntmps14
  go_wp2_with fail
  obtain ⟨X0, hX0⟩ : ∃ X0, X0 = W.heap.size := ⟨_, rfl⟩
  rw [← hX0] at HL0 ⊢
  have hXW : W.heap.size ≤ X0 := by omega
  have hXZ : X0 + 1 = (W.alloc (.cells #[.int .i64 0, .slice none 0 0, .slice none 0 0, .slice none 0 0, .int .i64 0, .bool false, .int .i64 0, .int .i64 0, .string ⟨#[]⟩, .string ⟨#[]⟩, .string ⟨#[]⟩, .string ⟨#[]⟩, .int .i64 0, .string ⟨#[]⟩, .string ⟨#[]⟩, .string ⟨#[]⟩, .slice none 0 0] 29)).heap.size := by rw [HZ, hX0]
  clear hX0
  generalize W.alloc (.cells #[.int .i64 0, .slice none 0 0, .slice none 0 0, .slice none 0 0, .int .i64 0, .bool false, .int .i64 0, .int .i64 0, .string ⟨#[]⟩, .string ⟨#[]⟩, .string ⟨#[]⟩, .string ⟨#[]⟩, .int .i64 0, .string ⟨#[]⟩, .string ⟨#[]⟩, .string ⟨#[]⟩, .slice none 0 0] 29) = Wz at HB0 HL0 HZ hXZ ⊢
  refine (refTokensAny s Wz hs).mono ?_
  rintro e W1 ⟨hb1, hr⟩
  have HB1 := Lib.hid hb1
  have hs1 := hb1.size
  rcases hr with ⟨hno, rfl⟩ | ⟨ts', lv, hts2, rfl, hown⟩
  · rw [hts] at hno; cases hno
  · obtain rfl : ts = ts' := by rw [hts] at hts2; exact Option.some.inj hts2
    clear hts2
    have hl := toks_len hts
    obtain ⟨ao, ca, rfl, hca⟩ := row_slice (l := ts) hown
    have HQ0 := Lib.hid (QAt.start hb1 hown hl)
    clear hb1 hown HB1
    go_upto_region 6 with fail
    obtain ⟨x, hx⟩ : ∃ x, x = W1.heap.size + 1 := ⟨_, rfl⟩
    obtain ⟨b, hb⟩ : ∃ b, b = W1.heap.size := ⟨_, rfl⟩
    have hbW : Wz.heap.size ≤ b := by omega
    have hbX : X0 ≠ b := by omega
    rw [← hx, ← hb] at HQ0 ⊢
    clear hx hb hs1
    generalize (W1.alloc (.cells #[.slice ao ts.length ca, .int .i64 0, .bool false] 76)).alloc (.cells #[.int .i64 0, .slice none 0 0, .slice none 0 0, .slice none 0 0, .int .i64 0, .bool false, .int .i64 0, .int .i64 0, .string ⟨#[]⟩, .string ⟨#[]⟩, .string ⟨#[]⟩, .string ⟨#[]⟩, .int .i64 0, .string ⟨#[]⟩, .string ⟨#[]⟩, .string ⟨#[]⟩, .slice none 0 0] 29) = W2 at HQ0 ⊢
    have HQ : Hid (QAt Wz b (.slice ao ts.length ca) ts ⟨ts, false⟩ x (qC query0 (.slice none 0 0) (.slice none 0 0) (.slice none 0 0) (.slice none 0 0)) ⟨(.slice none 0 0), [], (.slice none 0 0), [], (.slice none 0 0), [], (.slice none 0 0), []⟩ W2) := HQ0.out
    clear HQ0
    obtain ⟨m0, hm0⟩ : ∃ m0, peekR kCREATE ⟨ts, false⟩ = m0 := ⟨_, rfl⟩
    have HM0 := Lib.hid hm0
    obtain ⟨s1, hs1⟩ : ∃ s1, hasR kCREATE ⟨ts, false⟩ = s1 := ⟨_, rfl⟩
    have HS1 := Lib.hid hs1
    clear hm0 hs1
    go_wp2_with fail
    refine (has HQ.out.ri kCREATE m0 HM0.out).mono ?_
    rintro e W3 ⟨rfl, h3, g3⟩
    rw [HS1.out] at h3
    have H3 := Lib.hid (HQ.out.call h3 g3)
    clear h3 g3 HQ
    go_upto_region 7 with fail
    go_cut [9] (fun v w => ∃ m s2, v = .bool m ∧ QAt Wz b (.slice ao ts.length ca) ts s2 x (qC query0 (.slice none 0 0) (.slice none 0 0) (.slice none 0 0) (.slice none 0 0)) ⟨(.slice none 0 0), [], (.slice none 0 0), [], (.slice none 0 0), [], (.slice none 0 0), []⟩ w ∧ ((m0 = true ∧ m = false ∧ s2 = s1) ∨ (m0 = false ∧ m = peekR kCALL s1 ∧ s2 = hasR kCALL s1)))
    case first =>
      cases m0 with
      | true =>
        go_wp2_with fail
        go_meet
        case rel => exact ⟨false, s1, rfl, H3.out, Or.inl ⟨trivial, rfl, rfl⟩⟩
      | false =>
        obtain ⟨mc, hmc⟩ : ∃ mc, peekR kCALL s1 = mc := ⟨_, rfl⟩
        have HMC := Lib.hid hmc
        clear hmc
        go_wp2_with fail
        refine (has H3.out.ri kCALL mc HMC.out).mono ?_
        rintro e W4 ⟨rfl, h4, g4⟩
        have H4 := Lib.hid (H3.out.call h4 g4)
        clear h4 g4
        go_wp2_with fail
        go_meet
        case rel => exact ⟨mc, _, rfl, H4.out, Or.inr ⟨trivial, HMC.out.symm, rfl⟩⟩
    case rest =>
      obtain ⟨m, s2, rfl, hq2, hcase⟩ := hcut
      have H4 := Lib.hid hq2
      have HCA := Lib.hid hcase
      clear hq2 hcase H3
      go_upto_block 0 with fail
      go_cut [] (fun w => ∃ q vs vc vi vp s3, QAt Wz b (.slice ao ts.length ca) ts s3 x (qC q vs vc vi vp) ⟨vs, q.spots, vc, q.conds, vi, q.items, vp, q.pairs⟩ w ∧ queryR ⟨ts, false⟩ = (q, s3))
      case first =>
        cases m0 with
        | true =>
          have HE : Hid (s2 = s1) := by rcases HCA.out with ⟨_, _, e⟩ | ⟨e, _⟩; exact e; cases e
          go_wp2_with fail
          refine (make_ H4.out).mono ?_
          rintro e W5 ⟨rfl, vp, hq⟩
          have H5 := Lib.hid hq
          clear hq
          go_wp2_with fail
          go_meet
          case rel => exact ⟨{ query0 with kind := 5, label := (makeR s2).1.1, pairs := (makeR s2).1.2 }, (.slice none 0 0), (.slice none 0 0), (.slice none 0 0), vp, (makeR s2).2, H5.out, by unfold queryR; simp only [HM0.out, HS1.out, if_true, HE.out]⟩
        | false =>
          have HE : Hid (m = peekR kCALL s1 ∧ s2 = hasR kCALL s1) := by rcases HCA.out with ⟨e, _⟩ | ⟨_, a, b⟩; cases e; exact ⟨a, b⟩
          have HE1 : Hid (s1 = ⟨ts, false⟩) := by show _ = _; rw [← HS1.out]; exact hasR_not HM0.out
          cases m with
          | true =>
            obtain ⟨nm, s3, hnm⟩ : ∃ n sz, nameR s2 = (n, sz) := ⟨_, _, rfl⟩
            have HNM := Lib.hid hnm
            have c0 : wc.cell? ⟨x, 0, none⟩ = some (.int .i64 0) := (H4.out.lq.cell 0).trans rfl
            have f0 : wc.frozen? ⟨x, 0, none⟩ = false := H4.out.lq.free 0
            have H5 := Lib.hid (H4.out.set 0 (.int .i64 6))
            clear hnm H4
            go_wp2_with fail
            generalize wc.setCell ⟨x, 0, none⟩ (.int .i64 6) = W5 at H5 ⊢
            clear c0 f0
            refine (nameIs H5.out.ri HNM.out).mono ?_
            rintro e W6 ⟨rfl, h6, g6⟩
            have H6a := H5.out.call h6 g6
            have c8 : W6.cell? ⟨x, 8, none⟩ = some (.string ⟨#[]⟩) := (H6a.lq.cell 8).trans rfl
            have f8 : W6.frozen? ⟨x, 8, none⟩ = false := H6a.lq.free 8
            have H6 := Lib.hid (H6a.set 8 (.string nm))
            clear h6 g6 H6a H5
            go_wp2_with fail
            go_meet
            case rel => exact ⟨{ query0 with kind := 6, name := nm }, (.slice none 0 0), (.slice none 0 0), (.slice none 0 0), (.slice none 0 0), s3, H6.out, by have h1 := HE.out; rw [HE1.out] at h1; unfold queryR; simp only [HM0.out, ← h1.1, ← h1.2, Bool.false_eq_true, if_false, if_true, HNM.out]⟩
          | false =>
            have HE2 : Hid (s2 = ⟨ts, false⟩) := by have h1 := HE.out; show _ = _; rw [h1.2, hasR_not h1.1.symm]; exact HE1.out
            go_wp2_with fail
            refine (match_ H4.out).mono ?_
            rintro e W5 ⟨rfl, vs, vc, hq⟩
            obtain ⟨sp, cd, s3, hms⟩ : ∃ sp cd s3, matchR s2 = ((sp, cd), s3) := ⟨_, _, _, rfl⟩
            rw [hms] at hq
            have HMS := Lib.hid hms
            have H5 := Lib.hid hq
            have q2 : W5.cell? ⟨b, 2, none⟩ = some (.bool s3.bad) := (hq.ri.box.cell 2).trans rfl
            have HQY : Hid (queryR ⟨ts, false⟩ = if s3.bad then ({ query0 with spots := sp, conds := cd }, s3) else behindR { query0 with spots := sp, conds := cd } s3) := by
              have h1 := HE.out.1
              rw [HE1.out] at h1
              show _ = _
              unfold queryR
              have h2 := HMS.out
              rw [HE2.out] at h2
              simp only [HM0.out, ← h1, Bool.false_eq_true, if_false, h2]
            clear hq hms H4
            cases hb3 : s3.bad with
            | true =>
              have HB3 := Lib.hid hb3
              rw [hb3] at q2
              clear hb3
              go_wp2_with fail
              go_meet
              case rel => exact ⟨{ query0 with spots := sp, conds := cd }, vs, vc, (.slice none 0 0), (.slice none 0 0), s3, H5.out, by rw [HQY.out, HB3.out]; rfl⟩
            | false =>
              have HB3 := Lib.hid hb3
              rw [hb3] at q2
              clear hb3
              go_wp2_with fail
              refine (behind H5.out).mono ?_
              rintro e W6 ⟨rfl, vi, hq⟩
              have H6 := Lib.hid hq
              clear hq q2
              go_wp2_with fail
              go_meet
              case rel =>
                refine ⟨(behindR { query0 with spots := sp, conds := cd } s3).1, vs, vc, vi, (.slice none 0 0), (behindR { query0 with spots := sp, conds := cd } s3).2, ?_, by rw [HQY.out, HB3.out]; rfl⟩
                have e1 := behindR_keeps { query0 with spots := sp, conds := cd } s3
                rw [e1.1, e1.2.1, e1.2.2]
                exact H6.out
      case rest =>
        clear H4 HCA
        obtain ⟨q, vs, vc, vi, vp, s3, hq, hqy⟩ := hcut
        obtain ⟨a1, k1, rfl, _⟩ := row_slice (l := q.spots) hq.rs
        obtain ⟨a2, k2, rfl, _⟩ := row_slice (l := q.conds) hq.rc
        obtain ⟨a3, k3, rfl, _⟩ := row_slice (l := q.items) hq.rt
        obtain ⟨a4, k4, rfl, _⟩ := row_slice (l := q.pairs) hq.rp
        have HLc : Hid (Loc wc X0 #[.int .i64 0, .slice none 0 0, .slice none 0 0, .slice none 0 0, .int .i64 0, .bool false, .int .i64 0, .int .i64 0, .string ⟨#[]⟩, .string ⟨#[]⟩, .string ⟨#[]⟩, .string ⟨#[]⟩, .int .i64 0, .string ⟨#[]⟩, .string ⟨#[]⟩, .string ⟨#[]⟩, .slice none 0 0] 29) := HL0.out.grown hq.grown (by intro e; injection e with e; exact hbX e)
        have HWc : Hid (Below W.heap.size W wc) := below_of HB0.out hq.grown (by omega)
        have HQY := Lib.hid hqy
        have HX : Hid (Loc wc x (qC q (.slice a1 q.spots.length k1) (.slice a2 q.conds.length k2) (.slice a3 q.items.length k3) (.slice a4 q.pairs.length k4)) 29) := hq.lq
        have HR : Hid (QRows Wz.heap.size q (.slice a1 q.spots.length k1) (.slice a2 q.conds.length k2) (.slice a3 q.items.length k3) (.slice a4 q.pairs.length k4) wc) := ⟨hq.rs, hq.rc, hq.rt, hq.rp⟩
        obtain ⟨_, _, k, _, _, _, hk, hkl, _, b1, b2, _⟩ := hq.ri.seen
        clear hq HL0 HB0
        have hqq : q0 = q ∧ s0 = s3 := by rw [Hq0.out] at hqy; exact ⟨congrArg Prod.fst hqy, congrArg Prod.snd hqy⟩
        clear hqy
        have hbad : s3.bad = false := by rw [← hqq.2]; exact Hbad.out
        have hr0 : s3.rest.length = 0 := by rw [← hqq.2]; exact Hr0.out
        have HSC : Hid (scopedR q = true) := by show _ = _; rw [← hqq.1]; exact Hsc.out
        clear hqq
        rw [hbad] at b2
        have hkt : (k : Int) = (ts.length : Int) := by omega
        have hre : s3.rest = [] := List.length_eq_zero_iff.1 hr0
        have hsm := query_small (st := ⟨ts, false⟩) (by rw [HQY.out]; exact hbad)
        rw [HQY.out] at hsm
        obtain ⟨hs1, hs2, hs3⟩ := hsm
        have HP : Hid (parseText (toks s) = if scopedR q then (q, 0) else (query0, 4)) := by show _ = _; rw [hts]; unfold parseText parseR; simp only [HQY.out, hbad, hre]; rfl
        clear hbad hre hr0
        go_upto_region 18 with fail
        refine wp_region_lit ?_
        refine wpList_load_mid rfl 29 _ rfl x 0 rfl (qC q (.slice a1 q.spots.length k1) (.slice a2 q.conds.length k2) (.slice a3 q.items.length k3) (.slice a4 q.pairs.length k4)).toList _ HX.out.range Tryz.underlying29 rfl (by rw [Tryz.sizeQuery]; rfl) ?_
        go_wp2_with fail
        refine (scope_ (q := q) HR.out.rs HR.out.rc HR.out.rt (by omega) (by omega) (by omega)).mono ?_
        rintro e W5 ⟨rfl, hb5⟩
        have g5 := grown_below hb5 none
        have HL5 : Hid (Loc W5 X0 #[.int .i64 0, .slice none 0 0, .slice none 0 0, .slice none 0 0, .int .i64 0, .bool false, .int .i64 0, .int .i64 0, .string ⟨#[]⟩, .string ⟨#[]⟩, .string ⟨#[]⟩, .string ⟨#[]⟩, .int .i64 0, .string ⟨#[]⟩, .string ⟨#[]⟩, .string ⟨#[]⟩, .slice none 0 0] 29) := HLc.out.grown g5 (by simp)
        have HX5 : Hid (Loc W5 x (qC q (.slice a1 q.spots.length k1) (.slice a2 q.conds.length k2) (.slice a3 q.items.length k3) (.slice a4 q.pairs.length k4)) 29) := HX.out.grown g5 (by simp)
        have HW5 : Hid (Below W.heap.size W W5) := below_of (b := W.heap.size) HWc.out (grown_below hb5 _) (Nat.le_refl _)
        have HR5 : Hid (QRows Wz.heap.size q (.slice a1 q.spots.length k1) (.slice a2 q.conds.length k2) (.slice a3 q.items.length k3) (.slice a4 q.pairs.length k4) W5) := ⟨kept_none HR.out.rs g5, kept_none HR.out.rc g5, kept_none HR.out.rt g5, kept_none HR.out.rp g5⟩
        clear hb5 g5 HLc HX HWc HR b1 b2
        rw [HSC.out]
        have HOK : Hid (parseText (toks s) = (q, 0)) := by show _ = _; rw [HP.out, HSC.out]; rfl
        go_upto_region 21 with fail
        refine wp_region_lit ?_
        refine wpList_load_mid rfl 29 _ rfl x 0 rfl (qC q (.slice a1 q.spots.length k1) (.slice a2 q.conds.length k2) (.slice a3 q.items.length k3) (.slice a4 q.pairs.length k4)).toList _ HX5.out.range Tryz.underlying29 rfl (by rw [Tryz.sizeQuery]; rfl) ?_
        refine wpList_store_mid rfl 29 _ _ rfl X0 0 (qC q (.slice a1 q.spots.length k1) (.slice a2 q.conds.length k2) (.slice a3 q.items.length k3) (.slice a4 q.pairs.length k4)) rfl rfl HL5.out.there Tryz.sizeQuery (qC_one q) ?_
        have hF : Loc (W5.setCells X0 0 (qC q (.slice a1 q.spots.length k1) (.slice a2 q.conds.length k2) (.slice a3 q.items.length k3) (.slice a4 q.pairs.length k4)).toList) X0 (qC q (.slice a1 q.spots.length k1) (.slice a2 q.conds.length k2) (.slice a3 q.items.length k3) (.slice a4 q.pairs.length k4)) 29 := HL5.out.setAll rfl
        have hG := grown_setMany X0 (qC q (.slice a1 q.spots.length k1) (.slice a2 q.conds.length k2) (.slice a3 q.items.length k3) (.slice a4 q.pairs.length k4)).toList 0 W5
        obtain ⟨WF, hWF⟩ : ∃ WF, W5.setCells X0 0 (qC q (.slice a1 q.spots.length k1) (.slice a2 q.conds.length k2) (.slice a3 q.items.length k3) (.slice a4 q.pairs.length k4)).toList = WF := ⟨_, rfl⟩
        rw [hWF] at hF hG ⊢
        clear hWF
        go_wp2_with fail
        refine bodyPost_ret (v := .tuple #[.agg (qC q (.slice a1 q.spots.length k1) (.slice a2 q.conds.length k2) (.slice a3 q.items.length k3) (.slice a4 q.pairs.length k4)), .int .i64 0]) (retQuery Tryz.results14 rfl rfl hF rfl) rfl ⟨?_, (.slice a1 q.spots.length k1), (.slice a2 q.conds.length k2), (.slice a3 q.items.length k3), (.slice a4 q.pairs.length k4), ?_, ?_⟩
        · exact below_of (b := X0) HW5.out hG hXW
        · rw [HOK.out]
        · rw [HOK.out]
          have hw : W.heap.size ≤ Wz.heap.size := by omega
          exact ⟨row_weaken (HR5.out.rs.kept hG (Or.inr (row_loc HR5.out.rs HL5.out (by decide)))) hw, row_weaken (HR5.out.rc.kept hG (Or.inr (row_loc HR5.out.rc HL5.out (by decide)))) hw, row_weaken (HR5.out.rt.kept hG (Or.inr (row_loc HR5.out.rt HL5.out (by decide)))) hw, row_weaken (HR5.out.rp.kept hG (Or.inr (row_loc HR5.out.rp HL5.out (by decide)))) hw⟩


theorem refParse (s : ByteArray) (W : World) (hs : s.size ≤ maxLen) : Calls Tryz.prog 14 #[.string s] W (ParsePost (parseText (toks s)) W) := by
  cases hts : toks s with
  | none => rw [← hts]; exact refParseNone s W hs hts
  | some ts =>
    rw [← hts]
    cases hq0 : queryR ⟨ts, false⟩ with
    | mk q0 s0 =>
      cases hbad : s0.bad with
      | true => exact refParseBad s W hs hts hq0 hbad
      | false =>
        by_cases hr0 : s0.rest.length = 0
        · cases hsc : scopedR q0 with
          | true => exact refParseOk s W hs hts hq0 hbad hr0 hsc
          | false => exact refParseOut s W hs hts hq0 hbad hr0 hsc
        · exact refParseRest s W hs hts hq0 hbad hr0

end Go.Proofs.YtobgbmfpicmpcaaGreatDoor

/- The reference's Same. -/
namespace Go.Proofs.YtobgbmfpicmpcaaGreatDoor
open Go.RowKit

/-- What stands in memory while two queries are looked at. -/
structure TwoAt (W : World) (X Y : Nat) (ca cb : Array Value) (B1 B2 : Nat) (a b : PQuery) (vs vc vi vp us uc ui up : Value) (w : World) : Prop where
  low : Below W.heap.size W w
  la : Loc w X ca 29
  lb : Loc w Y cb 29
  ra : QRows B1 a vs vc vi vp w
  rb : QRows B2 b us uc ui up w
theorem rows_quiet {B : Nat} {q : PQuery} {vs vc vi vp : Value} {w w2 : World} (h : QRows B q vs vc vi vp w) (g : w.grownBy w2 none) : QRows B q vs vc vi vp w2 :=
  ⟨kept_none h.rs g, kept_none h.rc g, kept_none h.rt g, kept_none h.rp g⟩
theorem TwoAt.drew {W : World} {X Y : Nat} {ca cb : Array Value} {B1 B2 : Nat} {a b : PQuery} {vs vc vi vp us uc ui up : Value} {w : World} (h : TwoAt W X Y ca cb B1 B2 a b vs vc vi vp us uc ui up w) (n : Nat) : TwoAt W X Y ca cb B1 B2 a b vs vc vi vp us uc ui up (w.drewN n) :=
  ⟨⟨h.low.os, h.low.tape, h.low.output, h.low.size, fun k hk => h.low.block k hk⟩, h.la.drew n, h.lb.drew n, rows_quiet h.ra (grown_drew w n none), rows_quiet h.rb (grown_drew w n none)⟩

set_option maxRecDepth 100000 in
set_option maxHeartbeats 9000000 in
theorem sameYes {B1 B2 : Nat} {q : PQuery} {vs vc vi vp us uc ui up : Value} {W : World} (h1 : QRows B1 q vs vc vi vp W) (h2 : QRows B2 q us uc ui up W) (hs1 : q.spots.length ≤ 3000) (hs2 : q.conds.length ≤ 3000) (hs3 : q.items.length ≤ 3000) (hs4 : q.pairs.length ≤ 3000) :
    Calls Tryz.prog 16 #[.agg (qC q vs vc vi vp), .agg (qC q us uc ui up)] W fun e W' => e = .returned (.bool true) ∧ Below W.heap.size W W' := by
  obtain ⟨a1, k1, rfl, _⟩ := row_slice (l := q.spots) h1.rs
  obtain ⟨b1, l1, rfl, _⟩ := row_slice (l := q.spots) h2.rs
  obtain ⟨a2, k2, rfl, _⟩ := row_slice (l := q.conds) h1.rc
  obtain ⟨b2, l2, rfl, _⟩ := row_slice (l := q.conds) h2.rc
  obtain ⟨a3, k3, rfl, _⟩ := row_slice (l := q.items) h1.rt
  obtain ⟨b3, l3, rfl, _⟩ := row_slice (l := q.items) h2.rt
  obtain ⟨a4, k4, rfl, _⟩ := row_slice (l := q.pairs) h1.rp
  obtain ⟨b4, l4, rfl, _⟩ := row_slice (l := q.pairs) h2.rp
  go_enter Tryz.func16, Tryz.ntmps16
  go_upto_region 1 with fail
  obtain ⟨X, hX⟩ : ∃ X, X = W.heap.size := ⟨_, rfl⟩
  obtain ⟨Y, hY⟩ : ∃ Y, Y = W.heap.size + 1 := ⟨_, rfl⟩
  have H0 : Hid (TwoAt W X Y (qC q (.slice a1 q.spots.length k1) (.slice a2 q.conds.length k2) (.slice a3 q.items.length k3) (.slice a4 q.pairs.length k4)) (qC q (.slice b1 q.spots.length l1) (.slice b2 q.conds.length l2) (.slice b3 q.items.length l3) (.slice b4 q.pairs.length l4)) B1 B2 q q (.slice a1 q.spots.length k1) (.slice a2 q.conds.length k2) (.slice a3 q.items.length k3) (.slice a4 q.pairs.length k4) (.slice b1 q.spots.length l1) (.slice b2 q.conds.length l2) (.slice b3 q.items.length l3) (.slice b4 q.pairs.length l4) ((W.alloc (.cells (qC q (.slice a1 q.spots.length k1) (.slice a2 q.conds.length k2) (.slice a3 q.items.length k3) (.slice a4 q.pairs.length k4)) 29)).alloc (.cells (qC q (.slice b1 q.spots.length l1) (.slice b2 q.conds.length l2) (.slice b3 q.items.length l3) (.slice b4 q.pairs.length l4)) 29))) := by
    have g1 := grown_alloc W (.cells (qC q (.slice a1 q.spots.length k1) (.slice a2 q.conds.length k2) (.slice a3 q.items.length k3) (.slice a4 q.pairs.length k4)) 29) none
    have g2 := grown_alloc (W.alloc (.cells (qC q (.slice a1 q.spots.length k1) (.slice a2 q.conds.length k2) (.slice a3 q.items.length k3) (.slice a4 q.pairs.length k4)) 29)) (.cells (qC q (.slice b1 q.spots.length l1) (.slice b2 q.conds.length l2) (.slice b3 q.items.length l3) (.slice b4 q.pairs.length l4)) 29) none
    have hs := size_alloc W (.cells (qC q (.slice a1 q.spots.length k1) (.slice a2 q.conds.length k2) (.slice a3 q.items.length k3) (.slice a4 q.pairs.length k4)) 29)
    refine ⟨Below.alloc (Below.alloc (Below.refl _ _) (Nat.le_refl _) _) (by omega) _, ?_, ?_, rows_quiet (rows_quiet h1 g1) g2, rows_quiet (rows_quiet h2 g1) g2⟩
    · rw [hX]; exact (Loc.new W _ _).alloc _
    · rw [hY, ← hs]; exact Loc.new _ _ _
  rw [← hY, ← hX]
  clear hX hY h1 h2
  generalize (W.alloc (.cells (qC q (.slice a1 q.spots.length k1) (.slice a2 q.conds.length k2) (.slice a3 q.items.length k3) (.slice a4 q.pairs.length k4)) 29)).alloc (.cells (qC q (.slice b1 q.spots.length l1) (.slice b2 q.conds.length l2) (.slice b3 q.items.length l3) (.slice b4 q.pairs.length l4)) 29) = W1 at H0 ⊢
  have x1 : W1.cell? ⟨X, 1, none⟩ = some (.slice a1 q.spots.length k1) := (H0.out.la.cell 1).trans rfl
  have y1 : W1.cell? ⟨Y, 1, none⟩ = some (.slice b1 q.spots.length l1) := (H0.out.lb.cell 1).trans rfl
  have x2 : W1.cell? ⟨X, 2, none⟩ = some (.slice a2 q.conds.length k2) := (H0.out.la.cell 2).trans rfl
  have y2 : W1.cell? ⟨Y, 2, none⟩ = some (.slice b2 q.conds.length l2) := (H0.out.lb.cell 2).trans rfl
  have x3 : W1.cell? ⟨X, 3, none⟩ = some (.slice a3 q.items.length k3) := (H0.out.la.cell 3).trans rfl
  have y3 : W1.cell? ⟨Y, 3, none⟩ = some (.slice b3 q.items.length l3) := (H0.out.lb.cell 3).trans rfl
  have x16 : W1.cell? ⟨X, 16, none⟩ = some (.slice a4 q.pairs.length k4) := (H0.out.la.cell 16).trans rfl
  have y16 : W1.cell? ⟨Y, 16, none⟩ = some (.slice b4 q.pairs.length l4) := (H0.out.lb.cell 16).trans rfl
  go_upto_block 0 with fail
  clear x1 x2 x3 x16 y1 y2 y3 y16
  go_cut [5] (fun _ w => TwoAt W X Y (qC q (.slice a1 q.spots.length k1) (.slice a2 q.conds.length k2) (.slice a3 q.items.length k3) (.slice a4 q.pairs.length k4)) (qC q (.slice b1 q.spots.length l1) (.slice b2 q.conds.length l2) (.slice b3 q.items.length l3) (.slice b4 q.pairs.length l4)) B1 B2 q q (.slice a1 q.spots.length k1) (.slice a2 q.conds.length k2) (.slice a3 q.items.length k3) (.slice a4 q.pairs.length k4) (.slice b1 q.spots.length l1) (.slice b2 q.conds.length l2) (.slice b3 q.items.length l3) (.slice b4 q.pairs.length l4) w)
  case first =>
    go_wp2_with fail
    go_loopg [5] q.spots.length (fun n iv w => ∃ k : Nat, iv = .int .i64 (k : Int) ∧ k + n = q.spots.length ∧ TwoAt W X Y (qC q (.slice a1 q.spots.length k1) (.slice a2 q.conds.length k2) (.slice a3 q.items.length k3) (.slice a4 q.pairs.length k4)) (qC q (.slice b1 q.spots.length l1) (.slice b2 q.conds.length l2) (.slice b3 q.items.length l3) (.slice b4 q.pairs.length l4)) B1 B2 q q (.slice a1 q.spots.length k1) (.slice a2 q.conds.length k2) (.slice a3 q.items.length k3) (.slice a4 q.pairs.length k4) (.slice b1 q.spots.length l1) (.slice b2 q.conds.length l2) (.slice b3 q.items.length l3) (.slice b4 q.pairs.length l4) w)
    case atStart => exact ⟨0, rfl, by omega, H0.out⟩
    case round =>
      obtain ⟨k, rfl, hk, hq⟩ := hrel
      have HQ := Lib.hid hq
      clear H0
      have x1 : wr.cell? ⟨X, 1, none⟩ = some (.slice a1 q.spots.length k1) := (hq.la.cell 1).trans rfl
      have y1 : wr.cell? ⟨Y, 1, none⟩ = some (.slice b1 q.spots.length l1) := (hq.lb.cell 1).trans rfl
      by_cases hlt : k < q.spots.length
      · obtain ⟨g, rfl, ca⟩ := row_at (l := q.spots) fSpot (fun _ => rfl) hq.ra.rs hlt
        obtain ⟨g', rfl, cb⟩ := row_at (l := q.spots) fSpot (fun _ => rfl) hq.rb.rs hlt
        obtain ⟨p, hp⟩ : ∃ p, q.spots[k] = p := ⟨_, rfl⟩
        rw [hp] at ca cb
        have p0 : wr.cell? ⟨g, k * 5, none⟩ = some (.string p.name) := ca 0 (by decide)
        have r0 : wr.cell? ⟨g', k * 5, none⟩ = some (.string p.name) := cb 0 (by decide)
        have p1 : wr.cell? ⟨g, k * 5 + 1, none⟩ = some (.string p.label) := ca 1 (by decide)
        have r1 : wr.cell? ⟨g', k * 5 + 1, none⟩ = some (.string p.label) := cb 1 (by decide)
        have p2 : wr.cell? ⟨g, k * 5 + 2, none⟩ = some (.string p.type) := ca 2 (by decide)
        have r2 : wr.cell? ⟨g', k * 5 + 2, none⟩ = some (.string p.type) := cb 2 (by decide)
        have p3 : wr.cell? ⟨g, k * 5 + 3, none⟩ = some (.int .i64 p.least) := ca 3 (by decide)
        have r3 : wr.cell? ⟨g', k * 5 + 3, none⟩ = some (.int .i64 p.least) := cb 3 (by decide)
        have p4 : wr.cell? ⟨g, k * 5 + 4, none⟩ = some (.int .i64 p.most) := ca 4 (by decide)
        have r4 : wr.cell? ⟨g', k * 5 + 4, none⟩ = some (.int .i64 p.most) := cb 4 (by decide)
        have hki : (k : Int) < (q.spots.length : Int) := by omega
        clear ca cb hp hq
        go_wp2_with fail
        go_quiet (fail)
        have H5 := Lib.hid (HQ.out.drew nq)
        go_wp2_with fail
        go_roundg (gk - 1)
        case measure => omega
        case rel => exact ⟨k + 1, by simp, by omega, H5.out⟩
      · have hki : ¬ (k : Int) < (q.spots.length : Int) := by omega
        go_wp2_with fail
        go_meet
        case rel => exact HQ.out
  case rest =>
    clear H0
    have H1 := Lib.hid hcut
    clear hcut
    go_upto_block 2 with fail
    go_cut [6] (fun _ w => TwoAt W X Y (qC q (.slice a1 q.spots.length k1) (.slice a2 q.conds.length k2) (.slice a3 q.items.length k3) (.slice a4 q.pairs.length k4)) (qC q (.slice b1 q.spots.length l1) (.slice b2 q.conds.length l2) (.slice b3 q.items.length l3) (.slice b4 q.pairs.length l4)) B1 B2 q q (.slice a1 q.spots.length k1) (.slice a2 q.conds.length k2) (.slice a3 q.items.length k3) (.slice a4 q.pairs.length k4) (.slice b1 q.spots.length l1) (.slice b2 q.conds.length l2) (.slice b3 q.items.length l3) (.slice b4 q.pairs.length l4) w)
    case first =>
      go_wp2_with fail
      go_loopg [6] q.conds.length (fun n iv w => ∃ k : Nat, iv = .int .i64 (k : Int) ∧ k + n = q.conds.length ∧ TwoAt W X Y (qC q (.slice a1 q.spots.length k1) (.slice a2 q.conds.length k2) (.slice a3 q.items.length k3) (.slice a4 q.pairs.length k4)) (qC q (.slice b1 q.spots.length l1) (.slice b2 q.conds.length l2) (.slice b3 q.items.length l3) (.slice b4 q.pairs.length l4)) B1 B2 q q (.slice a1 q.spots.length k1) (.slice a2 q.conds.length k2) (.slice a3 q.items.length k3) (.slice a4 q.pairs.length k4) (.slice b1 q.spots.length l1) (.slice b2 q.conds.length l2) (.slice b3 q.items.length l3) (.slice b4 q.pairs.length l4) w)
      case atStart => exact ⟨0, rfl, by omega, H1.out⟩
      case round =>
        obtain ⟨k, rfl, hk, hq⟩ := hrel
        have HQ := Lib.hid hq
        clear H1
        have x1 : wr.cell? ⟨X, 2, none⟩ = some (.slice a2 q.conds.length k2) := (hq.la.cell 2).trans rfl
        have y1 : wr.cell? ⟨Y, 2, none⟩ = some (.slice b2 q.conds.length l2) := (hq.lb.cell 2).trans rfl
        by_cases hlt : k < q.conds.length
        · obtain ⟨g, rfl, ca⟩ := row_at (l := q.conds) fCond (fun _ => rfl) hq.ra.rc hlt
          obtain ⟨g', rfl, cb⟩ := row_at (l := q.conds) fCond (fun _ => rfl) hq.rb.rc hlt
          obtain ⟨p, hp⟩ : ∃ p, q.conds[k] = p := ⟨_, rfl⟩
          rw [hp] at ca cb
          have p0 : wr.cell? ⟨g, k * 7, none⟩ = some (.int .i64 p.op) := ca 0 (by decide)
          have r0 : wr.cell? ⟨g', k * 7, none⟩ = some (.int .i64 p.op) := cb 0 (by decide)
          have p1 : wr.cell? ⟨g, k * 7 + 1, none⟩ = some (.string p.a.name) := ca 1 (by decide)
          have r1 : wr.cell? ⟨g', k * 7 + 1, none⟩ = some (.string p.a.name) := cb 1 (by decide)
          have p2 : wr.cell? ⟨g, k * 7 + 2, none⟩ = some (.string p.a.key) := ca 2 (by decide)
          have r2 : wr.cell? ⟨g', k * 7 + 2, none⟩ = some (.string p.a.key) := cb 2 (by decide)
          have p3 : wr.cell? ⟨g, k * 7 + 3, none⟩ = some (.int .i64 p.a.val) := ca 3 (by decide)
          have r3 : wr.cell? ⟨g', k * 7 + 3, none⟩ = some (.int .i64 p.a.val) := cb 3 (by decide)
          have p4 : wr.cell? ⟨g, k * 7 + 4, none⟩ = some (.string p.b.name) := ca 4 (by decide)
          have r4 : wr.cell? ⟨g', k * 7 + 4, none⟩ = some (.string p.b.name) := cb 4 (by decide)
          have p5 : wr.cell? ⟨g, k * 7 + 5, none⟩ = some (.string p.b.key) := ca 5 (by decide)
          have r5 : wr.cell? ⟨g', k * 7 + 5, none⟩ = some (.string p.b.key) := cb 5 (by decide)
          have p6 : wr.cell? ⟨g, k * 7 + 6, none⟩ = some (.int .i64 p.b.val) := ca 6 (by decide)
          have r6 : wr.cell? ⟨g', k * 7 + 6, none⟩ = some (.int .i64 p.b.val) := cb 6 (by decide)
          have hki : (k : Int) < (q.conds.length : Int) := by omega
          clear ca cb hp hq
          go_wp2_with fail
          go_quiet (fail)
          have H5 := Lib.hid (HQ.out.drew nq)
          go_wp2_with fail
          go_roundg (gk - 1)
          case measure => omega
          case rel => exact ⟨k + 1, by simp, by omega, H5.out⟩
        · have hki : ¬ (k : Int) < (q.conds.length : Int) := by omega
          go_wp2_with fail
          go_meet
          case rel => exact HQ.out
    case rest =>
      clear H1
      have H2 := Lib.hid hcut
      clear hcut
      go_upto_block 4 with fail
      go_cut [7] (fun _ w => TwoAt W X Y (qC q (.slice a1 q.spots.length k1) (.slice a2 q.conds.length k2) (.slice a3 q.items.length k3) (.slice a4 q.pairs.length k4)) (qC q (.slice b1 q.spots.length l1) (.slice b2 q.conds.length l2) (.slice b3 q.items.length l3) (.slice b4 q.pairs.length l4)) B1 B2 q q (.slice a1 q.spots.length k1) (.slice a2 q.conds.length k2) (.slice a3 q.items.length k3) (.slice a4 q.pairs.length k4) (.slice b1 q.spots.length l1) (.slice b2 q.conds.length l2) (.slice b3 q.items.length l3) (.slice b4 q.pairs.length l4) w)
      case first =>
        go_wp2_with fail
        go_loopg [7] q.items.length (fun n iv w => ∃ k : Nat, iv = .int .i64 (k : Int) ∧ k + n = q.items.length ∧ TwoAt W X Y (qC q (.slice a1 q.spots.length k1) (.slice a2 q.conds.length k2) (.slice a3 q.items.length k3) (.slice a4 q.pairs.length k4)) (qC q (.slice b1 q.spots.length l1) (.slice b2 q.conds.length l2) (.slice b3 q.items.length l3) (.slice b4 q.pairs.length l4)) B1 B2 q q (.slice a1 q.spots.length k1) (.slice a2 q.conds.length k2) (.slice a3 q.items.length k3) (.slice a4 q.pairs.length k4) (.slice b1 q.spots.length l1) (.slice b2 q.conds.length l2) (.slice b3 q.items.length l3) (.slice b4 q.pairs.length l4) w)
        case atStart => exact ⟨0, rfl, by omega, H2.out⟩
        case round =>
          obtain ⟨k, rfl, hk, hq⟩ := hrel
          have HQ := Lib.hid hq
          clear H2
          have x1 : wr.cell? ⟨X, 3, none⟩ = some (.slice a3 q.items.length k3) := (hq.la.cell 3).trans rfl
          have y1 : wr.cell? ⟨Y, 3, none⟩ = some (.slice b3 q.items.length l3) := (hq.lb.cell 3).trans rfl
          by_cases hlt : k < q.items.length
          · obtain ⟨g, rfl, ca⟩ := row_at (l := q.items) fItem (fun _ => rfl) hq.ra.rt hlt
            obtain ⟨g', rfl, cb⟩ := row_at (l := q.items) fItem (fun _ => rfl) hq.rb.rt hlt
            obtain ⟨p, hp⟩ : ∃ p, q.items[k] = p := ⟨_, rfl⟩
            rw [hp] at ca cb
            have p0 : wr.cell? ⟨g, k * 2, none⟩ = some (.string p.name) := ca 0 (by decide)
            have r0 : wr.cell? ⟨g', k * 2, none⟩ = some (.string p.name) := cb 0 (by decide)
            have p1 : wr.cell? ⟨g, k * 2 + 1, none⟩ = some (.string p.key) := ca 1 (by decide)
            have r1 : wr.cell? ⟨g', k * 2 + 1, none⟩ = some (.string p.key) := cb 1 (by decide)
            have hki : (k : Int) < (q.items.length : Int) := by omega
            clear ca cb hp hq
            go_wp2_with fail
            go_quiet (fail)
            have H5 := Lib.hid (HQ.out.drew nq)
            go_wp2_with fail
            go_roundg (gk - 1)
            case measure => omega
            case rel => exact ⟨k + 1, by simp, by omega, H5.out⟩
          · have hki : ¬ (k : Int) < (q.items.length : Int) := by omega
            go_wp2_with fail
            go_meet
            case rel => exact HQ.out
      case rest =>
        clear H2
        have H3 := Lib.hid hcut
        clear hcut
        go_upto_block 6 with fail
        go_cut [8] (fun _ w => TwoAt W X Y (qC q (.slice a1 q.spots.length k1) (.slice a2 q.conds.length k2) (.slice a3 q.items.length k3) (.slice a4 q.pairs.length k4)) (qC q (.slice b1 q.spots.length l1) (.slice b2 q.conds.length l2) (.slice b3 q.items.length l3) (.slice b4 q.pairs.length l4)) B1 B2 q q (.slice a1 q.spots.length k1) (.slice a2 q.conds.length k2) (.slice a3 q.items.length k3) (.slice a4 q.pairs.length k4) (.slice b1 q.spots.length l1) (.slice b2 q.conds.length l2) (.slice b3 q.items.length l3) (.slice b4 q.pairs.length l4) w)
        case first =>
          go_wp2_with fail
          go_loopg [8] q.pairs.length (fun n iv w => ∃ k : Nat, iv = .int .i64 (k : Int) ∧ k + n = q.pairs.length ∧ TwoAt W X Y (qC q (.slice a1 q.spots.length k1) (.slice a2 q.conds.length k2) (.slice a3 q.items.length k3) (.slice a4 q.pairs.length k4)) (qC q (.slice b1 q.spots.length l1) (.slice b2 q.conds.length l2) (.slice b3 q.items.length l3) (.slice b4 q.pairs.length l4)) B1 B2 q q (.slice a1 q.spots.length k1) (.slice a2 q.conds.length k2) (.slice a3 q.items.length k3) (.slice a4 q.pairs.length k4) (.slice b1 q.spots.length l1) (.slice b2 q.conds.length l2) (.slice b3 q.items.length l3) (.slice b4 q.pairs.length l4) w)
          case atStart => exact ⟨0, rfl, by omega, H3.out⟩
          case round =>
            obtain ⟨k, rfl, hk, hq⟩ := hrel
            have HQ := Lib.hid hq
            clear H3
            have x1 : wr.cell? ⟨X, 16, none⟩ = some (.slice a4 q.pairs.length k4) := (hq.la.cell 16).trans rfl
            have y1 : wr.cell? ⟨Y, 16, none⟩ = some (.slice b4 q.pairs.length l4) := (hq.lb.cell 16).trans rfl
            by_cases hlt : k < q.pairs.length
            · obtain ⟨g, rfl, ca⟩ := row_at (l := q.pairs) fPair (fun _ => rfl) hq.ra.rp hlt
              obtain ⟨g', rfl, cb⟩ := row_at (l := q.pairs) fPair (fun _ => rfl) hq.rb.rp hlt
              obtain ⟨p, hp⟩ : ∃ p, q.pairs[k] = p := ⟨_, rfl⟩
              rw [hp] at ca cb
              have p0 : wr.cell? ⟨g, k * 2, none⟩ = some (.string p.key) := ca 0 (by decide)
              have r0 : wr.cell? ⟨g', k * 2, none⟩ = some (.string p.key) := cb 0 (by decide)
              have p1 : wr.cell? ⟨g, k * 2 + 1, none⟩ = some (.int .i64 p.val) := ca 1 (by decide)
              have r1 : wr.cell? ⟨g', k * 2 + 1, none⟩ = some (.int .i64 p.val) := cb 1 (by decide)
              have hki : (k : Int) < (q.pairs.length : Int) := by omega
              clear ca cb hp hq
              go_wp2_with fail
              go_quiet (fail)
              have H5 := Lib.hid (HQ.out.drew nq)
              go_wp2_with fail
              go_roundg (gk - 1)
              case measure => omega
              case rel => exact ⟨k + 1, by simp, by omega, H5.out⟩
            · have hki : ¬ (k : Int) < (q.pairs.length : Int) := by omega
              go_wp2_with fail
              go_meet
              case rel => exact HQ.out
        case rest =>
          clear H3
          have H4 := Lib.hid hcut
          clear hcut
          have x0 : wc.cell? ⟨X, 0, none⟩ = some (.int .i64 q.kind) := (H4.out.la.cell 0).trans rfl
          have y0 : wc.cell? ⟨Y, 0, none⟩ = some (.int .i64 q.kind) := (H4.out.lb.cell 0).trans rfl
          have x4 : wc.cell? ⟨X, 4, none⟩ = some (.int .i64 q.order) := (H4.out.la.cell 4).trans rfl
          have y4 : wc.cell? ⟨Y, 4, none⟩ = some (.int .i64 q.order) := (H4.out.lb.cell 4).trans rfl
          have x5 : wc.cell? ⟨X, 5, none⟩ = some (.bool q.down) := (H4.out.la.cell 5).trans rfl
          have y5 : wc.cell? ⟨Y, 5, none⟩ = some (.bool q.down) := (H4.out.lb.cell 5).trans rfl
          have x6 : wc.cell? ⟨X, 6, none⟩ = some (.int .i64 q.skip) := (H4.out.la.cell 6).trans rfl
          have y6 : wc.cell? ⟨Y, 6, none⟩ = some (.int .i64 q.skip) := (H4.out.lb.cell 6).trans rfl
          have x7 : wc.cell? ⟨X, 7, none⟩ = some (.int .i64 q.limit) := (H4.out.la.cell 7).trans rfl
          have y7 : wc.cell? ⟨Y, 7, none⟩ = some (.int .i64 q.limit) := (H4.out.lb.cell 7).trans rfl
          have x8 : wc.cell? ⟨X, 8, none⟩ = some (.string q.name) := (H4.out.la.cell 8).trans rfl
          have y8 : wc.cell? ⟨Y, 8, none⟩ = some (.string q.name) := (H4.out.lb.cell 8).trans rfl
          have x9 : wc.cell? ⟨X, 9, none⟩ = some (.string q.key) := (H4.out.la.cell 9).trans rfl
          have y9 : wc.cell? ⟨Y, 9, none⟩ = some (.string q.key) := (H4.out.lb.cell 9).trans rfl
          have x10 : wc.cell? ⟨X, 10, none⟩ = some (.string q.value.name) := (H4.out.la.cell 10).trans rfl
          have y10 : wc.cell? ⟨Y, 10, none⟩ = some (.string q.value.name) := (H4.out.lb.cell 10).trans rfl
          have x11 : wc.cell? ⟨X, 11, none⟩ = some (.string q.value.key) := (H4.out.la.cell 11).trans rfl
          have y11 : wc.cell? ⟨Y, 11, none⟩ = some (.string q.value.key) := (H4.out.lb.cell 11).trans rfl
          have x12 : wc.cell? ⟨X, 12, none⟩ = some (.int .i64 q.value.val) := (H4.out.la.cell 12).trans rfl
          have y12 : wc.cell? ⟨Y, 12, none⟩ = some (.int .i64 q.value.val) := (H4.out.lb.cell 12).trans rfl
          have x13 : wc.cell? ⟨X, 13, none⟩ = some (.string q.type) := (H4.out.la.cell 13).trans rfl
          have y13 : wc.cell? ⟨Y, 13, none⟩ = some (.string q.type) := (H4.out.lb.cell 13).trans rfl
          have x14 : wc.cell? ⟨X, 14, none⟩ = some (.string q.to) := (H4.out.la.cell 14).trans rfl
          have y14 : wc.cell? ⟨Y, 14, none⟩ = some (.string q.to) := (H4.out.lb.cell 14).trans rfl
          have x15 : wc.cell? ⟨X, 15, none⟩ = some (.string q.label) := (H4.out.la.cell 15).trans rfl
          have y15 : wc.cell? ⟨Y, 15, none⟩ = some (.string q.label) := (H4.out.lb.cell 15).trans rfl
          go_wp2_with fail
          refine bodyPost_ret (v := .bool true) ?_ rfl ⟨rfl, H4.out.low⟩
          simp [results, Tryz.results16, go_sem]

end Go.Proofs.YtobgbmfpicmpcaaGreatDoor

/- An append onto a slice that the call owns leaves what the slice itself owned as it was: at an operation, in a plain region, and at a step of a region that draws its order. Of no program. -/
namespace Go.Proofs.YtobgbmfpicmpcaaGreatDoor
open Go Go.RowKit

theorem run_append_stays {P : Program} (w : World) (t ty : TypeId) (base : Nat) (e : TypeId) (i : TypeInfo) (z : Value) (size bytes : Nat) (ht : P.underlying t = some (.slice e)) (hi : P.info? e = some i) (hz : i.zero = some z)
    (hsize : i.size = size) (hby : i.bytes = bytes) (hzs : z.cells.size = size) (hsz : 0 < size)
    (v : Value) (n : Nat) (xs : List Value) (hown : w.ownsRow base e size v n xs)
    (ad : Addr) (m c : Nat) (news : List Value) (hl : news.length = m * size) (hnews : ∀ j u, news[j]? = some u → w.cell? (ad.add j) = some u) (h1 : ∀ u ∈ news, u.oneCell' = true)
    (hm : 0 < m) (h63 : n + m ≤ maxLen) (hbytes : (n + m) * bytes ≤ 140737488355328) (hbase : base ≤ w.heap.size) :
    ∃ g cap w', (Builtin.append_ #[t, t] ty #[v, .slice (some ad) m c]).run P w = .ok (.slice (some ⟨g, 0, none⟩) (n + m) cap) w' ∧
      w'.ownsRow base e size (.slice (some ⟨g, 0, none⟩) (n + m) cap) (n + m) (xs ++ news) ∧ w.grownBy w' v.ownBlock ∧ w'.ownsRow base e size v n xs := by
  rcases hown.2 with ⟨hv, hn⟩ | ⟨g, cap, cur, hv, hbg, hg, hnc, hcm, hcs, htk⟩
  · obtain ⟨g, cap, w', hr, h2, h3, _, _⟩ := run_append_lies (P := P) w t ty base e i z size bytes ht hi hz hsize hby hzs hsz v n xs hown ad m c news hl hnews h1 hm h63 hbytes hbase _ rfl
    refine ⟨g, cap, w', hr, h2, h3, ?_⟩
    have hxs : xs = [] := List.eq_nil_of_length_eq_zero (by rw [hown.1, hn]; simp)
    rw [hv, hn, hxs]; exact World.ownsRow_nil _ _ _ _
  · subst hv
    by_cases hroom : n + m ≤ cap
    · obtain ⟨w', hr, h2, h3⟩ := run_append_fits (P := P) w base t ty e i size ht hi hsize g n cap xs hown ad m c news hl hnews h1 hroom
      exact ⟨g, cap, w', hr, h2, h3, own_front h2 hown.1 (by omega)⟩
    · obtain ⟨v', w', hr, h2, h3⟩ := run_append_arg_grows (P := P) w t ty e i z size bytes ht hi hz hsize hby hzs hsz ⟨g, 0, none⟩ n cap xs hown.1 (by
        intro j u hu
        exact hown.cells (g := g) rfl j u hu) ad m c news hl hnews (by omega) h63 hbytes
      obtain ⟨g', cap', rfl, _, _⟩ := h2.form (by omega)
      refine ⟨g', cap', w', hr, own_base h2 hbase, grown_any h3 _, hown.kept h3 ?_⟩
      right; simp [Value.ownBlock]

theorem wp_append_stays {P : Program} (w : World) {o : Oper} {a : Act} {K : Act → World → Prop} {Q : Exit → Act → World → Prop} (s x : Operand) (t : TypeId)
    (ho : o.op = .call { callee := .builtin .append, args := #[s, x], argTypes := #[t, t] })
    (base : Nat) (e : TypeId) (i : TypeInfo) (z : Value) (size bytes : Nat) (ht : P.underlying t = some (.slice e)) (hi : P.info? e = some i) (hz : i.zero = some z)
    (hsize : i.size = size) (hby : i.bytes = bytes) (hzs : z.cells.size = size) (hsz : 0 < size)
    (v : Value) (n : Nat) (xs : List Value) (hs : a.eval s = v) (hown : w.ownsRow base e size v n xs)
    (ad : Addr) (m c : Nat) (news : List Value) (hx : a.eval x = .slice (some ad) m c) (hl : news.length = m * size) (hnews : ∀ j u, news[j]? = some u → w.cell? (ad.add j) = some u) (h1 : ∀ u ∈ news, u.oneCell' = true)
    (hm : 0 < m) (h63 : n + m ≤ maxLen) (hbytes : (n + m) * bytes ≤ 140737488355328) (hbase : base ≤ w.heap.size)
    (h : ∀ g cap w', w'.ownsRow base e size (.slice (some ⟨g, 0, none⟩) (n + m) cap) (n + m) (xs ++ news) → w.grownBy w' v.ownBlock → w'.ownsRow base e size v n xs → K (a.put o.dst (.slice (some ⟨g, 0, none⟩) (n + m) cap)) w') : o.wp P a w K Q := by
  obtain ⟨g, cap, w', hr, h2, h3, h4⟩ := run_append_stays (P := P) w t o.type base e i z size bytes ht hi hz hsize hby hzs hsz v n xs hown ad m c news hl hnews h1 hm h63 hbytes hbase
  unfold Oper.wp execOp
  simp only [ho, resolve, invoke, builtin, Sem.run_bind, Sem.run_pure, Result.andThen_ok, List.map_toArray, List.map_cons, List.map_nil, hs, hx, hr]
  exact h g cap w' h2 h3 h4

theorem wpList_append_stays {P : Program} (w : World) {ops : Array Oper} {rest : List Oper} {o : Oper} {a : Act} {Q : Exit → Act → World → Prop} (hgd : o.guard = none) (s x : Operand) (t : TypeId)
    (ho : o.op = .call { callee := .builtin .append, args := #[s, x], argTypes := #[t, t] })
    (base : Nat) (e : TypeId) (i : TypeInfo) (z : Value) (size bytes : Nat) (ht : P.underlying t = some (.slice e)) (hi : P.info? e = some i) (hz : i.zero = some z)
    (hsize : i.size = size) (hby : i.bytes = bytes) (hzs : z.cells.size = size) (hsz : 0 < size)
    (v : Value) (n : Nat) (xs : List Value) (hs : a.eval s = v) (hown : w.ownsRow base e size v n xs)
    (ad : Addr) (m c : Nat) (news : List Value) (hx : a.eval x = .slice (some ad) m c) (hl : news.length = m * size) (hnews : ∀ j u, news[j]? = some u → w.cell? (ad.add j) = some u) (h1 : ∀ u ∈ news, u.oneCell' = true)
    (hm : 0 < m) (h63 : n + m ≤ maxLen) (hbytes : (n + m) * bytes ≤ 140737488355328) (hbase : base ≤ w.heap.size)
    (h : ∀ g cap w', w'.ownsRow base e size (.slice (some ⟨g, 0, none⟩) (n + m) cap) (n + m) (xs ++ news) → w.grownBy w' v.ownBlock → w'.ownsRow base e size v n xs → wpList P ops Q rest (a.put o.dst (.slice (some ⟨g, 0, none⟩) (n + m) cap)) w') : wpList P ops Q (o :: rest) a w :=
  wpList_plain hgd fun _ hK => wp_append_stays w s x t ho base e i z size bytes ht hi hz hsize hby hzs hsz v n xs hs hown ad m c news hx hl hnews h1 hm h63 hbytes hbase fun g cap w' h2 h3 h4 => hK _ _ (h g cap w' h2 h3 h4)

theorem step_append_stays {P : Program} (w : World) {ops : Array Oper} {o : Oper} {a : Act} {K : Act → World → Prop} {Q : Exit → Act → World → Prop} {E : Prop} (hgd : o.guard = none) (s x : Operand) (t : TypeId)
    (ho : o.op = .call { callee := .builtin .append, args := #[s, x], argTypes := #[t, t] })
    (base : Nat) (e : TypeId) (i : TypeInfo) (z : Value) (size bytes : Nat) (ht : P.underlying t = some (.slice e)) (hi : P.info? e = some i) (hz : i.zero = some z)
    (hsize : i.size = size) (hby : i.bytes = bytes) (hzs : z.cells.size = size) (hsz : 0 < size)
    (v : Value) (n : Nat) (xs : List Value) (hs : a.eval s = v) (hown : w.ownsRow base e size v n xs)
    (ad : Addr) (m c : Nat) (news : List Value) (hx : a.eval x = .slice (some ad) m c) (hl : news.length = m * size) (hnews : ∀ j u, news[j]? = some u → w.cell? (ad.add j) = some u) (h1 : ∀ u ∈ news, u.oneCell' = true)
    (hm : 0 < m) (h63 : n + m ≤ maxLen) (hbytes : (n + m) * bytes ≤ 140737488355328) (hbase : base ≤ w.heap.size)
    (h : ∀ g cap w', w'.ownsRow base e size (.slice (some ⟨g, 0, none⟩) (n + m) cap) (n + m) (xs ++ news) → w.grownBy w' v.ownBlock → w'.ownsRow base e size v n xs → K (a.put o.dst (.slice (some ⟨g, 0, none⟩) (n + m) cap)) w') :
    if Region.wanted o (yielded ops a.tmps) = true then Oper.wp P o a w K Q else E := by
  have hw : Region.wanted o (yielded ops a.tmps) = true := by simp [Region.wanted, hgd]
  rw [if_pos hw]
  exact wp_append_stays w s x t ho base e i z size bytes ht hi hz hsize hby hzs hsz v n xs hs hown ad m c news hx hl hnews h1 hm h63 hbytes hbase h

end Go.Proofs.YtobgbmfpicmpcaaGreatDoor

/- Rows of marks in memory, for any kind of record: the first ones written over; a longer row behind an append; lists of such rows. No walk in this text. -/
namespace Go.Proofs.YtobgbmfpicmpcaaGreatDoor
open Go.RowKit

def mC (m : List Value) (n : Nat) : List Value := (List.replicate n m).flatten
theorem mC_zero (m : List Value) : mC m 0 = [] := rfl
theorem mC_length {m : List Value} {k : Nat} (h : m.length = k) : ∀ n, (mC m n).length = n * k
  | 0 => by simp [mC]
  | n + 1 => by have := mC_length h n; unfold mC at *; rw [List.replicate_succ, List.flatten_cons, List.length_append, this, h, Nat.succ_mul]; omega
theorem mC_add (m : List Value) (a b : Nat) : mC m (a + b) = mC m a ++ mC m b := by
  unfold mC; rw [← List.replicate_append_replicate, List.flatten_append]
theorem mC_succ (m : List Value) (n : Nat) : mC m n ++ m = mC m (n + 1) := by
  rw [mC_add]; congr 1; simp [mC]
theorem mC_at {m : List Value} {k : Nat} (h : m.length = k) {n i j : Nat} (hi : i < n) (hj : j < k) : (mC m n)[i * k + j]? = m[j]? := by
  have e : mC m n = mC m i ++ (m ++ mC m (n - i - 1)) := by
    have : n = i + (1 + (n - i - 1)) := by omega
    rw [this, mC_add, mC_add]
    congr 2
    · simp [mC]
    · congr 1; omega
  rw [e, List.getElem?_append_right (by rw [mC_length h]; omega), mC_length h, show i * k + j - i * k = j by omega, List.getElem?_append_left (by omega)]

/-- A row whose block is known. -/
theorem row_loc' {w : World} {B k n cap g : Nat} {T : TypeId} {xs : List Value} (h : w.ownsRow B T k (.slice (some ⟨g, 0, none⟩) n cap) n xs) : ∃ cur, Loc w g cur T ∧ cur.toList.take (n * k) = xs ∧ n * k ≤ cur.size ∧ B ≤ g := by
  rcases h.2 with ⟨h0, _⟩ | ⟨g', cap', cur, hv, hb, hg, hnc, hcm, hcs, ht⟩
  · cases h0
  · injection hv with h1 h2 h3
    injection h1 with h1
    injection h1 with h1
    subst h1; subst h3
    exact ⟨cur, hg, ht, by rw [hcs]; exact Nat.mul_le_mul_right k hnc, hb⟩
theorem row_set {w : World} {B k n cap g o : Nat} {T : TypeId} {xs l : List Value} (h : w.ownsRow B T k (.slice (some ⟨g, 0, none⟩) n cap) n xs) (ho : o + l.length ≤ n * k) :
    (w.setCells g o l).ownsRow B T k (.slice (some ⟨g, 0, none⟩) n cap) n (xs.take o ++ l ++ xs.drop (o + l.length)) := by
  have hxl := h.1
  refine ⟨by simp only [List.length_append, List.length_take, List.length_drop]; omega, .inr ?_⟩
  rcases h.2 with ⟨h0, _⟩ | ⟨g', cap', cur, hv, hb, hg, hnc, hcm, hcs, ht⟩
  · cases h0
  · injection hv with h1 h2 h3
    injection h1 with h1
    injection h1 with h1
    subst h1; subst h3
    have hle : n * k ≤ cur.size := by rw [hcs]; exact Nat.mul_le_mul_right k hnc
    have hL := Loc.setMany (X := g) (T := T) l o w cur hg (by omega)
    refine ⟨g, cap, _, rfl, hb, hL, hnc, hcm, ?_, ?_⟩
    · simp only [List.size_toArray, List.length_append, List.length_take, List.length_drop, Array.length_toList]; omega
    · rw [← ht]
      simp only [List.append_assoc]
      rw [List.take_append, List.take_append]
      simp only [List.length_take, Array.length_toList]
      have e1 : min o cur.size = o := by omega
      rw [e1, List.take_take, List.take_take, List.drop_take]
      rw [show min (n * k) o = o by omega, show min o (n * k) = o by omega, List.take_of_length_le (by omega : l.length ≤ n * k - o)]
      congr 2
      rw [show n * k - o - l.length = n * k - (o + l.length) by omega]
/-- One more record written over. -/
theorem row_fill {w : World} {B k n cap g j : Nat} {T : TypeId} {xs m : List Value} (h : w.ownsRow B T k (.slice (some ⟨g, 0, none⟩) n cap) n (mC m j ++ xs.drop (j * k))) (hm : m.length = k) (hj : j < n) :
    (w.setCells g (j * k) m).ownsRow B T k (.slice (some ⟨g, 0, none⟩) n cap) n (mC m (j + 1) ++ xs.drop ((j + 1) * k)) := by
  have hjn : (j + 1) * k ≤ n * k := Nat.mul_le_mul_right k hj
  rw [Nat.succ_mul] at hjn
  have h1 := row_set (l := m) h (o := j * k) (by omega)
  have e : (mC m j ++ xs.drop (j * k)).take (j * k) ++ m ++ (mC m j ++ xs.drop (j * k)).drop (j * k + m.length) = mC m (j + 1) ++ xs.drop ((j + 1) * k) := by
    rw [List.take_append_of_le_length (by rw [mC_length hm]; omega), List.take_of_length_le (by rw [mC_length hm]; omega), mC_succ]
    congr 1
    rw [List.drop_append, List.drop_eq_nil_of_le (by rw [mC_length hm]; omega), List.nil_append, mC_length hm, List.drop_drop]
    congr 1
    rw [Nat.succ_mul, hm]; omega
  rw [e] at h1
  exact h1

/-- A list that reads as its owner left it: of marks alone. -/
def MarkedK (B : Nat) (T : TypeId) (k : Nat) (m : List Value) (N : Nat) (w : World) (u : Value) : Prop := ∃ len, len ≤ N ∧ w.ownsRow B T k u len (mC m len)
theorem MarkedK.kept {B : Nat} {T : TypeId} {k : Nat} {m : List Value} {N : Nat} {w w' : World} {u : Value} {row : Option Nat} (h : MarkedK B T k m N w u) (hg : w.grownBy w' row) (hne : u.ownBlock = none ∨ u.ownBlock ≠ row) : MarkedK B T k m N w' u := by
  obtain ⟨len, h1, h2⟩ := h
  exact ⟨len, h1, h2.kept hg hne⟩
theorem MarkedK.quiet {B : Nat} {T : TypeId} {k : Nat} {m : List Value} {N : Nat} {w w' : World} {u : Value} (h : MarkedK B T k m N w u) (hg : w.grownBy w' none) : MarkedK B T k m N w' u := h.kept hg (by cases hv : u.ownBlock <;> simp)
theorem MarkedK.byType {B : Nat} {T : TypeId} {k : Nat} {m : List Value} {N : Nat} {w w' : World} {u : Value} {B' k' n' : Nat} {T' : TypeId} {v' : Value} {xs' : List Value} (h : MarkedK B T k m N w u) (ho' : w.ownsRow B' T' k' v' n' xs') (hT : T ≠ T') (hg : w.grownBy w' v'.ownBlock) : MarkedK B T k m N w' u := by
  obtain ⟨len, h1, h2⟩ := h
  exact ⟨len, h1, h2.kept hg (row_row h2 ho' hT)⟩
/-- A store into a block of another type. -/
theorem MarkedK.byLoc {B : Nat} {T : TypeId} {k : Nat} {m : List Value} {N : Nat} {w w' : World} {u : Value} {x : Nat} {cs : Array Value} {T' : TypeId} (h : MarkedK B T k m N w u) (hl : Loc w x cs T') (hT : T ≠ T') (hg : w.grownBy w' (some x)) : MarkedK B T k m N w' u := by
  obtain ⟨len, h1, h2⟩ := h
  exact ⟨len, h1, h2.kept hg (Or.inr (row_loc h2 hl hT))⟩
/-- Behind an append to the longest of them: all others read as they did. -/
theorem MarkedK.grown {B : Nat} {T : TypeId} {k : Nat} {m : List Value} {N : Nat} {w w' : World} {u v : Value} (hk : 0 < k) (hm : m.length = k) (h : MarkedK B T k m N w u) (hv : w.ownsRow B T k v N (mC m N)) (hg : w.grownBy w' v.ownBlock) (hv' : w'.ownsRow B T k v N (mC m N)) : MarkedK B T k m (N + 1) w' u := by
  obtain ⟨len, h1, h2⟩ := h
  by_cases he : u.ownBlock = none ∨ u.ownBlock ≠ v.ownBlock
  · exact ⟨len, by omega, h2.kept hg he⟩
  · have he2 : u.ownBlock = v.ownBlock := by
      by_cases h3 : u.ownBlock = v.ownBlock
      · exact h3
      · exact absurd (Or.inr h3) he
    refine ⟨len, by omega, ?_⟩
    rcases h2.2 with ⟨hu, h0⟩ | ⟨g, cap, cur, hu, hb, hgg, hnc, hcm, hcs, ht⟩
    · rw [hu]; subst h0; exact World.ownsRow_nil _ _ _ _
    · rcases hv.2 with ⟨hvn, _⟩ | ⟨g2, cap2, cur2, hv2, _, hgg2, _, _, hcs2, _⟩
      · rw [hu, hvn] at he2; simp [Value.ownBlock] at he2
      · rw [hu, hv2] at he2
        have hgeq : g = g2 := by simpa [Value.ownBlock] using he2
        subst hgeq
        rw [hgg] at hgg2
        injection hgg2 with hgg2
        injection hgg2 with hcc _ _
        subst hcc
        have hcap : cap = cap2 := Nat.eq_of_mul_eq_mul_right hk (hcs.symm.trans hcs2)
        subst hcap
        rw [hu]
        have e : mC m N = mC m len ++ mC m (N - len) := by rw [← mC_add]; congr 1; omega
        rw [hv2, e] at hv'
        exact own_front hv' (mC_length hm len) h1

end Go.Proofs.YtobgbmfpicmpcaaGreatDoor

/- The marks of a query's owner. -/
namespace Go.Proofs.YtobgbmfpicmpcaaGreatDoor
open Go.RowKit

def own3 : ByteArray := ⟨#[111, 119, 110]⟩
def mkS (n : Int) : List Value := [.string own3, .string ⟨#[]⟩, .string ⟨#[]⟩, .int .i64 n, .int .i64 0]
def mkC (n : Int) : List Value := [.int .i64 n, .string ⟨#[]⟩, .string ⟨#[]⟩, .int .i64 0, .string ⟨#[]⟩, .string ⟨#[]⟩, .int .i64 0]
def mkI (b : UInt8) : List Value := [.string own3, .string ⟨#[b]⟩]
def mkP (n : Int) : List Value := [.string own3, .int .i64 n]

set_option maxRecDepth 100000 in
theorem spotMark (n : Int) (w : World) : Calls Tryz.prog 48 #[.int .i64 n] w fun e w' => e = .returned (.agg #[.string ⟨#[111, 119, 110]⟩, .string ⟨#[]⟩, .string ⟨#[]⟩, .int .i64 n, .int .i64 0]) ∧ Below w.heap.size w w' := by
  go_enter Tryz.func48, Tryz.ntmps48
  go_wp2_with fail
  refine bodyPost_ret (v := .agg #[.string ⟨#[111, 119, 110]⟩, .string ⟨#[]⟩, .string ⟨#[]⟩, .int .i64 n, .int .i64 0]) ?_ rfl ⟨rfl, ?_⟩
  · simp [results, Tryz.results48, go_sem]
  · exact Below.alloc (Below.refl _ _) (Nat.le_refl _) _
set_option maxRecDepth 100000 in
theorem condMark (n : Int) (w : World) : Calls Tryz.prog 49 #[.int .i64 n] w fun e w' => e = .returned (.agg #[.int .i64 n, .string ⟨#[]⟩, .string ⟨#[]⟩, .int .i64 0, .string ⟨#[]⟩, .string ⟨#[]⟩, .int .i64 0]) ∧ Below w.heap.size w w' := by
  go_enter Tryz.func49, Tryz.ntmps49
  go_wp2_with fail
  refine bodyPost_ret (v := .agg #[.int .i64 n, .string ⟨#[]⟩, .string ⟨#[]⟩, .int .i64 0, .string ⟨#[]⟩, .string ⟨#[]⟩, .int .i64 0]) ?_ rfl ⟨rfl, ?_⟩
  · simp [results, Tryz.results49, go_sem]
  · exact Below.alloc (Below.refl _ _) (Nat.le_refl _) _
set_option maxRecDepth 100000 in
theorem pairMark (n : Int) (w : World) : Calls Tryz.prog 51 #[.int .i64 n] w fun e w' => e = .returned (.agg #[.string ⟨#[111, 119, 110]⟩, .int .i64 n]) ∧ Below w.heap.size w w' := by
  go_enter Tryz.func51, Tryz.ntmps51
  go_wp2_with fail
  refine bodyPost_ret (v := .agg #[.string ⟨#[111, 119, 110]⟩, .int .i64 n]) ?_ rfl ⟨rfl, ?_⟩
  · simp [results, Tryz.results51, go_sem]
  · exact Below.alloc (Below.refl _ _) (Nat.le_refl _) _
set_option maxRecDepth 100000 in
theorem itemMark77  (w : World) : Calls Tryz.prog 50 #[.int .i64 77] w fun e w' => e = .returned (.agg #[.string ⟨#[111, 119, 110]⟩, .string ⟨#[77]⟩]) ∧ Below w.heap.size w w' := by
  have hcv : (convert 168 9 (.slice (some ⟨w.heap.size + 1, 0, none⟩) 1 1)).run Tryz.prog ((w.alloc (.cells #[.string ⟨#[]⟩, .string ⟨#[]⟩] 89)).alloc (.cells #[.int .u8 77] 5)) = .ok (.string ⟨#[77]⟩) ((w.alloc (.cells #[.string ⟨#[]⟩, .string ⟨#[]⟩] 89)).alloc (.cells #[.int .u8 77] 5)) := by
    refine run_convert_bytes_back _ _ _ 5 ⟨w.heap.size + 1, 0, none⟩ 1 [77] Tryz.underlying168 Tryz.underlying5 Tryz.underlying9 ?_
    intro j hj
    have hj0 : j = 0 := by simp at hj; omega
    subst hj0
    simp [Addr.add]
  go_enter Tryz.func50, Tryz.ntmps50
  go_wp2_with fail
  refine bodyPost_ret (v := .agg #[.string ⟨#[111, 119, 110]⟩, .string ⟨#[77]⟩]) ?_ rfl ⟨rfl, ?_⟩
  · simp [results, Tryz.results50, go_sem]
  · exact Below.alloc (Below.alloc (Below.refl _ _) (Nat.le_refl _) _) (by simp) _
set_option maxRecDepth 100000 in
theorem itemMark78  (w : World) : Calls Tryz.prog 50 #[.int .i64 78] w fun e w' => e = .returned (.agg #[.string ⟨#[111, 119, 110]⟩, .string ⟨#[78]⟩]) ∧ Below w.heap.size w w' := by
  have hcv : (convert 168 9 (.slice (some ⟨w.heap.size + 1, 0, none⟩) 1 1)).run Tryz.prog ((w.alloc (.cells #[.string ⟨#[]⟩, .string ⟨#[]⟩] 89)).alloc (.cells #[.int .u8 78] 5)) = .ok (.string ⟨#[78]⟩) ((w.alloc (.cells #[.string ⟨#[]⟩, .string ⟨#[]⟩] 89)).alloc (.cells #[.int .u8 78] 5)) := by
    refine run_convert_bytes_back _ _ _ 5 ⟨w.heap.size + 1, 0, none⟩ 1 [78] Tryz.underlying168 Tryz.underlying5 Tryz.underlying9 ?_
    intro j hj
    have hj0 : j = 0 := by simp at hj; omega
    subst hj0
    simp [Addr.add]
  go_enter Tryz.func50, Tryz.ntmps50
  go_wp2_with fail
  refine bodyPost_ret (v := .agg #[.string ⟨#[111, 119, 110]⟩, .string ⟨#[78]⟩]) ?_ rfl ⟨rfl, ?_⟩
  · simp [results, Tryz.results50, go_sem]
  · exact Below.alloc (Below.alloc (Below.refl _ _) (Nat.le_refl _) _) (by simp) _

end Go.Proofs.YtobgbmfpicmpcaaGreatDoor

