/- The reference's reader: a match. -/
import Derived.Deep.DeepMust
import Derived.Deep.CutBlock
import Derived.Deep.DeepCutAuto
import Derived.Deep.RegionLaw
import Derived.Test.YtobgbmfpicmpcaaGreatDoorC03
namespace Go.Proofs.YtobgbmfpicmpcaaGreatDoor
open Go.RowKit

def qC (q : PQuery) (vs vc vi vp : Value) : Array Value := #[.int .i64 q.kind, vs, vc, vi, .int .i64 q.order, .bool q.down, .int .i64 q.skip, .int .i64 q.limit, .string q.name, .string q.key, .string q.value.name, .string q.value.key, .int .i64 q.value.val, .string q.type, .string q.to, .string q.label, vp]

set_option maxRecDepth 100000 in
set_option maxHeartbeats 4000000 in
theorem match_ {b x : Nat} {lv : Value} {ts : List Tok} {st : RS} {W0 W : World} (h : QAt W0 b lv ts st x (qC query0 (.slice none 0 0) (.slice none 0 0) (.slice none 0 0) (.slice none 0 0)) ⟨(.slice none 0 0), [], (.slice none 0 0), [], (.slice none 0 0), [], (.slice none 0 0), []⟩ W) :
    Calls Tryz.prog 41 #[.pointer (some ⟨b, 0, none⟩), .pointer (some ⟨x, 0, none⟩)] W fun e W' => e = .returned (.tuple #[]) ∧ ∃ vs vc, QAt W0 b lv ts (matchR st).2 x (qC query0 vs vc (.slice none 0 0) (.slice none 0 0)) ⟨vs, (matchR st).1.1, vc, (matchR st).1.2, .slice none 0 0, [], .slice none 0 0, []⟩ W' := by
  obtain ⟨i0, hi, hz0, hz1, hz2⟩ := info_parts Tryz.infoSpot
  obtain ⟨i1, hj, hy0, hy1, hy2⟩ := info_parts Tryz.infoCond
  have HI := Lib.hid h
  have hlen := h.ri.len
  have hrl : st.rest.length ≤ ts.length := by obtain ⟨_, _, _, _, _, _, _, e, _⟩ := h.ri.seen; exact e
  have hrm := mustR_len kMATCH st
  clear h
  go_enter Tryz.func41, Tryz.ntmps41
  go_wp2_with fail
  refine (must HI.out.ri kMATCH).mono ?_
  rintro e W1 ⟨rfl, h1, g1⟩
  have H1 := Lib.hid (HI.out.call h1 g1)
  clear h1 g1 HI
  go_upto_block 0 with fail
  go_cut [4, 5] (fun _ _ w => ∃ vs out s', QAt W0 b lv ts s' x (qC query0 vs (.slice none 0 0) (.slice none 0 0) (.slice none 0 0)) ⟨vs, out, (.slice none 0 0), [], (.slice none 0 0), [], (.slice none 0 0), []⟩ w ∧ matchLoop (st.rest.length + 1) [] (mustR kMATCH st) = (out, s') ∧ out.length + s'.rest.length ≤ 2002)
  case first =>
    go_wp2_with fail
    go_loopg [4] (st.rest.length + 1) (fun n more w => ∃ vs out s' m, more = .bool m ∧ QAt W0 b lv ts s' x (qC query0 vs (.slice none 0 0) (.slice none 0 0) (.slice none 0 0)) ⟨vs, out, (.slice none 0 0), [], (.slice none 0 0), [], (.slice none 0 0), []⟩ w ∧ (m = true → matchLoop (st.rest.length + 1) [] (mustR kMATCH st) = matchLoop n out s' ∧ s'.rest.length + 1 ≤ n ∧ out.length + s'.rest.length ≤ 2001) ∧ (m = false → matchLoop (st.rest.length + 1) [] (mustR kMATCH st) = (out, s') ∧ out.length + s'.rest.length ≤ 2002))
    case atStart => exact ⟨_, [], _, true, rfl, H1.out, fun _ => ⟨rfl, by omega, by simp; omega⟩, fun h => by cases h⟩
    case round =>
      obtain ⟨vs, out, s', m, rfl, hq, hT, hF⟩ := hrel
      have HQ := Lib.hid hq
      have q2 : wr.cell? ⟨b, 2, none⟩ = some (.bool s'.bad) := (hq.ri.box.cell 2).trans rfl
      clear hq H1
      cases m with
      | false =>
        obtain ⟨e1, e2⟩ := hF rfl
        have E1 := Lib.hid e1
        clear e1 hT hF
        go_wp2_with fail
        go_meet
        case rel => exact ⟨vs, out, s', HQ.out, E1.out, e2⟩
      | true =>
        obtain ⟨e1, e2, e3⟩ := hT rfl
        have E1 := Lib.hid e1
        clear e1 hT hF
        cases hb : s'.bad with
        | true =>
          have HB := Lib.hid hb
          rw [hb] at q2
          clear hb
          go_wp2_with fail
          go_meet
          case rel => exact ⟨vs, out, s', HQ.out, by rw [E1.out]; exact matchLoop_bad HB.out, by omega⟩
        | false =>
          have HB := Lib.hid hb
          rw [hb] at q2
          clear hb
          obtain ⟨n, hn⟩ : ∃ n, gk = n + 1 := ⟨gk - 1, by omega⟩
          subst hn
          obtain ⟨l, s2, hp⟩ : ∃ l s2, pathR s' = (l, s2) := ⟨_, _, rfl⟩
          have HP := Lib.hid hp
          have hpc := pathR_count s'
          rw [hp] at hpc
          obtain ⟨hpc, hl0⟩ := hpc
          clear hp
          go_wp2_with fail
          have hpath := path HQ.out.ri
          rw [HP.out] at hpath
          refine hpath.mono ?_
          clear hpath
          rintro e W3 ⟨v, rfl, hv, h3, g3⟩
          have H3a := HQ.out.call h3 g3
          obtain ⟨gp, cp, rfl, hnews⟩ := row_seen hv hl0
          have HN := Lib.hid hnews
          have c1 : W3.cell? ⟨x, 1, none⟩ = some vs := (H3a.lq.cell 1).trans rfl
          have hs3 := H3a.grown.size
          have H3 := Lib.hid H3a
          clear h3 g3 H3a hnews hv q2
          go_upto_region 3 with (at_builtin; go_must (refine wpList_append_lies _ rfl _ _ 22 rfl W0.heap.size 85 i0 (.agg #[.string ⟨#[]⟩, .string ⟨#[]⟩, .string ⟨#[]⟩, .int .i64 0, .int .i64 0]) 5 64 Tryz.underlying22 hi hz0 hz1 hz2 rfl (by decide) vs _ _ rfl H3.out.rs _ l.length cp (spotCells l) rfl (spotCells_length l) HN.out (spotCells_one l) hl0 (by unfold maxLen; simp only; omega) (by simp only; omega) hs3 _ rfl ?_; intro g2 cap2 w4 hown hgrow _ _; have H4a := H3.out.spots (l := l) hgrow (by rw [spotCells_append, List.length_append]; exact hown); have c4 : w4.cell? ⟨x, 1, none⟩ = some vs := (H4a.lq.cell 1).trans rfl; have f4 := H4a.lq.free 1; have H4 := Lib.hid (H4a.set 1 (.slice (some ⟨g2, 0, none⟩) (out.length + l.length) cap2)); clear H4a hown hgrow c1))
          generalize w4.setCell ⟨x, 1, none⟩ (.slice (some ⟨g2, 0, none⟩) (out.length + l.length) cap2) = W5 at H4 ⊢
          clear c4 f4
          have q5 : W5.cell? ⟨b, 2, none⟩ = some (.bool s2.bad) := (H4.out.ri.box.cell 2).trans rfl
          have H5 : Hid (QAt W0 b lv ts s2 x (qC query0 (.slice (some ⟨g2, 0, none⟩) (out.length + l.length) cap2) (.slice none 0 0) (.slice none 0 0) (.slice none 0 0)) ⟨.slice (some ⟨g2, 0, none⟩) (out.length + l.length) cap2, out ++ l, .slice none 0 0, [], .slice none 0 0, [], .slice none 0 0, []⟩ W5) := H4.out
          clear H4 H3 HN HQ
          have hol : (out ++ l).length = out.length + l.length := List.length_append
          cases hb2 : s2.bad with
          | true =>
            have HB2 := Lib.hid hb2
            rw [hb2] at q5
            clear hb2
            go_wp2_with fail
            go_roundg n
            case measure => omega
            case rel => exact ⟨_, out ++ l, s2, false, rfl, H5.out, fun h => (by cases h), fun _ => ⟨by rw [E1.out]; exact matchLoop_last HB.out HP.out (Or.inl HB2.out), by omega⟩⟩
          | false =>
            have HB2 := Lib.hid hb2
            rw [hb2] at q5
            clear hb2
            cases hc : peekR mComma s2 with
            | false =>
              have HC := Lib.hid hc
              clear hc
              go_wp2_with fail
              refine (has H5.out.ri mComma false HC.out).mono ?_
              rintro e W6 ⟨rfl, h6, g6⟩
              rw [hasR_not HC.out] at h6
              have H6 := Lib.hid (H5.out.call h6 g6)
              clear h6 g6 q5
              go_wp2_with fail
              go_roundg n
              case measure => omega
              case rel => exact ⟨_, out ++ l, s2, false, rfl, H6.out, fun h => (by cases h), fun _ => ⟨by rw [E1.out]; exact matchLoop_last HB.out HP.out (Or.inr HC.out), by omega⟩⟩
            | true =>
              have HC := Lib.hid hc
              have hless := hasR_less hc
              clear hc
              go_wp2_with fail
              refine (has H5.out.ri mComma true HC.out).mono ?_
              rintro e W6 ⟨rfl, h6, g6⟩
              have H6 := Lib.hid (H5.out.call h6 g6)
              clear h6 g6 q5
              go_wp2_with fail
              go_roundg n
              case measure => omega
              case rel => exact ⟨_, out ++ l, hasR mComma s2, true, rfl, H6.out, fun _ => ⟨by rw [E1.out]; exact matchLoop_more HB.out HP.out HB2.out HC.out, by omega, by omega⟩, fun h => (by cases h)⟩
  case rest =>
    obtain ⟨vs, out, s1, hq, hms, hos⟩ := hcut
    have HQ := Lib.hid hq
    have HMS := Lib.hid hms
    have hms1 : s1.rest.length ≤ st.rest.length := by
      have := matchLoop_len (st.rest.length + 1) [] (mustR kMATCH st)
      rw [hms] at this
      exact Nat.le_trans this hrm
    have q2 : wc.cell? ⟨b, 2, none⟩ = some (.bool s1.bad) := (hq.ri.box.cell 2).trans rfl
    clear hq hms H1
    go_upto_region 6 with fail
    go_cut [6] (fun v w => ∃ m s2, v = .bool m ∧ QAt W0 b lv ts s2 x (qC query0 vs (.slice none 0 0) (.slice none 0 0) (.slice none 0 0)) ⟨vs, out, (.slice none 0 0), [], (.slice none 0 0), [], (.slice none 0 0), []⟩ w ∧ s2.rest.length ≤ s1.rest.length ∧ ((m = true ∧ s1.bad = false ∧ peekR kWHERE s1 = true ∧ s2 = hasR kWHERE s1) ∨ (m = false ∧ s2 = s1 ∧ (s1.bad = true ∨ peekR kWHERE s1 = false))))
    case first =>
      cases hb : s1.bad with
      | true =>
        have HB := Lib.hid hb
        rw [hb] at q2
        clear hb
        go_wp2_with fail
        go_meet
        case rel => exact ⟨false, s1, rfl, HQ.out, Nat.le_refl _, Or.inr ⟨rfl, rfl, Or.inl HB.out⟩⟩
      | false =>
        have HB := Lib.hid hb
        rw [hb] at q2
        clear hb
        cases hw : peekR kWHERE s1 with
        | false =>
          have HW := Lib.hid hw
          clear hw
          go_wp2_with fail
          refine (has HQ.out.ri kWHERE false HW.out).mono ?_
          rintro e W6 ⟨rfl, h6, g6⟩
          rw [hasR_not HW.out] at h6
          have H6 := Lib.hid (HQ.out.call h6 g6)
          clear h6 g6 q2
          go_wp2_with fail
          go_meet
          case rel => exact ⟨false, s1, rfl, H6.out, Nat.le_refl _, Or.inr ⟨rfl, rfl, Or.inr HW.out⟩⟩
        | true =>
          have HW := Lib.hid hw
          clear hw
          go_wp2_with fail
          refine (has HQ.out.ri kWHERE true HW.out).mono ?_
          rintro e W6 ⟨rfl, h6, g6⟩
          have H6 := Lib.hid (HQ.out.call h6 g6)
          clear h6 g6 q2
          go_wp2_with fail
          go_meet
          case rel => exact ⟨true, hasR kWHERE s1, rfl, H6.out, hasR_len _ _, Or.inl ⟨rfl, HB.out, HW.out, rfl⟩⟩
    case rest =>
      clear HQ q2
      obtain ⟨m, s2, rfl, hq2, hl2, hcase⟩ := hcut
      have H2 := Lib.hid hq2
      clear hq2
      obtain ⟨cl, hcl⟩ : ∃ cl, (if m then condLoop (st.rest.length + 1) [] s2 else ([], s2)) = cl := ⟨_, rfl⟩
      have HMR : Hid (matchR st = ((out, cl.1), cl.2.orBad (decide (6 < out.length) || decide (6 < cl.1.length)))) := by
        show _ = _
        unfold matchR
        simp only [HMS.out]
        rcases hcase with ⟨rfl, e1, e2, rfl⟩ | ⟨rfl, rfl, e1 | e1⟩
        · rw [← hcl]; simp [e1, e2]
        · rw [← hcl]; simp [e1]
        · rw [← hcl]; simp [e1]
      have HCL := Lib.hid hcl
      clear hcl hcase HMS
      go_upto_block 2 with fail
      go_cut [7, 8] (fun _ _ w => ∃ vc cd s', QAt W0 b lv ts s' x (qC query0 vs vc (.slice none 0 0) (.slice none 0 0)) ⟨vs, out, vc, cd, (.slice none 0 0), [], (.slice none 0 0), []⟩ w ∧ cl = (cd, s') ∧ cd.length + s'.rest.length ≤ 2002)
      case first =>
        go_wp2_with fail
        go_loopg [7] (st.rest.length + 1) (fun n more w => ∃ vc cd s' m, more = .bool m ∧ QAt W0 b lv ts s' x (qC query0 vs vc (.slice none 0 0) (.slice none 0 0)) ⟨vs, out, vc, cd, (.slice none 0 0), [], (.slice none 0 0), []⟩ w ∧ (m = true → cl = condLoop n cd s' ∧ s'.rest.length + 1 ≤ n ∧ cd.length + s'.rest.length ≤ 2001) ∧ (m = false → cl = (cd, s') ∧ cd.length + s'.rest.length ≤ 2002))
        case atStart => exact ⟨_, [], s2, m, rfl, H2.out, fun h => ⟨by rw [← HCL.out, h]; rfl, by omega, by simp; omega⟩, fun h => ⟨by rw [← HCL.out, h]; rfl, by simp; omega⟩⟩
        case round =>
          obtain ⟨vc, cd, s', m', rfl, hq, hT, hF⟩ := hrel
          have HQ := Lib.hid hq
          clear hq H2
          cases m' with
          | false =>
            obtain ⟨e1, e2⟩ := hF rfl
            have E1 := Lib.hid e1
            clear e1 hT hF
            go_wp2_with fail
            go_meet
            case rel => exact ⟨vc, cd, s', HQ.out, E1.out, e2⟩
          | true =>
            obtain ⟨e1, e2, e3⟩ := hT rfl
            have E1 := Lib.hid e1
            clear e1 hT hF
            obtain ⟨n, hn⟩ : ∃ n, gk = n + 1 := ⟨gk - 1, by omega⟩
            subst hn
            obtain ⟨c, s3, hc⟩ : ∃ c s3, condR s' = (c, s3) := ⟨_, _, rfl⟩
            have HC := Lib.hid hc
            clear hc
            go_wp2_with fail
            refine (condIs HQ.out.ri HC.out).mono ?_
            rintro e W3 ⟨rfl, h3, g3⟩
            have H3 := Lib.hid (HQ.out.call h3 g3)
            clear h3 g3
            have H4 : Hid (QAt W0 b lv ts s3 x (qC query0 vs vc (.slice none 0 0) (.slice none 0 0)) ⟨vs, out, vc, cd, (.slice none 0 0), [], (.slice none 0 0), []⟩ (W3.alloc (.cells #[.int .i64 c.op, .string c.a.name, .string c.a.key, .int .i64 c.a.val, .string c.b.name, .string c.b.key, .int .i64 c.b.val] 87))) := H3.out.alloc _
            have L4 := Lib.hid (Loc.new W3 #[.int .i64 c.op, .string c.a.name, .string c.a.key, .int .i64 c.a.val, .string c.b.name, .string c.b.key, .int .i64 c.b.val] 87)
            go_upto_region 11 with fail
            obtain ⟨Y, hY⟩ : ∃ Y, Y = W3.heap.size := ⟨_, rfl⟩
            rw [← hY] at L4 ⊢
            clear hY H3
            generalize W3.alloc (.cells #[.int .i64 c.op, .string c.a.name, .string c.a.key, .int .i64 c.a.val, .string c.b.name, .string c.b.key, .int .i64 c.b.val] 87) = W4 at H4 L4 ⊢
            have y0 : W4.cell? ⟨Y, 0, none⟩ = some (.int .i64 c.op) := (L4.out.cell 0).trans rfl
            have y1 : W4.cell? ⟨Y, 1, none⟩ = some (.string c.a.name) := (L4.out.cell 1).trans rfl
            have y2 : W4.cell? ⟨Y, 2, none⟩ = some (.string c.a.key) := (L4.out.cell 2).trans rfl
            have y3 : W4.cell? ⟨Y, 3, none⟩ = some (.int .i64 c.a.val) := (L4.out.cell 3).trans rfl
            have y4 : W4.cell? ⟨Y, 4, none⟩ = some (.string c.b.name) := (L4.out.cell 4).trans rfl
            have y5 : W4.cell? ⟨Y, 5, none⟩ = some (.string c.b.key) := (L4.out.cell 5).trans rfl
            have y6 : W4.cell? ⟨Y, 6, none⟩ = some (.int .i64 c.b.val) := (L4.out.cell 6).trans rfl
            have x2 : W4.cell? ⟨x, 2, none⟩ = some vc := (H4.out.lq.cell 2).trans rfl
            have fx2 : W4.frozen? ⟨x, 2, none⟩ = false := H4.out.lq.free 2
            have hs4 := H4.out.grown.size
            clear L4
            have HD : Hid (QAt W0 b lv ts s3 x (qC query0 vs vc (.slice none 0 0) (.slice none 0 0)) ⟨vs, out, vc, cd, (.slice none 0 0), [], (.slice none 0 0), []⟩ (W4.alloc (.cells #[.int .i64 c.op, .string c.a.name, .string c.a.key, .int .i64 c.a.val, .string c.b.name, .string c.b.key, .int .i64 c.b.val] 87)).drew) := (H4.out.alloc _).drew 1
            have xa2 : (W4.alloc (.cells #[.int .i64 c.op, .string c.a.name, .string c.a.key, .int .i64 c.a.val, .string c.b.name, .string c.b.key, .int .i64 c.b.val] 87)).cell? ⟨x, 2, none⟩ = some vc := (HD.out.lq.cell 2).trans rfl
            have hcl3 := condR_len s'
            rw [HC.out] at hcl3
            go_region_law (refine step_append_lies _ rfl (.tmp 65) (.tmp 67) 23 rfl W0.heap.size 87 i1 (.agg #[.int .i64 0, .string ⟨#[]⟩, .string ⟨#[]⟩, .int .i64 0, .string ⟨#[]⟩, .string ⟨#[]⟩, .int .i64 0]) 7 88 Tryz.underlying23 hj hy0 hy1 hy2 rfl (by decide) vc _ _ (by simp [Act.eval]) HD.out.rc ⟨W4.heap.size, 0, none⟩ 1 1 [.int .i64 c.op, .string c.a.name, .string c.a.key, .int .i64 c.a.val, .string c.b.name, .string c.b.key, .int .i64 c.b.val] (by simp [Act.eval]) rfl (World.news_of_block (heap_alloc_new W4 _)) seven_one (by omega) (by unfold maxLen; simp only; omega) (by simp only; omega) HD.out.grown.size _ rfl ?_; intro g2 cap2 w5 hown hgrow _ _; have H5a := HD.out.conds (l := [c]) hgrow (by rw [condCells_snoc, List.length_append]; exact hown); have c5 : w5.cell? ⟨x, 2, none⟩ = some vc := (H5a.lq.cell 2).trans rfl; have f5 : w5.frozen? ⟨x, 2, none⟩ = false := H5a.lq.free 2; have H5 := Lib.hid (H5a.set 2 (.slice (some ⟨g2, 0, none⟩) (cd.length + 1) cap2)); clear H5a hown hgrow)
            all_goals
              generalize w5.setCell ⟨x, 2, none⟩ (.slice (some ⟨g2, 0, none⟩) (cd.length + 1) cap2) = W6 at H5 ⊢
              have q6 : W6.cell? ⟨b, 2, none⟩ = some (.bool s3.bad) := (H5.out.ri.box.cell 2).trans rfl
              have H6 : Hid (QAt W0 b lv ts s3 x (qC query0 vs (.slice (some ⟨g2, 0, none⟩) (cd.length + 1) cap2) (.slice none 0 0) (.slice none 0 0)) ⟨vs, out, (.slice (some ⟨g2, 0, none⟩) (cd.length + 1) cap2), (cd ++ [c]), (.slice none 0 0), [], (.slice none 0 0), []⟩ W6) := H5.out
              clear H5 HD H4 HQ c5 f5 xa2 y0 y1 y2 y3 y4 y5 y6 x2 fx2
              have hol : (cd ++ [c]).length = cd.length + 1 := by simp
              cases hb2 : s3.bad with
              | true =>
                have HB2 := Lib.hid hb2
                rw [hb2] at q6
                clear hb2
                go_wp2_with fail
                go_roundg n
                case measure => omega
                case rel => exact ⟨_, cd ++ [c], s3, false, rfl, H6.out, fun h => (by cases h), fun _ => ⟨by rw [E1.out]; exact condLoop_last HC.out (Or.inl HB2.out), by omega⟩⟩
              | false =>
                have HB2 := Lib.hid hb2
                rw [hb2] at q6
                clear hb2
                cases ha : peekR kAND s3 with
                | false =>
                  have HAN := Lib.hid ha
                  clear ha
                  go_wp2_with fail
                  refine (has H6.out.ri kAND false HAN.out).mono ?_
                  rintro e W7 ⟨rfl, h7, g7⟩
                  rw [hasR_not HAN.out] at h7
                  have H7 := Lib.hid (H6.out.call h7 g7)
                  clear h7 g7 q6
                  go_wp2_with fail
                  go_roundg n
                  case measure => omega
                  case rel => exact ⟨_, cd ++ [c], s3, false, rfl, H7.out, fun h => (by cases h), fun _ => ⟨by rw [E1.out]; exact condLoop_last HC.out (Or.inr HAN.out), by omega⟩⟩
                | true =>
                  have HAN := Lib.hid ha
                  have hless := hasR_less ha
                  clear ha
                  go_wp2_with fail
                  refine (has H6.out.ri kAND true HAN.out).mono ?_
                  rintro e W7 ⟨rfl, h7, g7⟩
                  have H7 := Lib.hid (H6.out.call h7 g7)
                  clear h7 g7 q6
                  go_wp2_with fail
                  go_roundg n
                  case measure => omega
                  case rel => exact ⟨_, cd ++ [c], hasR kAND s3, true, rfl, H7.out, fun _ => ⟨by rw [E1.out]; exact condLoop_more HC.out HB2.out HAN.out, by omega, by omega⟩, fun h => (by cases h)⟩
      case rest =>
        obtain ⟨vc, cd, s3, hq9, hcd, hcb⟩ := hcut
        have H9 := Lib.hid hq9
        have HCD := Lib.hid hcd
        clear H2 HCL
        obtain ⟨ao, ca, rfl⟩ : ∃ ao ca, vs = .slice ao out.length ca := by
          rcases hq9.rs.2 with ⟨e, e0⟩ | ⟨g, cap, cur, e, _⟩
          · exact ⟨none, 0, (show vs = .slice none 0 0 from e).trans (by rw [show out.length = 0 from e0])⟩
          · exact ⟨_, _, e⟩
        obtain ⟨ao2, ca2, rfl⟩ : ∃ ao ca, vc = .slice ao cd.length ca := by
          rcases hq9.rc.2 with ⟨e, e0⟩ | ⟨g, cap, cur, e, _⟩
          · exact ⟨none, 0, (show vc = .slice none 0 0 from e).trans (by rw [show cd.length = 0 from e0])⟩
          · exact ⟨_, _, e⟩
        have r2 : wc.cell? ⟨b, 2, none⟩ = some (.bool s3.bad) := (hq9.ri.box.cell 2).trans rfl
        have fr2 : wc.frozen? ⟨b, 2, none⟩ = false := hq9.ri.box.free 2
        have z1 : wc.cell? ⟨x, 1, none⟩ = some (.slice ao out.length ca) := (hq9.lq.cell 1).trans rfl
        have z2 : wc.cell? ⟨x, 2, none⟩ = some (.slice ao2 cd.length ca2) := (hq9.lq.cell 2).trans rfl
        clear hq9 hcd
        cases hb : s3.bad with
        | true =>
          rw [hb] at r2
          have HBB : Hid (matchR st = ((out, cd), ⟨s3.rest, true⟩)) := by show _ = _; rw [HMR.out, HCD.out]; unfold RS.orBad; simp only [hb]; rfl
          clear hb
          go_wp2_with fail
          go_end0
          refine ⟨rfl, .slice ao out.length ca, .slice ao2 cd.length ca2, ?_⟩
          rw [HBB.out]
          exact H9.out.setBad true
        | false =>
          rw [hb] at r2
          by_cases h6 : 6 < out.length
          · have HBB : Hid (matchR st = ((out, cd), ⟨s3.rest, true⟩)) := by show _ = _; rw [HMR.out, HCD.out]; unfold RS.orBad; simp only [hb]; simp [h6]
            clear hb
            have h6i : (6 : Int) < out.length := by omega
            go_wp2_with fail
            go_end0
            refine ⟨rfl, .slice ao out.length ca, .slice ao2 cd.length ca2, ?_⟩
            rw [HBB.out]
            exact H9.out.setBad true
          · by_cases h7 : 6 < cd.length
            · have HBB : Hid (matchR st = ((out, cd), ⟨s3.rest, true⟩)) := by show _ = _; rw [HMR.out, HCD.out]; unfold RS.orBad; simp only [hb]; simp [h7]
              clear hb
              have h6i : ¬ (6 : Int) < out.length := by omega
              have h7i : (6 : Int) < cd.length := by omega
              go_wp2_with fail
              go_end0
              refine ⟨rfl, .slice ao out.length ca, .slice ao2 cd.length ca2, ?_⟩
              rw [HBB.out]
              exact H9.out.setBad true
            · have HBB : Hid (matchR st = ((out, cd), ⟨s3.rest, false⟩)) := by show _ = _; rw [HMR.out, HCD.out]; unfold RS.orBad; simp only [hb]; simp [h6, h7]
              clear hb
              have h6i : ¬ (6 : Int) < out.length := by omega
              have h7i : ¬ (6 : Int) < cd.length := by omega
              go_wp2_with fail
              go_end0
              refine ⟨rfl, .slice ao out.length ca, .slice ao2 cd.length ca2, ?_⟩
              rw [HBB.out]
              exact H9.out.setBad false

end Go.Proofs.YtobgbmfpicmpcaaGreatDoor

/- The reader and the query beside one block more: a local that is filled and then appended. No walk in this text. -/
namespace Go.Proofs.YtobgbmfpicmpcaaGreatDoor
open Go.RowKit

structure QY (W0 : World) (b : Nat) (lv : Value) (ts : List Tok) (st : RS) (x : Nat) (cs : Array Value) (R : QRow) (y : Nat) (cy : Array Value) (T : TypeId) (W : World) : Prop where
  q : QAt W0 b lv ts st x cs R W
  ly : Loc W y cy T
  yb : y ≠ b
  yx : y ≠ x
  yl : lv.ownBlock ≠ some y
  ny : W0.heap.size ≤ y
  ys : R.vs.ownBlock ≠ some y
  yc : R.vc.ownBlock ≠ some y
  yi : R.vi.ownBlock ≠ some y
  yp : R.vp.ownBlock ≠ some y
variable {W0 W W' w2 : World} {b x y : Nat} {lv : Value} {ts : List Tok} {st st' : RS} {cs cy : Array Value} {R : QRow} {T : TypeId}
theorem row_new {W : World} {B k n : Nat} {T : TypeId} {v : Value} {xs : List Value} (ho : W.ownsRow B T k v n xs) : v.ownBlock ≠ some W.heap.size := by
  intro e
  have := (ho.lt _ e).2
  omega
theorem QAt.more (h : QAt W0 b lv ts st x cs R W) (cy : Array Value) (T : TypeId) : QY W0 b lv ts st x cs R W.heap.size cy T (W.alloc (.cells cy T)) := by
  obtain ⟨B, ho⟩ := h.ri.row
  have hb := h.ri.box.lt
  have hx := h.lq.lt
  exact ⟨h.alloc _, Loc.new W cy T, by omega, by omega, row_new ho, h.grown.size, row_new h.rs, row_new h.rc, row_new h.rt, row_new h.rp⟩
theorem QY.call (h : QY W0 b lv ts st x cs R y cy T W) (h1 : RI b lv ts st' W') (g1 : W.grownBy W' (some b)) : QY W0 b lv ts st' x cs R y cy T W' :=
  ⟨h.q.call h1 g1, h.ly.grown g1 (by simpa using h.yb), h.yb, h.yx, h.yl, h.ny, h.ys, h.yc, h.yi, h.yp⟩
theorem QY.setY (h : QY W0 b lv ts st x cs R y cy T W) (j : Nat) (u : Value) : QY W0 b lv ts st x cs R y (cy.setIfInBounds j u) T (W.setCell ⟨y, j, none⟩ u) := by
  have g := grown_set W y j u
  exact ⟨⟨h.q.ri.setOther (fun e => h.yb e.symm) h.yl j u, h.q.lq.setOther (fun e => h.yx e.symm) j u, grown_own h.q.grown h.ny j u, h.q.nx, h.q.rs.kept g (Or.inr h.ys), h.q.rc.kept g (Or.inr h.yc), h.q.rt.kept g (Or.inr h.yi), h.q.rp.kept g (Or.inr h.yp)⟩, h.ly.set j u, h.yb, h.yx, h.yl, h.ny, h.ys, h.yc, h.yi, h.yp⟩
theorem QY.setBad (h : QY W0 b lv ts st x cs R y cy T W) (z : Bool) : QY W0 b lv ts ⟨st.rest, z⟩ x cs R y cy T (W.setCell ⟨b, 2, none⟩ (.bool z)) := h.call (h.q.ri.setBad z) (grown_set W b 2 _)

theorem two_one {a b : ByteArray} : ∀ u ∈ [Value.string a, .string b], u.oneCell' = true := by
  intro u hu
  simp at hu
  rcases hu with rfl | rfl <;> rfl
theorem pair_one {a : ByteArray} {i : Int} : ∀ u ∈ [Value.string a, .int .i64 i], u.oneCell' = true := by
  intro u hu
  simp at hu
  rcases hu with rfl | rfl <;> rfl
theorem Tryz.infoItem : (Tryz.prog.info? 89).map (fun i => (i.zero, i.size, i.bytes)) = some (some (.agg #[.string ⟨#[]⟩, .string ⟨#[]⟩]), 2, 32) := by kernel_rfl
theorem Tryz.infoPair : (Tryz.prog.info? 91).map (fun i => (i.zero, i.size, i.bytes)) = some (some (.agg #[.string ⟨#[]⟩, .int .i64 0]), 2, 24) := by kernel_rfl

end Go.Proofs.YtobgbmfpicmpcaaGreatDoor

/- A row of records in memory, as a walk that reads it sees it: for any kind of record. No walk in this text. -/
namespace Go.Proofs.YtobgbmfpicmpcaaGreatDoor
open Go.RowKit

theorem flat_at {α : Type} (f : α → List Value) {k : Nat} (hk : ∀ a, (f a).length = k) : ∀ (l : List α) (i : Nat) (hi : i < l.length) (j : Nat), j < k → (l.flatMap f)[i * k + j]? = (f l[i])[j]?
  | [], i, hi, _, _ => by simp at hi
  | a :: l, 0, _, j, hj => by
    rw [List.flatMap_cons, List.getElem?_append_left (by rw [hk]; omega)]
    simp
  | a :: l, i + 1, hi, j, hj => by
    have ih := flat_at f hk l i (by simpa using hi) j hj
    rw [List.flatMap_cons, List.getElem?_append_right (by rw [hk, Nat.succ_mul]; omega), hk]
    rw [show (i + 1) * k + j - k = i * k + j by rw [Nat.succ_mul]; omega]
    simpa using ih
theorem flat_length {α : Type} (f : α → List Value) {k : Nat} (hk : ∀ a, (f a).length = k) : ∀ (l : List α), (l.flatMap f).length = l.length * k
  | [] => by simp
  | a :: l => by rw [List.flatMap_cons, List.length_append, hk, flat_length f hk l, List.length_cons, Nat.succ_mul]; omega
/-- Where a row's records lie. -/
def Lies {α : Type} (f : α → List Value) (k : Nat) (l : List α) (ao : Option Addr) (w : World) : Prop :=
  ∀ i, (hi : i < l.length) → ∃ g, ao = some ⟨g, 0, none⟩ ∧ ∀ j, j < k → w.cell? ⟨g, i * k + j, none⟩ = (f l[i])[j]?
theorem row_view {α : Type} {w : World} {B k : Nat} {T : TypeId} {v : Value} {l : List α} (f : α → List Value) (hk : ∀ a, (f a).length = k) (h : w.ownsRow B T k v l.length (l.flatMap f)) :
    ∃ ao cap, v = .slice ao l.length cap ∧ l.length ≤ cap ∧ Lies f k l ao w := by
  rcases h.2 with ⟨hv, h0⟩ | ⟨g, cap, cur, hv, hb, hg, hnc, _⟩
  · exact ⟨none, 0, by rw [hv, h0], by omega, fun i hi => by omega⟩
  · refine ⟨some ⟨g, 0, none⟩, cap, hv, hnc, fun i hi => ⟨g, rfl, fun j hj => ?_⟩⟩
    rw [hv] at h
    refine (h.cellAt _ ?_).trans (flat_at f hk l i hi j hj)
    have : (i + 1) * k ≤ l.length * k := Nat.mul_le_mul_right k (by omega)
    rw [Nat.succ_mul] at this
    omega
theorem row_at {α : Type} {w : World} {B k n cap : Nat} {T : TypeId} {ao : Option Addr} {l : List α} (f : α → List Value) (hk : ∀ a, (f a).length = k) (h : w.ownsRow B T k (.slice ao n cap) l.length (l.flatMap f)) {i : Nat} (hi : i < l.length) :
    ∃ g, ao = some ⟨g, 0, none⟩ ∧ ∀ j, j < k → w.cell? ⟨g, i * k + j, none⟩ = (f l[i])[j]? := by
  obtain ⟨ao', cap', e, _, hl⟩ := row_view f hk h
  injection e with e1 e2 e3
  subst e1
  exact hl i hi
theorem row_slice {α : Type} {w : World} {B k : Nat} {T : TypeId} {v : Value} {l : List α} {xs : List Value} (h : w.ownsRow B T k v l.length xs) : ∃ ao cap, v = .slice ao l.length cap ∧ l.length ≤ cap := by
  rcases h.2 with ⟨hv, h0⟩ | ⟨g, cap, cur, hv, hb, hg, hnc, _⟩
  · exact ⟨none, 0, by rw [hv, h0], by omega⟩
  · exact ⟨_, cap, hv, hnc⟩

def fSpot (c : PSpot) : List Value := [.string c.name, .string c.label, .string c.type, .int .i64 c.least, .int .i64 c.most]
def fCond (c : PCond) : List Value := [.int .i64 c.op, .string c.a.name, .string c.a.key, .int .i64 c.a.val, .string c.b.name, .string c.b.key, .int .i64 c.b.val]
def fItem (c : PItem) : List Value := [.string c.name, .string c.key]
def fPair (c : PPair) : List Value := [.string c.key, .int .i64 c.val]
theorem spotCells_flat (l : List PSpot) : spotCells l = l.flatMap fSpot := rfl
theorem condCells_flat (l : List PCond) : condCells l = l.flatMap fCond := rfl
theorem itemCells_flat (l : List PItem) : itemCells l = l.flatMap fItem := rfl
theorem pairCells_flat (l : List PPair) : pairCells l = l.flatMap fPair := rfl

end Go.Proofs.YtobgbmfpicmpcaaGreatDoor

/- The reference's reader: a make. -/
namespace Go.Proofs.YtobgbmfpicmpcaaGreatDoor
open Go.RowKit

theorem pairLoop_bad {n : Nat} {out : List PPair} {st : RS} (h : st.bad = true) : pairLoop n out st = (out, st) := by
  cases n with
  | zero => rfl
  | succ n => simp only [pairLoop]; rw [h]; rfl
theorem pairLoop_more {n : Nat} {out : List PPair} {l : PPair} {st s2 : RS} (h : st.bad = false) (hp : pairR out st = (l, s2)) (hb : s2.bad = false) (hc : peekR mComma s2 = true) : pairLoop (n + 1) out st = pairLoop n (out ++ [l]) (hasR mComma s2) := by
  simp only [pairLoop]; rw [h, hp]; simp only [hb, hc]; rfl
theorem pairLoop_last {n : Nat} {out : List PPair} {l : PPair} {st s2 : RS} (h : st.bad = false) (hp : pairR out st = (l, s2)) (hc : s2.bad = true ∨ peekR mComma s2 = false) : pairLoop (n + 1) out st = (out ++ [l], s2) := by
  simp only [pairLoop]; rw [h, hp]
  rcases hc with hc | hc
  · simp [hc]
  · simp [hc]
theorem pairR_len (l : List PPair) (st : RS) : (pairR l st).2.rest.length ≤ st.rest.length := by
  unfold pairR
  have h1 := nameR_len st
  have h2 := mustR_len mColon (nameR st).2
  have h3 := countR_len (-1000000000) 1000000000 (mustR mColon (nameR st).2)
  simp only [orBad_rest]
  omega
theorem RS.orBad_no (st : RS) : st.orBad false = st := by unfold RS.orBad; simp
theorem RS.orBad_or (st : RS) (x y : Bool) : (st.orBad x).orBad y = st.orBad (x || y) := by unfold RS.orBad; simp [Bool.or_assoc]
theorem QY.drew {W0 W : World} {b x y : Nat} {lv : Value} {ts : List Tok} {st : RS} {cs cy : Array Value} {R : QRow} {T : TypeId} (h : QY W0 b lv ts st x cs R y cy T W) (n : Nat) : QY W0 b lv ts st x cs R y cy T (W.drewN n) := h.call (h.q.ri.drew n) (grown_drew W n _)
/-- The pairs that were looked at so far: is one of this key among them? -/
def seen (pr : List PPair) (key : ByteArray) (k : Nat) : Bool := (pr.take k).any fun x => eqB x.key key
theorem seen_zero (pr : List PPair) (key : ByteArray) : seen pr key 0 = false := by unfold seen; simp
theorem seen_all (pr : List PPair) (key : ByteArray) : seen pr key pr.length = (pr.any fun x => eqB x.key key) := by unfold seen; rw [List.take_length]
theorem seen_next {pr : List PPair} {key : ByteArray} {k : Nat} (h : k < pr.length) : seen pr key (k + 1) = (seen pr key k || eqB pr[k].key key) := by
  have e : pr.take (k + 1) = pr.take k ++ [pr[k]] := by rw [List.take_add_one, List.getElem?_eq_getElem h]; rfl
  unfold seen; rw [e, List.any_append]; simp

set_option maxRecDepth 100000 in
set_option maxHeartbeats 9000000 in
theorem make_ {b x : Nat} {lv : Value} {ts : List Tok} {st : RS} {W0 W : World} (h : QAt W0 b lv ts st x (qC query0 (.slice none 0 0) (.slice none 0 0) (.slice none 0 0) (.slice none 0 0)) ⟨(.slice none 0 0), [], (.slice none 0 0), [], (.slice none 0 0), [], (.slice none 0 0), []⟩ W) :
    Calls Tryz.prog 39 #[.pointer (some ⟨b, 0, none⟩), .pointer (some ⟨x, 0, none⟩)] W fun e W' => e = .returned (.tuple #[]) ∧ ∃ vp, QAt W0 b lv ts (makeR st).2 x (qC { query0 with kind := 5, label := (makeR st).1.1 } (.slice none 0 0) (.slice none 0 0) (.slice none 0 0) vp) ⟨(.slice none 0 0), [], (.slice none 0 0), [], (.slice none 0 0), [], vp, (makeR st).1.2⟩ W' := by
  obtain ⟨i1, hj, hy0, hy1, hy2⟩ := info_parts Tryz.infoPair
  have hlen := h.ri.len
  have hrl : st.rest.length ≤ ts.length := by obtain ⟨_, _, _, _, _, _, _, e, _⟩ := h.ri.seen; exact e
  have hr1 := mustR_len mOpen st
  obtain ⟨tl, s1, htl⟩ : ∃ tl s1, titleR (mustR mOpen st) = (tl, s1) := ⟨_, _, rfl⟩
  have HTL := Lib.hid htl
  have hr2 := titleR_len (mustR mOpen st)
  rw [htl] at hr2
  obtain ⟨m0, hm0⟩ : ∃ m0, peekR mBrace s1 = m0 := ⟨_, rfl⟩
  have HM0 := Lib.hid hm0
  have hr3 := hasR_len mBrace s1
  obtain ⟨sb, hsb⟩ : ∃ sb, hasR mBrace s1 = sb := ⟨_, rfl⟩
  have HSB := Lib.hid hsb
  rw [hsb] at hr3
  have c0 : W.cell? ⟨x, 0, none⟩ = some (.int .i64 0) := (h.lq.cell 0).trans rfl
  have f0 : W.frozen? ⟨x, 0, none⟩ = false := h.lq.free 0
  have H0 := Lib.hid (h.set 0 (.int .i64 5))
  clear h htl hm0 hsb
  go_enter Tryz.func39, Tryz.ntmps39
  go_wp2_with fail
  generalize W.setCell ⟨x, 0, none⟩ (.int .i64 5) = W1 at H0 ⊢
  clear c0 f0
  refine (must H0.out.ri mOpen).mono ?_
  rintro e W2 ⟨rfl, h2, g2⟩
  have H2 := Lib.hid (H0.out.call h2 g2)
  clear h2 g2 H0
  go_wp2_with fail
  refine (titleIs H2.out.ri HTL.out).mono ?_
  rintro e W3 ⟨rfl, h3, g3⟩
  have H3a := H2.out.call h3 g3
  have c15 : W3.cell? ⟨x, 15, none⟩ = some (.string ⟨#[]⟩) := (H3a.lq.cell 15).trans rfl
  have f15 : W3.frozen? ⟨x, 15, none⟩ = false := H3a.lq.free 15
  have H4 := Lib.hid (H3a.set 15 (.string tl))
  clear h3 g3 H3a H2
  go_wp2_with fail
  generalize W3.setCell ⟨x, 15, none⟩ (.string tl) = W4 at H4 ⊢
  clear c15 f15
  refine (has H4.out.ri mBrace m0 HM0.out).mono ?_
  rintro e W5 ⟨rfl, h5, g5⟩
  rw [HSB.out] at h5
  have H5 : Hid (QAt W0 b lv ts sb x (qC { query0 with kind := 5, label := tl } (.slice none 0 0) (.slice none 0 0) (.slice none 0 0) (.slice none 0 0)) ⟨(.slice none 0 0), [], (.slice none 0 0), [], (.slice none 0 0), [], (.slice none 0 0), []⟩ W5) := H4.out.call h5 g5
  clear h5 g5 H4
  go_upto_block 0 with fail
  go_cut [5, 6, 7] (fun _ _ _ w => ∃ vp pr s', QAt W0 b lv ts s' x (qC { query0 with kind := 5, label := tl } (.slice none 0 0) (.slice none 0 0) (.slice none 0 0) vp) ⟨(.slice none 0 0), [], (.slice none 0 0), [], (.slice none 0 0), [], vp, pr⟩ w ∧ (if m0 then pairLoop (st.rest.length + 1) [] sb else ([], sb)) = (pr, s') ∧ pr.length + s'.rest.length ≤ 2002)
  case first =>
    go_wp2_with fail
    go_loopg [5] (st.rest.length + 1) (fun n more w => ∃ vp pr s' m, more = .bool m ∧ QAt W0 b lv ts s' x (qC { query0 with kind := 5, label := tl } (.slice none 0 0) (.slice none 0 0) (.slice none 0 0) vp) ⟨(.slice none 0 0), [], (.slice none 0 0), [], (.slice none 0 0), [], vp, pr⟩ w ∧ (m = true → (if m0 then pairLoop (st.rest.length + 1) [] sb else ([], sb)) = pairLoop n pr s' ∧ s'.rest.length + 1 ≤ n ∧ pr.length + s'.rest.length ≤ 2001) ∧ (m = false → (if m0 then pairLoop (st.rest.length + 1) [] sb else ([], sb)) = (pr, s') ∧ pr.length + s'.rest.length ≤ 2002))
    case atStart =>
      refine ⟨_, [], _, m0, rfl, H5.out, fun e => ⟨by rw [e]; rfl, by omega, by simp; omega⟩, fun e => ⟨by rw [e]; rfl, by simp; omega⟩⟩
    case round =>
      obtain ⟨vp, pr, s', m, rfl, hq, hT, hF⟩ := hrel
      obtain ⟨ao, ca, rfl, hca⟩ := row_slice (l := pr) hq.rp
      have HQ := Lib.hid hq
      have q2 : wr.cell? ⟨b, 2, none⟩ = some (.bool s'.bad) := (hq.ri.box.cell 2).trans rfl
      clear hq H5
      cases m with
      | false =>
        obtain ⟨e1, e2⟩ := hF rfl
        have E1 := Lib.hid e1
        clear e1 hT hF
        go_wp2_with fail
        go_meet
        case rel => exact ⟨_, pr, s', HQ.out, E1.out, e2⟩
      | true =>
        obtain ⟨e1, e2, e3⟩ := hT rfl
        have E1 := Lib.hid e1
        clear e1 hT hF
        cases hb : s'.bad with
        | true =>
          have HB := Lib.hid hb
          rw [hb] at q2
          clear hb
          go_wp2_with fail
          go_meet
          case rel => exact ⟨_, pr, s', HQ.out, by rw [E1.out]; exact pairLoop_bad HB.out, by omega⟩
        | false =>
          have HB := Lib.hid hb
          rw [hb] at q2
          clear hb
          obtain ⟨n, hn⟩ : ∃ n, gk = n + 1 := ⟨gk - 1, by omega⟩
          subst hn
          obtain ⟨nm, s3, hnm⟩ : ∃ nm s3, nameR s' = (nm, s3) := ⟨_, _, rfl⟩
          have HNM := Lib.hid hnm
          obtain ⟨vl, s4, hvl⟩ : ∃ vl s4, countR (-1000000000) 1000000000 (mustR mColon s3) = (vl, s4) := ⟨_, _, rfl⟩
          have HVL := Lib.hid hvl
          have HPR : Hid (pairR pr s' = (⟨nm, vl⟩, s4.orBad (seen pr nm pr.length))) := by show _ = _; unfold pairR; rw [seen_all]; simp only [hnm, hvl]
          have hpl := pairR_len pr s'
          rw [HPR.out, orBad_rest] at hpl
          clear hnm hvl
          obtain ⟨s5, hs5⟩ : ∃ s5, s4.orBad (seen pr nm pr.length) = s5 := ⟨_, rfl⟩
          rw [hs5] at HPR
          have hr5 : s5.rest.length = s4.rest.length := by rw [← hs5]; rfl
          have HS5 := Lib.hid hs5
          clear hs5
          go_upto_block 1 with fail
          go_cut [6, 7] (fun _ _ w => ∃ v, QAt W0 b lv ts s5 x (qC { query0 with kind := 5, label := tl } (.slice none 0 0) (.slice none 0 0) (.slice none 0 0) v) ⟨(.slice none 0 0), [], (.slice none 0 0), [], (.slice none 0 0), [], v, (pr ++ [⟨nm, vl⟩])⟩ w)
          case first =>
            have HY1 := Lib.hid (HQ.out.more #[.string ⟨#[]⟩, .int .i64 0] 91)
            clear HQ
            go_wp2_with fail
            obtain ⟨Y, hY⟩ : ∃ Y, Y = wr.heap.size := ⟨_, rfl⟩
            rw [← hY] at HY1 ⊢
            clear hY q2
            generalize wr.alloc (.cells #[.string ⟨#[]⟩, .int .i64 0] 91) = W6 at HY1 ⊢
            refine (nameIs HY1.out.q.ri HNM.out).mono ?_
            rintro e W7 ⟨rfl, h7, g7⟩
            have H7a := HY1.out.call h7 g7
            have c0 : W7.cell? ⟨Y, 0, none⟩ = some (.string ⟨#[]⟩) := (H7a.ly.cell 0).trans rfl
            have f0 : W7.frozen? ⟨Y, 0, none⟩ = false := H7a.ly.free 0
            have H8 := Lib.hid (H7a.setY 0 (.string nm))
            clear h7 g7 H7a HY1
            go_wp2_with fail
            generalize W7.setCell ⟨Y, 0, none⟩ (.string nm) = W8 at H8 ⊢
            clear c0 f0
            refine (must H8.out.q.ri mColon).mono ?_
            rintro e W9 ⟨rfl, h9, g9⟩
            have H9 := Lib.hid (H8.out.call h9 g9)
            clear h9 g9 H8
            go_wp2_with fail
            refine (countIs H9.out.q.ri HVL.out).mono ?_
            rintro e WA ⟨rfl, hA, gA⟩
            have HAa := H9.out.call hA gA
            have c1 : WA.cell? ⟨Y, 1, none⟩ = some (.int .i64 0) := (HAa.ly.cell 1).trans rfl
            have f1 : WA.frozen? ⟨Y, 1, none⟩ = false := HAa.ly.free 1
            have HB1 : Hid (QY W0 b lv ts s4 x (qC { query0 with kind := 5, label := tl } (.slice none 0 0) (.slice none 0 0) (.slice none 0 0) (.slice ao pr.length ca)) ⟨(.slice none 0 0), [], (.slice none 0 0), [], (.slice none 0 0), [], (.slice ao pr.length ca), pr⟩ Y #[.string nm, .int .i64 vl] 91 (WA.setCell ⟨Y, 1, none⟩ (.int .i64 vl))) := HAa.setY 1 (.int .i64 vl)
            clear hA gA HAa H9
            go_upto_block 2 with fail
            generalize WA.setCell ⟨Y, 1, none⟩ (.int .i64 vl) = WB at HB1 ⊢
            clear c1 f1
            go_cut [7] (fun _ w => QY W0 b lv ts (s4.orBad (seen pr nm pr.length)) x (qC { query0 with kind := 5, label := tl } (.slice none 0 0) (.slice none 0 0) (.slice none 0 0) (.slice ao pr.length ca)) ⟨(.slice none 0 0), [], (.slice none 0 0), [], (.slice none 0 0), [], (.slice ao pr.length ca), pr⟩ Y #[.string nm, .int .i64 vl] 91 w)
            case first =>
              go_wp2_with fail
              go_loopg [7] pr.length (fun n iv w => ∃ k : Nat, iv = .int .i64 (k : Int) ∧ k + n = pr.length ∧ QY W0 b lv ts (s4.orBad (seen pr nm k)) x (qC { query0 with kind := 5, label := tl } (.slice none 0 0) (.slice none 0 0) (.slice none 0 0) (.slice ao pr.length ca)) ⟨(.slice none 0 0), [], (.slice none 0 0), [], (.slice none 0 0), [], (.slice ao pr.length ca), pr⟩ Y #[.string nm, .int .i64 vl] 91 w)
              case atStart => exact ⟨0, rfl, by omega, by rw [seen_zero, RS.orBad_no]; exact HB1.out⟩
              case round =>
                obtain ⟨k, rfl, hk, hq⟩ := hrel
                have HK := Lib.hid hq
                have c16 : wr.cell? ⟨x, 16, none⟩ = some (.slice ao pr.length ca) := (hq.q.lq.cell 16).trans rfl
                by_cases hlt : k < pr.length
                · obtain ⟨g, rfl, hcell⟩ := row_at (l := pr) fPair (fun _ => rfl) hq.q.rp hlt
                  have p0 : wr.cell? ⟨g, k * 2, none⟩ = some (.string pr[k].key) := hcell 0 (by decide)
                  have y0 : wr.cell? ⟨Y, 0, none⟩ = some (.string nm) := (hq.ly.cell 0).trans rfl
                  have b2 : wr.cell? ⟨b, 2, none⟩ = some (.bool (s4.orBad (seen pr nm k)).bad) := (hq.q.ri.box.cell 2).trans rfl
                  have fb2 : wr.frozen? ⟨b, 2, none⟩ = false := hq.q.ri.box.free 2
                  have hkb : k < 9223372036854775807 := by omega
                  have hki : (k : Int) < (pr.length : Int) := by omega
                  obtain ⟨key, hkey⟩ : ∃ key, pr[k].key = key := ⟨_, rfl⟩
                  have HNX : Hid (s4.orBad (seen pr nm (k + 1)) = ⟨(s4.orBad (seen pr nm k)).rest, (s4.orBad (seen pr nm k)).bad || (key.toList == nm.toList)⟩) := by show _ = _; rw [seen_next hlt, hkey]; unfold RS.orBad eqB; simp [Bool.or_assoc]
                  rw [hkey] at p0
                  clear hq hcell hkey hlt
                  cases hb : (s4.orBad (seen pr nm k)).bad with
                  | true =>
                    rw [hb] at b2
                    go_upto_region 14 with fail
                    go_region
                    go_wp2_with fail
                    go_roundg (gk - 1)
                    case measure => omega
                    case rel => exact ⟨k + 1, by simp, by omega, by rw [HNX.out, hb, Bool.true_or]; exact (HK.out.setBad true).drew 1⟩
                  | false =>
                    rw [hb] at b2
                    cases he : (key.toList == nm.toList) with
                    | true =>
                      go_upto_region 14 with fail
                      go_region
                      go_wp2_with fail
                      go_roundg (gk - 1)
                      case measure => omega
                      case rel => exact ⟨k + 1, by simp, by omega, by rw [HNX.out, hb, he, Bool.false_or]; exact (HK.out.setBad true).drew 1⟩
                    | false =>
                      go_upto_region 14 with fail
                      go_region
                      go_wp2_with fail
                      go_roundg (gk - 1)
                      case measure => omega
                      case rel => exact ⟨k + 1, by simp, by omega, by rw [HNX.out, hb, he, Bool.false_or]; exact (HK.out.setBad false).drew 1⟩
                · have hki : ¬ (k : Int) < (pr.length : Int) := by omega
                  go_wp2_with fail
                  go_meet
                  case rel => 
                    have : k = pr.length := by omega
                    rw [this] at HK
                    exact HK.out
            case rest =>
              rw [HS5.out] at hcut
              have HY := Lib.hid hcut
              go_upto_region 15 with fail
              have y0 : wc.cell? ⟨Y, 0, none⟩ = some (.string nm) := (hcut.ly.cell 0).trans rfl
              have y1 : wc.cell? ⟨Y, 1, none⟩ = some (.int .i64 vl) := (hcut.ly.cell 1).trans rfl
              have x16 : wc.cell? ⟨x, 16, none⟩ = some (.slice ao pr.length ca) := (hcut.q.lq.cell 16).trans rfl
              have fx16 : wc.frozen? ⟨x, 16, none⟩ = false := hcut.q.lq.free 16
              have HD : Hid (QAt W0 b lv ts s5 x (qC { query0 with kind := 5, label := tl } (.slice none 0 0) (.slice none 0 0) (.slice none 0 0) (.slice ao pr.length ca)) ⟨(.slice none 0 0), [], (.slice none 0 0), [], (.slice none 0 0), [], (.slice ao pr.length ca), pr⟩ ((wc.alloc (.cells #[.string nm, .int .i64 vl] 91)).drew)) := (HY.out.q.alloc _).drew 1
              have xa16 : (wc.alloc (.cells #[.string nm, .int .i64 vl] 91)).cell? ⟨x, 16, none⟩ = some (.slice ao pr.length ca) := (HD.out.lq.cell 16).trans rfl
              clear hcut HY
              go_region_law (refine step_append_lies _ rfl _ _ 27 rfl W0.heap.size 91 i1 (.agg #[.string ⟨#[]⟩, .int .i64 0]) 2 24 Tryz.underlying27 hj hy0 hy1 hy2 rfl (by decide) (.slice ao pr.length ca) _ _ (by simp [Act.eval]) HD.out.rp ⟨wc.heap.size, 0, none⟩ 1 1 [.string nm, .int .i64 vl] (by simp [Act.eval]) rfl (World.news_of_block (heap_alloc_new wc _)) pair_one (by omega) (by unfold maxLen; simp only; omega) (by simp only; omega) HD.out.grown.size _ rfl ?_; intro g2 cap2 w5 hown hgrow _ _; have H5a := HD.out.pairs (l := [⟨nm, vl⟩]) hgrow (by rw [pairCells_snoc, List.length_append]; exact hown); have c5 : w5.cell? ⟨x, 16, none⟩ = some (.slice ao pr.length ca) := (H5a.lq.cell 16).trans rfl; have f5 : w5.frozen? ⟨x, 16, none⟩ = false := H5a.lq.free 16; have H5 := Lib.hid (H5a.set 16 (.slice (some ⟨g2, 0, none⟩) (pr.length + 1) cap2)); clear H5a hown hgrow)
              all_goals
                go_wp2_with fail
                go_meet
                case rel => exact ⟨_, H5.out⟩
          case rest =>
            clear HQ q2
            obtain ⟨v, hq⟩ := hcut
            have H6 := Lib.hid hq
            have q6 : wc.cell? ⟨b, 2, none⟩ = some (.bool s5.bad) := (hq.ri.box.cell 2).trans rfl
            clear hq
            have hol : (pr ++ [(⟨nm, vl⟩ : PPair)]).length = pr.length + 1 := by simp
            cases hb2 : s5.bad with
            | true =>
              have HB2 := Lib.hid hb2
              rw [hb2] at q6
              clear hb2
              go_wp2_with fail
              go_roundg n
              case measure => omega
              case rel => exact ⟨_, pr ++ [⟨nm, vl⟩], s5, false, rfl, H6.out, fun h => (by cases h), fun _ => ⟨by rw [E1.out]; exact pairLoop_last HB.out HPR.out (Or.inl HB2.out), by omega⟩⟩
            | false =>
              have HB2 := Lib.hid hb2
              rw [hb2] at q6
              clear hb2
              cases ha : peekR mComma s5 with
              | false =>
                have HAN := Lib.hid ha
                clear ha
                go_wp2_with fail
                refine (has H6.out.ri mComma false HAN.out).mono ?_
                rintro e W7 ⟨rfl, h7, g7⟩
                rw [hasR_not HAN.out] at h7
                have H7 := Lib.hid (H6.out.call h7 g7)
                clear h7 g7 q6
                go_wp2_with fail
                go_roundg n
                case measure => omega
                case rel => exact ⟨_, pr ++ [⟨nm, vl⟩], s5, false, rfl, H7.out, fun h => (by cases h), fun _ => ⟨by rw [E1.out]; exact pairLoop_last HB.out HPR.out (Or.inr HAN.out), by omega⟩⟩
              | true =>
                have HAN := Lib.hid ha
                have hless := hasR_less ha
                clear ha
                go_wp2_with fail
                refine (has H6.out.ri mComma true HAN.out).mono ?_
                rintro e W7 ⟨rfl, h7, g7⟩
                have H7 := Lib.hid (H6.out.call h7 g7)
                clear h7 g7 q6
                go_wp2_with fail
                go_roundg n
                case measure => omega
                case rel => exact ⟨_, pr ++ [⟨nm, vl⟩], hasR mComma s5, true, rfl, H7.out, fun _ => ⟨by rw [E1.out]; exact pairLoop_more HB.out HPR.out HB2.out HAN.out, by omega, by omega⟩, fun h => (by cases h)⟩
  case rest =>
    obtain ⟨vp, pr, s6, hq, hpl, hpn⟩ := hcut
    obtain ⟨ao, ca, rfl, hca⟩ := row_slice (l := pr) hq.rp
    have HPL := Lib.hid hpl
    have H6 := Lib.hid hq
    clear hq hpl H5
    go_upto_if 85 with fail
    go_cut [] (fun w => QAt W0 b lv ts (if m0 then mustR mUnbrace s6 else s6) x (qC { query0 with kind := 5, label := tl } (.slice none 0 0) (.slice none 0 0) (.slice none 0 0) (.slice ao pr.length ca)) ⟨(.slice none 0 0), [], (.slice none 0 0), [], (.slice none 0 0), [], (.slice ao pr.length ca), pr⟩ w)
    case first =>
      cases m0 with
      | false =>
        go_wp2_with fail
        go_meet
        case rel => exact H6.out
      | true =>
        go_wp2_with fail
        refine (must H6.out.ri mUnbrace).mono ?_
        rintro e W7 ⟨rfl, h7, g7⟩
        have H7 := Lib.hid (H6.out.call h7 g7)
        clear h7 g7 H6
        go_wp2_with fail
        go_meet
        case rel => exact H7.out
    case rest =>
      obtain ⟨s7, hs7⟩ : ∃ s7, (if m0 then mustR mUnbrace s6 else s6) = s7 := ⟨_, rfl⟩
      rw [hs7] at hcut
      have HS7 := Lib.hid hs7
      have H7 := Lib.hid hcut
      clear hs7 hcut H6
      go_wp2_with fail
      refine (must H7.out.ri mClose).mono ?_
      rintro e W8 ⟨rfl, h8, g8⟩
      obtain ⟨s8, hs8⟩ : ∃ s8, mustR mClose s7 = s8 := ⟨_, rfl⟩
      rw [hs8] at h8
      have HS8 := Lib.hid hs8
      have H8 := Lib.hid (H7.out.call h8 g8)
      have r2 : W8.cell? ⟨b, 2, none⟩ = some (.bool s8.bad) := (H8.out.ri.box.cell 2).trans rfl
      have fr2 : W8.frozen? ⟨b, 2, none⟩ = false := H8.out.ri.box.free 2
      have z3 : W8.cell? ⟨x, 16, none⟩ = some (.slice ao pr.length ca) := (H8.out.lq.cell 16).trans rfl
      clear h8 g8 H7 hs8
      have HIS : Hid (makeR st = ((tl, pr), s8.orBad (decide (6 < pr.length)))) := by
        show _ = _; unfold makeR; simp only [HTL.out, HM0.out, HSB.out]
        have e1 : (if m0 = true then pairLoop (st.rest.length + 1) [] sb else ([], s1)) = (pr, s6) := by
          rw [← HPL.out]
          cases hm : m0 with
          | true => rfl
          | false =>
            have := HSB.out
            rw [hasR_not (by rw [HM0.out, hm])] at this
            rw [this]
        rw [e1]
        simp only
        rw [HS7.out, HS8.out]
      cases hb : s8.bad with
      | true =>
        rw [hb] at r2
        have HF : Hid (makeR st = ((tl, pr), ⟨s8.rest, true⟩)) := by show _ = _; rw [HIS.out]; unfold RS.orBad; simp only [hb]; rfl
        clear hb
        go_wp2_with fail
        go_end0
        refine ⟨rfl, .slice ao pr.length ca, ?_⟩
        rw [HF.out]
        exact H8.out.setBad true
      | false =>
        rw [hb] at r2
        by_cases h6 : 6 < pr.length
        · have HF : Hid (makeR st = ((tl, pr), ⟨s8.rest, true⟩)) := by show _ = _; rw [HIS.out]; unfold RS.orBad; simp only [hb]; simp [h6]
          clear hb
          have h6i : (6 : Int) < pr.length := by omega
          go_wp2_with fail
          go_end0
          refine ⟨rfl, .slice ao pr.length ca, ?_⟩
          rw [HF.out]
          exact H8.out.setBad true
        · have HF : Hid (makeR st = ((tl, pr), ⟨s8.rest, false⟩)) := by show _ = _; rw [HIS.out]; unfold RS.orBad; simp only [hb]; simp [h6]
          clear hb
          have h6i : ¬ (6 : Int) < pr.length := by omega
          have H6D : Hid (decide ((6 : Int) < pr.length) = false) := decide_eq_false h6i
          go_wp2_with fail
          go_end0
          refine ⟨rfl, .slice ao pr.length ca, ?_⟩
          rw [HF.out, H6D.out]
          exact H8.out.setBad false

end Go.Proofs.YtobgbmfpicmpcaaGreatDoor

/- The reference's scope: is a variable one of the spots'? -/
namespace Go.Proofs.YtobgbmfpicmpcaaGreatDoor
open Go.RowKit

theorem bound_next {sp : List PSpot} {n : ByteArray} {k : Nat} (h : k < sp.length) : boundR (sp.take (k + 1)) n = (boundR (sp.take k) n || eqB sp[k].name n) := by
  have e : sp.take (k + 1) = sp.take k ++ [sp[k]] := by rw [List.take_add_one, List.getElem?_eq_getElem h]; rfl
  unfold boundR; rw [e, List.any_append]; simp
theorem bound_here {sp : List PSpot} {n : ByteArray} {k : Nat} (h : k < sp.length) (he : eqB sp[k].name n = true) : boundR sp n = true := by
  unfold boundR
  exact List.any_eq_true.2 ⟨sp[k], List.getElem_mem h, he⟩
theorem kept_none {W W' : World} {B k n : Nat} {T : TypeId} {v : Value} {xs : List Value} (h : W.ownsRow B T k v n xs) (g : W.grownBy W' none) : W'.ownsRow B T k v n xs :=
  h.kept g (by cases hv : v.ownBlock <;> simp)

set_option maxRecDepth 100000 in
set_option maxHeartbeats 4000000 in
theorem bound {B : Nat} {q : PQuery} {vs vc vi vp : Value} {sp : List PSpot} {n : ByteArray} {W : World} (h : W.ownsRow B 85 5 vs sp.length (spotCells sp)) (hlen : sp.length < 9223372036854775807) :
    Calls Tryz.prog 92 #[.agg (qC q vs vc vi vp), .string n] W fun e W' => e = .returned (.bool (boundR sp n)) ∧ Below W.heap.size W W' := by
  obtain ⟨ao, ca, rfl, hca⟩ := row_slice (l := sp) h
  have hB : Below W.heap.size W (W.alloc (.cells (qC q (.slice ao sp.length ca) vc vi vp) 29)) := Below.alloc (Below.refl _ _) (Nat.le_refl _) _
  have HB := Lib.hid hB
  have h1 := kept_none h (grown_alloc W (.cells (qC q (.slice ao sp.length ca) vc vi vp) 29) none)
  have L1 : Loc (W.alloc (.cells (qC q (.slice ao sp.length ca) vc vi vp) 29)) W.heap.size (qC q (.slice ao sp.length ca) vc vi vp) 29 := Loc.new W _ _
  have c1 : (W.alloc (.cells (qC q (.slice ao sp.length ca) vc vi vp) 29)).cell? ⟨W.heap.size, 1, none⟩ = some (.slice ao sp.length ca) := (L1.cell 1).trans rfl
  have HR := Lib.hid h1
  clear h h1 hB L1
  go_enter Tryz.func92, Tryz.ntmps92
  go_wp2_with fail
  generalize W.alloc (.cells (qC q (.slice ao sp.length ca) vc vi vp) 29) = Wb at HB HR c1 ⊢
  go_loopg [5] sp.length (fun m iv w => ∃ k : Nat, iv = .int .i64 (k : Int) ∧ k + m = sp.length ∧ w = Wb ∧ boundR (sp.take k) n = false)
  case atStart => exact ⟨0, rfl, by omega, rfl, rfl⟩
  case round =>
    obtain ⟨k, rfl, hk, rfl, hno⟩ := hrel
    have HNO := Lib.hid hno
    clear hno
    by_cases hlt : k < sp.length
    · obtain ⟨g, rfl, hcell⟩ := row_at (l := sp) fSpot (fun _ => rfl) HR.out hlt
      have p0 : wr.cell? ⟨g, k * 5, none⟩ = some (.string sp[k].name) := hcell 0 (by decide)
      have hki : (k : Int) < (sp.length : Int) := by omega
      obtain ⟨key, hkey⟩ : ∃ key, sp[k].name = key := ⟨_, rfl⟩
      have HNX : Hid (boundR (sp.take (k + 1)) n = (key.toList == n.toList)) := by show _ = _; rw [bound_next hlt, hkey, HNO.out]; rfl
      have HH : Hid ((key.toList == n.toList) = true → boundR sp n = true) := by intro e; exact bound_here hlt (by rw [hkey]; exact e)
      rw [hkey] at p0
      clear hcell hkey hlt
      cases he : (key.toList == n.toList) with
      | true =>
        go_wp2_with fail
        refine bodyPost_ret (v := .bool true) ?_ rfl ⟨?_, HB.out⟩
        · simp [results, Tryz.results92, go_sem]
        · rw [HH.out he]
      | false =>
        go_wp2_with fail
        go_roundg (gk - 1)
        case measure => omega
        case rel => exact ⟨k + 1, by simp, by omega, rfl, by rw [HNX.out]; exact he⟩
    · have hki : ¬ (k : Int) < (sp.length : Int) := by omega
      have hk2 : k = sp.length := by omega
      go_wp2_with fail
      refine bodyPost_ret (v := .bool false) ?_ rfl ⟨?_, HB.out⟩
      · simp [results, Tryz.results92, go_sem]
      · have := HNO.out
        rw [hk2, List.take_length] at this
        rw [this]

end Go.Proofs.YtobgbmfpicmpcaaGreatDoor

/- What stands in memory while the reference looks at a query's scope: the query's copy, its rows, the list of names. No walk in this text. -/
namespace Go.Proofs.YtobgbmfpicmpcaaGreatDoor
open Go.RowKit

def strs (l : List ByteArray) : List Value := l.map .string
theorem strs_append (a b : List ByteArray) : strs (a ++ b) = strs a ++ strs b := by unfold strs; rw [List.map_append]
theorem strs_length (a : List ByteArray) : (strs a).length = a.length := by unfold strs; rw [List.length_map]
theorem strs_flat (l : List ByteArray) : strs l = l.flatMap fun s => [.string s] := by
  induction l with
  | nil => rfl
  | cons a l ih => unfold strs at *; rw [List.map_cons, ih]; rfl
theorem strs_one {l : List ByteArray} : ∀ u ∈ strs l, u.oneCell' = true := by
  intro u hu
  unfold strs at hu
  obtain ⟨s, _, rfl⟩ := List.mem_map.1 hu
  rfl
theorem Tryz.infoString : (Tryz.prog.info? 9).map (fun i => (i.zero, i.size, i.bytes)) = some (some (.string ⟨#[]⟩), 1, 16) := by kernel_rfl

structure SAt (W : World) (B X : Nat) (cs : Array Value) (q : PQuery) (vs vc vi v : Value) (ns : List ByteArray) (w : World) : Prop where
  low : Below W.heap.size W w
  lq : Loc w X cs 29
  nx : W.heap.size ≤ X
  rs : w.ownsRow B 85 5 vs q.spots.length (spotCells q.spots)
  rc : w.ownsRow B 87 7 vc q.conds.length (condCells q.conds)
  rt : w.ownsRow B 89 2 vi q.items.length (itemCells q.items)
  rl : w.ownsRow W.heap.size 9 1 v ns.length (strs ns)
variable {W w w2 : World} {B X : Nat} {cs : Array Value} {q : PQuery} {vs vc vi v : Value} {ns : List ByteArray}
theorem SAt.quiet (h : SAt W B X cs q vs vc vi v ns w) (g : w.grownBy w2 none) : SAt W B X cs q vs vc vi v ns w2 :=
  ⟨⟨g.os.trans h.low.os, g.tape.trans h.low.tape, g.output.trans h.low.output, Nat.le_trans h.low.size g.size, fun k hk => (g.block k (Nat.lt_of_lt_of_le hk h.low.size) (by simp)).trans (h.low.block k hk)⟩, h.lq.grown g (by simp), h.nx, kept_none h.rs g, kept_none h.rc g, kept_none h.rt g, kept_none h.rl g⟩
theorem SAt.alloc (h : SAt W B X cs q vs vc vi v ns w) (o : Obj) : SAt W B X cs q vs vc vi v ns (w.alloc o) := h.quiet (grown_alloc w o none)
theorem SAt.drew (h : SAt W B X cs q vs vc vi v ns w) (n : Nat) : SAt W B X cs q vs vc vi v ns (w.drewN n) := h.quiet (grown_drew w n none)
theorem SAt.later (h : SAt W B X cs q vs vc vi v ns w) (hb : Below w.heap.size w w2) : SAt W B X cs q vs vc vi v ns w2 := h.quiet (grown_below hb none)
theorem SAt.more {v2 : Value} {l : List ByteArray} (h : SAt W B X cs q vs vc vi v ns w) (hg : w.grownBy w2 v.ownBlock) (ho : w2.ownsRow W.heap.size 9 1 v2 (ns ++ l).length (strs (ns ++ l))) : SAt W B X cs q vs vc vi v2 (ns ++ l) w2 :=
  ⟨⟨hg.os.trans h.low.os, hg.tape.trans h.low.tape, hg.output.trans h.low.output, Nat.le_trans h.low.size hg.size, fun k hk => (hg.block k (Nat.lt_of_lt_of_le hk h.low.size) (by
      intro e
      have := (h.rl.lt k e.symm).1
      omega)).trans (h.low.block k hk)⟩,
    h.lq.byRow h.rl hg (by decide), h.nx, h.rs.kept hg (row_row h.rs h.rl (by decide)), h.rc.kept hg (row_row h.rc h.rl (by decide)), h.rt.kept hg (row_row h.rt h.rl (by decide)), ho⟩

/-- The names so far. -/
def condNames (l : List PCond) : List ByteArray := l.flatMap fun c => [c.a.name, c.b.name]
def itemNames (l : List PItem) : List ByteArray := l.map fun x => x.name
theorem condNames_next {l : List PCond} {k : Nat} (h : k < l.length) : condNames (l.take (k + 1)) = condNames (l.take k) ++ [l[k].a.name, l[k].b.name] := by
  have e : l.take (k + 1) = l.take k ++ [l[k]] := by rw [List.take_add_one, List.getElem?_eq_getElem h]; rfl
  unfold condNames; rw [e, List.flatMap_append]; simp
theorem itemNames_next {l : List PItem} {k : Nat} (h : k < l.length) : itemNames (l.take (k + 1)) = itemNames (l.take k) ++ [l[k].name] := by
  have e : l.take (k + 1) = l.take k ++ [l[k]] := by rw [List.take_add_one, List.getElem?_eq_getElem h]; rfl
  unfold itemNames; rw [e, List.map_append]; simp
theorem condNames_len (l : List PCond) : (condNames l).length = l.length * 2 := by
  induction l with
  | nil => rfl
  | cons c l ih => unfold condNames at *; rw [List.flatMap_cons, List.length_append, ih]; simp; omega
theorem itemNames_len (l : List PItem) : (itemNames l).length = l.length := by unfold itemNames; rw [List.length_map]

end Go.Proofs.YtobgbmfpicmpcaaGreatDoor

/- The program's reader of queries in memory: its tokens left, and whether one did not fit. -/
namespace Go.Proofs.YtobgbmfpicmpcaaGreatDoor
open Go.RowKit

/-- The tokens l lie at an address. -/
def TSeen (G : Nat) (ao : Option Addr) (l : List Tok) (w : World) : Prop :=
  ∀ j, (hj : j < l.length) → ∃ o, ao = some ⟨G, o, none⟩ ∧ w.cell? ⟨G, o + j * 3, none⟩ = some (.int .i64 l[j].kind) ∧ w.cell? ⟨G, o + j * 3 + 1, none⟩ = some (.string l[j].text) ∧ w.cell? ⟨G, o + j * 3 + 2, none⟩ = some (.int .i64 l[j].val)
structure PI (b G : Nat) (st : RS) (w : World) : Prop where
  box : ∃ ao c, Loc w b #[.slice ao st.rest.length c, .bool st.bad] 81 ∧ st.rest.length ≤ c ∧ TSeen G ao st.rest w
  far : G ≠ b ∧ G < w.heap.size
theorem PI.kept {b G : Nat} {st : RS} {w w' : World} {r : Option Nat} (h : PI b G st w) (hg : w.grownBy w' r) (h1 : some b ≠ r) (h2 : some G ≠ r) : PI b G st w' := by
  obtain ⟨ao, c, hb, hc, hs⟩ := h.box
  refine ⟨⟨ao, c, hb.grown hg h1, hc, ?_⟩, ⟨h.far.1, Nat.lt_of_lt_of_le h.far.2 hg.size⟩⟩
  intro j hj
  obtain ⟨o, e, a0, a1, a2⟩ := hs j hj
  have hB := hg.block G h.far.2 h2
  have hc : ∀ x, w'.cell? ⟨G, x, none⟩ = w.cell? ⟨G, x, none⟩ := fun x => by simp [World.cell?, hB]
  exact ⟨o, e, by rw [hc]; exact a0, by rw [hc]; exact a1, by rw [hc]; exact a2⟩
theorem PI.quiet {b G : Nat} {st : RS} {w w' : World} (h : PI b G st w) (hg : w.grownBy w' none) : PI b G st w' := h.kept hg (by simp) (by simp)
theorem TSeen.tail {G g o : Nat} {l : List Tok} {t : Tok} {w : World} (h : TSeen G (some ⟨g, o, none⟩) (t :: l) w) : TSeen G (some ⟨g, o + 3, none⟩) l w := by
  intro j hj
  obtain ⟨o', e, a0, a1, a2⟩ := h (j + 1) (by simpa using hj)
  injection e with e
  injection e with e1 e2
  subst e1; subst e2
  refine ⟨o + 3, rfl, ?_, ?_, ?_⟩
  · rw [show o + 3 + j * 3 = o + (j + 1) * 3 by omega]; simpa using a0
  · rw [show o + 3 + j * 3 = o + (j + 1) * 3 by omega]; simpa using a1
  · rw [show o + 3 + j * 3 = o + (j + 1) * 3 by omega]; simpa using a2

theorem TSeen.set {G b : Nat} {ao : Option Addr} {l : List Tok} {w : World} (h : TSeen G ao l w) (hg : G ≠ b) (j : Nat) (u : Value) : TSeen G ao l (w.setCell ⟨b, j, none⟩ u) := by
  intro k hk
  obtain ⟨o, e, a0, a1, a2⟩ := h k hk
  have hB := Below.heap_setCell w ⟨b, j, none⟩ u G hg
  have hc : ∀ x, (w.setCell ⟨b, j, none⟩ u).cell? ⟨G, x, none⟩ = w.cell? ⟨G, x, none⟩ := fun x => by simp only [World.cell?, hB]
  exact ⟨o, e, by rw [hc]; exact a0, by rw [hc]; exact a1, by rw [hc]; exact a2⟩
/-- One token is taken. -/
theorem PI.adv {b G : Nat} {st : RS} {t : Tok} {r : List Tok} {W : World} {ao : Option Addr} {c : Nat} {v : Value} (h : PI b G st W) (_ : st.rest = t :: r) (hb : Loc W b #[v, .bool st.bad] 81) (hc : r.length ≤ c) (hs : TSeen G ao r W) : PI b G ⟨r, st.bad⟩ (W.setCell ⟨b, 0, none⟩ (.slice ao r.length c)) := by
  have hf := h.far
  exact ⟨⟨ao, c, hb.set 0 _, hc, hs.set hf.1 0 _⟩, ⟨hf.1, by simpa [World.setCell] using hf.2⟩⟩
theorem PI.fails {b G : Nat} {st : RS} {W : World} {v : Value} (h : PI b G st W) (hb : Loc W b #[v, .bool st.bad] 81) : PI b G failP ((W.setCell ⟨b, 0, none⟩ (.slice none 0 0)).setCell ⟨b, 1, none⟩ (.bool true)) :=
  ⟨⟨none, 0, (hb.set 0 _).set 1 _, Nat.le_refl _, fun j hj => by simp [failP] at hj⟩, ⟨h.far.1, by simpa [World.setCell] using h.far.2⟩⟩

set_option maxRecDepth 100000 in
set_option maxHeartbeats 2000000 in
theorem fail_ {b G : Nat} {st : RS} {W : World} (h : PI b G st W) :
    Calls Tryz.prog 160 #[.pointer (some ⟨b, 0, none⟩)] W fun e W' => e = .returned (.tuple #[]) ∧ PI b G failP W' ∧ W.grownBy W' (some b) := by
  obtain ⟨ao, c, hb, hc, hs⟩ := h.box
  have c0 : W.cell? ⟨b, 0, none⟩ = some (.slice ao st.rest.length c) := (hb.cell 0).trans rfl
  have c1 : W.cell? ⟨b, 1, none⟩ = some (.bool st.bad) := (hb.cell 1).trans rfl
  have f0 : W.frozen? ⟨b, 0, none⟩ = false := hb.free 0
  have f1 : W.frozen? ⟨b, 1, none⟩ = false := hb.free 1
  have HB := Lib.hid hb
  have HH := Lib.hid h
  clear hs h hc hb
  go_enter Tryz.func160, Tryz.ntmps160
  go_wp2_with fail
  go_end0
  exact ⟨rfl, HH.out.fails HB.out, grown_trans (grown_set _ _ _ _) (grown_set _ _ _ _)⟩

set_option maxRecDepth 100000 in
set_option maxHeartbeats 2000000 in
theorem acceptYes {b G : Nat} {st : RS} {s : ByteArray} {W : World} (h : PI b G st W) (hp : peekP s st = true) :
    Calls Tryz.prog 94 #[.pointer (some ⟨b, 0, none⟩), .string s] W fun e W' => e = .returned (.bool true) ∧ PI b G (acceptP s st) W' ∧ W.grownBy W' (some b) := by
  obtain ⟨ao, c, hb, hc, hs⟩ := h.box
  cases hr : st.rest with
  | nil => unfold peekP at hp; rw [hr] at hp; cases hp
  | cons t r =>
    have hte : (t.text.toList == s.toList) = true := by unfold peekP at hp; rw [hr] at hp; exact hp
    have HA : Hid (acceptP s st = ⟨r, st.bad⟩) := by show _ = _; unfold acceptP; rw [if_pos hp, hr]; rfl
    rw [hr] at hs hc hb
    obtain ⟨o, rfl, a0, a1, a2⟩ := hs 0 (by simp)
    have k1 : W.cell? ⟨G, o + 1, none⟩ = some (.string t.text) := by simpa using a1
    have c0 : W.cell? ⟨b, 0, none⟩ = some (.slice (some ⟨G, o, none⟩) (r.length + 1) c) := (hb.cell 0).trans rfl
    have f0 : W.frozen? ⟨b, 0, none⟩ = false := hb.free 0
    have hc' : r.length + 1 ≤ c := hc
    have HB := Lib.hid hb
    have HS := Lib.hid hs
    have HH := Lib.hid h
    have HR := Lib.hid hr
    clear hs h hc hb a0 a1 a2 hp hr
    by_cases hc1 : c = 1
    · have hr0 : r = [] := List.length_eq_zero_iff.1 (by omega)
      subst hc1
      have HR0 := Lib.hid hr0
      have hrl : r.length = 0 := by rw [hr0]; rfl
      clear hr0
      go_enter Tryz.func94, Tryz.ntmps94
      go_wp2_with fail
      refine bodyPost_ret (v := .bool true) ?_ rfl ⟨rfl, ?_, grown_set _ _ _ _⟩
      · simp [results, Tryz.results94, go_sem]
      · rw [HA.out]
        have h := HH.out.adv HR.out HB.out (ao := some ⟨G, o, none⟩) (c := 0) (by omega) (by intro j hj; omega)
        rw [hrl] at h
        exact h
    · go_enter Tryz.func94, Tryz.ntmps94
      go_wp2_with fail
      refine bodyPost_ret (v := .bool true) ?_ rfl ⟨rfl, ?_, grown_set _ _ _ _⟩
      · simp [results, Tryz.results94, go_sem]
      · rw [HA.out]
        exact HH.out.adv HR.out HB.out (by omega) HS.out.tail

set_option maxRecDepth 100000 in
set_option maxHeartbeats 2000000 in
theorem acceptNo {b G : Nat} {st : RS} {s : ByteArray} {W : World} (h : PI b G st W) (hp : peekP s st = false) :
    Calls Tryz.prog 94 #[.pointer (some ⟨b, 0, none⟩), .string s] W fun e W' => e = .returned (.bool false) ∧ PI b G (acceptP s st) W' ∧ W.grownBy W' (some b) := by
  obtain ⟨ao, c, hb, hc, hs⟩ := h.box
  have HA : Hid (acceptP s st = st) := by show _ = _; unfold acceptP; rw [hp]; rfl
  have HH := Lib.hid h
  cases hr : st.rest with
  | nil =>
    rw [hr] at hb
    have c0 : W.cell? ⟨b, 0, none⟩ = some (.slice ao 0 c) := (hb.cell 0).trans rfl
    clear hs h hc hb hp hr
    go_enter Tryz.func94, Tryz.ntmps94
    go_wp2_with fail
    refine bodyPost_ret (v := .bool false) ?_ rfl ⟨rfl, by rw [HA.out]; exact HH.out, grown_refl _ _⟩
    simp [results, Tryz.results94, go_sem]
  | cons t r =>
    have hte : (t.text.toList == s.toList) = false := by unfold peekP at hp; rw [hr] at hp; exact hp
    rw [hr] at hs hc hb
    obtain ⟨o, rfl, a0, a1, a2⟩ := hs 0 (by simp)
    have k1 : W.cell? ⟨G, o + 1, none⟩ = some (.string t.text) := by simpa using a1
    have c0 : W.cell? ⟨b, 0, none⟩ = some (.slice (some ⟨G, o, none⟩) (r.length + 1) c) := (hb.cell 0).trans rfl
    clear hs h hc hb a0 a1 a2 hp hr
    go_enter Tryz.func94, Tryz.ntmps94
    go_wp2_with fail
    refine bodyPost_ret (v := .bool false) ?_ rfl ⟨rfl, by rw [HA.out]; exact HH.out, grown_refl _ _⟩
    simp [results, Tryz.results94, go_sem]
theorem accept_ {b G : Nat} {st : RS} {W : World} (h : PI b G st W) (s : ByteArray) (m : Bool) (hm : peekP s st = m) :
    Calls Tryz.prog 94 #[.pointer (some ⟨b, 0, none⟩), .string s] W fun e W' => e = .returned (.bool m) ∧ PI b G (acceptP s st) W' ∧ W.grownBy W' (some b) := by
  cases m with
  | true => exact acceptYes h hm
  | false => exact acceptNo h hm

set_option maxRecDepth 100000 in
set_option maxHeartbeats 2000000 in
theorem expect_ {b G : Nat} {st : RS} {W : World} (h : PI b G st W) (s : ByteArray) :
    Calls Tryz.prog 97 #[.pointer (some ⟨b, 0, none⟩), .string s] W fun e W' => e = .returned (.tuple #[]) ∧ PI b G (expectP s st) W' ∧ W.grownBy W' (some b) := by
  have HH := Lib.hid h
  clear h
  cases hm : peekP s st with
  | true =>
    have HM := Lib.hid hm
    have HE : Hid (expectP s st = acceptP s st) := by show _ = _; unfold expectP; rw [if_pos hm]
    clear hm
    go_enter Tryz.func97, Tryz.ntmps97
    go_wp2_with fail
    refine (accept_ HH.out s true HM.out).mono ?_
    rintro e W1 ⟨rfl, h1, g1⟩
    have H1 := Lib.hid h1
    have G1 := Lib.hid g1
    clear h1 g1
    go_wp2_with fail
    go_end0
    exact ⟨rfl, by rw [HE.out]; exact H1.out, G1.out⟩
  | false =>
    have HM := Lib.hid hm
    have HE : Hid (expectP s st = failP) := by show _ = _; unfold expectP; rw [hm]; rfl
    clear hm
    go_enter Tryz.func97, Tryz.ntmps97
    go_wp2_with fail
    refine (accept_ HH.out s false HM.out).mono ?_
    rintro e W1 ⟨rfl, h1, g1⟩
    have H1 := Lib.hid h1
    have G1 := Lib.hid g1
    clear h1 g1
    go_wp2_with fail
    refine (fail_ H1.out).mono ?_
    rintro e W2 ⟨rfl, h2, g2⟩
    have H2 := Lib.hid h2
    have G2 := Lib.hid g2
    clear h2 g2
    go_wp2_with fail
    go_end0
    exact ⟨rfl, by rw [HE.out]; exact H2.out, grown_trans G1.out G2.out⟩

end Go.Proofs.YtobgbmfpicmpcaaGreatDoor

/- The program's words: names, titles and keywords. -/
namespace Go.Proofs.YtobgbmfpicmpcaaGreatDoor
open Go.RowKit

theorem empty_no {s : ByteArray} (h : 1 ≤ s.size) : s.toList.isEmpty = false := by
  rw [ByteArray.toList_eq]
  have : s.data.toList.length = s.size := len_toList s
  cases hd : s.data.toList with
  | nil => rw [hd] at this; simp at this; omega
  | cons a l => rfl
theorem empty_yes {s : ByteArray} (h : ¬ 1 ≤ s.size) : s.toList.isEmpty = true := by
  rw [ByteArray.toList_eq]
  have : s.data.toList.length = s.size := len_toList s
  cases hd : s.data.toList with
  | nil => rfl
  | cons a l => rw [hd] at this; simp at this; omega

set_option maxRecDepth 100000 in
set_option maxHeartbeats 2000000 in
theorem isWordP (s : ByteArray) (w : World) : Calls Tryz.prog 147 #[.string s] w fun e w' => e = .returned (.bool (isWord s)) ∧ w' = w := by
  by_cases h1 : 1 ≤ s.size
  · have hem := empty_no h1
    by_cases h8 : s.size ≤ 8
    · have h0 : 0 < s.size := h1
      have h8i : ¬ (8 : Int) < (s.size : Int) := by omega
      cases hl : letB ((s[0]'h0).toNat : Int) with
      | true =>
        have HW : Hid (isWord s = decide (∀ j, j < s.size → alnB (bt s j) = true)) := isWord_of h1 h8 (by rw [← bt_in h0]; exact hl)
        go_enter Tryz.func147, Tryz.ntmps147
        go_wp2_with (first | (go_at_call 204; refine (isLetter _ _).mono ?_; rintro e w' ⟨rfl, rfl⟩) | (go_at_call 205; refine (isDigit _ _).mono ?_; rintro e w' ⟨rfl, rfl⟩))
        clear hl
        go_loop [19] (fun i => ∃ k : Nat, k ≤ s.size ∧ i = .int .i64 k ∧ ∀ j, j < k → alnB (bt s j) = true) (fun i => s.size - (intOf i).toNat)
        case atStart => exact ⟨0, by omega, rfl, fun j hj => absurd hj (by omega)⟩
        case round =>
          obtain ⟨k, hk, rfl, hall⟩ := hrel
          have HA := Lib.hid hall
          clear hall
          by_cases hlt : k < s.size
          · cases hl : letB ((s[k]'hlt).toNat : Int) with
            | true =>
              have HK1 : Hid (∀ j, j < k + 1 → alnB (bt s j) = true) := by
                intro j hj
                by_cases e : j = k
                · subst e; rw [← bt_in hlt]; unfold alnB; rw [hl]; rfl
                · exact HA.out j (by omega)
              go_wp2_with (first | (go_at_call 204; refine (isLetter _ _).mono ?_; rintro e w' ⟨rfl, rfl⟩) | (go_at_call 205; refine (isDigit _ _).mono ?_; rintro e w' ⟨rfl, rfl⟩))
              go_round
              case rel => exact ⟨k + 1, by omega, by go_num, HK1.out⟩
              case measure => simp [intOf]; omega
            | false =>
              cases hd : digB ((s[k]'hlt).toNat : Int) with
              | true =>
                have HK1 : Hid (∀ j, j < k + 1 → alnB (bt s j) = true) := by
                  intro j hj
                  by_cases e : j = k
                  · subst e; rw [← bt_in hlt]; unfold alnB; rw [hl, hd]; rfl
                  · exact HA.out j (by omega)
                go_wp2_with (first | (go_at_call 204; refine (isLetter _ _).mono ?_; rintro e w' ⟨rfl, rfl⟩) | (go_at_call 205; refine (isDigit _ _).mono ?_; rintro e w' ⟨rfl, rfl⟩))
                go_round
                case rel => exact ⟨k + 1, by omega, by go_num, HK1.out⟩
                case measure => simp [intOf]; omega
              | false =>
                have HF : Hid (isWord s = false) := by
                  show _ = _
                  rw [HW.out]
                  apply decide_eq_false
                  intro hall
                  have := hall k hlt
                  rw [← bt_in hlt] at this
                  unfold alnB at this
                  rw [hl, hd] at this
                  cases this
                go_wp2_with (first | (go_at_call 204; refine (isLetter _ _).mono ?_; rintro e w' ⟨rfl, rfl⟩) | (go_at_call 205; refine (isDigit _ _).mono ?_; rintro e w' ⟨rfl, rfl⟩))
                go_ret
                exact ⟨ret_bool HF.out.symm, rfl⟩
          · have HF : Hid (isWord s = true) := by
              show _ = _
              rw [HW.out]
              apply decide_eq_true
              intro j hj
              exact HA.out j (by omega)
            go_wp2
            go_ret
            exact ⟨ret_bool HF.out.symm, rfl⟩
      | false =>
        have HF : Hid (isWord s = false) := isWord_no (by rintro ⟨_, _, h⟩; rw [← bt_in h0, hl] at h; cases h)
        go_enter Tryz.func147, Tryz.ntmps147
        go_wp2_with (first | (go_at_call 204; refine (isLetter _ _).mono ?_; rintro e w' ⟨rfl, rfl⟩) | (go_at_call 205; refine (isDigit _ _).mono ?_; rintro e w' ⟨rfl, rfl⟩))
        go_ret
        exact ⟨ret_bool HF.out.symm, rfl⟩
    · have HF : Hid (isWord s = false) := isWord_no (by omega)
      have h8i : (8 : Int) < (s.size : Int) := by omega
      go_enter Tryz.func147, Tryz.ntmps147
      go_wp2_with (first | (go_at_call 204; refine (isLetter _ _).mono ?_; rintro e w' ⟨rfl, rfl⟩) | (go_at_call 205; refine (isDigit _ _).mono ?_; rintro e w' ⟨rfl, rfl⟩))
      go_ret
      exact ⟨ret_bool HF.out.symm, rfl⟩
  · have HF : Hid (isWord s = false) := isWord_no (by omega)
    have hem := empty_yes h1
    go_enter Tryz.func147, Tryz.ntmps147
    go_wp2_with (first | (go_at_call 204; refine (isLetter _ _).mono ?_; rintro e w' ⟨rfl, rfl⟩) | (go_at_call 205; refine (isDigit _ _).mono ?_; rintro e w' ⟨rfl, rfl⟩))
    go_ret
    exact ⟨ret_bool HF.out.symm, rfl⟩

end Go.Proofs.YtobgbmfpicmpcaaGreatDoor

