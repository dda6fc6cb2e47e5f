/- The reference's reader: what stands behind RETURN. -/
import Derived.Lib.QuietBelow
import Derived.Deep.QuietTactic
import Derived.BigQuiet
import Derived.WalkSmall
import Derived.Laws.Strings
import Derived.Lib.Hide
import Derived.Deep.MidRow
import Derived.Test.YtobgbmfpicmpcaaGreatDoorC06
namespace Go.Proofs.YtobgbmfpicmpcaaGreatDoor
open Go.RowKit

theorem itemLoop_bad {n : Nat} {out : List PItem} {st : RS} (h : st.bad = true) : itemLoop n out st = (out, st) := by
  cases n with
  | zero => rfl
  | succ n => simp only [itemLoop]; rw [h]; rfl
theorem itemLoop_more {n : Nat} {out : List PItem} {l : PItem} {st s2 : RS} (h : st.bad = false) (hp : itemR st = (l, s2)) (hb : s2.bad = false) (hc : peekR mComma s2 = true) : itemLoop (n + 1) out st = itemLoop n (out ++ [l]) (hasR mComma s2) := by
  simp only [itemLoop]; rw [h, hp]; simp only [hb, hc]; rfl
theorem itemLoop_last {n : Nat} {out : List PItem} {l : PItem} {st s2 : RS} (h : st.bad = false) (hp : itemR st = (l, s2)) (hc : s2.bad = true ∨ peekR mComma s2 = false) : itemLoop (n + 1) out st = (out ++ [l], s2) := by
  simp only [itemLoop]; rw [h, hp]
  rcases hc with hc | hc
  · simp [hc]
  · simp [hc]
theorem itemR_len (st : RS) : (itemR st).2.rest.length ≤ st.rest.length := by
  unfold itemR
  have h1 := nameR_len st
  split
  · exact hasR_len _ _
  · simp only
    split
    · have h2 := nameR_len (hasR mDot (nameR st).2)
      have h3 := hasR_len mDot (nameR st).2
      simp only
      omega
    · exact h1

set_option maxRecDepth 100000 in
set_option maxHeartbeats 9000000 in
theorem items {b x : Nat} {lv vs vc : Value} {sp : List PSpot} {cd : List PCond} {ts : List Tok} {st : RS} {W0 W : World} (h : QAt W0 b lv ts st x (qC { query0 with kind := 1 } vs vc (.slice none 0 0) (.slice none 0 0)) ⟨vs, sp, vc, cd, (.slice none 0 0), [], (.slice none 0 0), []⟩ W) :
    Calls Tryz.prog 90 #[.pointer (some ⟨b, 0, none⟩), .pointer (some ⟨x, 0, none⟩)] W fun e W' => e = .returned (.tuple #[]) ∧ ∃ vi, QAt W0 b lv ts (itemsR st).2 x (qC { query0 with kind := 1, order := (itemsR st).1.order, down := (itemsR st).1.down, skip := (itemsR st).1.skip, limit := (itemsR st).1.limit } vs vc vi (.slice none 0 0)) ⟨vs, sp, vc, cd, vi, (itemsR st).1.items, (.slice none 0 0), []⟩ W' := by
  obtain ⟨i1, hj, hy0, hy1, hy2⟩ := info_parts Tryz.infoItem
  have HI := Lib.hid h
  have hlen := h.ri.len
  have hrl : st.rest.length ≤ ts.length := by obtain ⟨_, _, _, _, _, _, _, e, _⟩ := h.ri.seen; exact e
  clear h
  go_enter Tryz.func90, Tryz.ntmps90
  go_upto_block 0 with fail
  go_cut [4, 5, 6, 7] (fun _ _ _ _ w => ∃ vi it s', QAt W0 b lv ts s' x (qC { query0 with kind := 1 } vs vc vi (.slice none 0 0)) ⟨vs, sp, vc, cd, vi, it, (.slice none 0 0), []⟩ w ∧ itemLoop (st.rest.length + 1) [] st = (it, s') ∧ it.length + s'.rest.length ≤ 2002)
  case first =>
    go_wp2_with fail
    go_loopg [4] (st.rest.length + 1) (fun n more w => ∃ vi it s' m, more = .bool m ∧ QAt W0 b lv ts s' x (qC { query0 with kind := 1 } vs vc vi (.slice none 0 0)) ⟨vs, sp, vc, cd, vi, it, (.slice none 0 0), []⟩ w ∧ (m = true → itemLoop (st.rest.length + 1) [] st = itemLoop n it s' ∧ s'.rest.length + 1 ≤ n ∧ it.length + s'.rest.length ≤ 2001) ∧ (m = false → itemLoop (st.rest.length + 1) [] st = (it, s') ∧ it.length + s'.rest.length ≤ 2002))
    case atStart => exact ⟨_, [], _, true, rfl, HI.out, fun _ => ⟨rfl, by omega, by simp; omega⟩, fun h => by cases h⟩
    case round =>
      obtain ⟨vi, it, s', m, rfl, hq, hT, hF⟩ := hrel
      have HQ := Lib.hid hq
      have q2 : wr.cell? ⟨b, 2, none⟩ = some (.bool s'.bad) := (hq.ri.box.cell 2).trans rfl
      clear hq HI
      cases m with
      | false =>
        obtain ⟨e1, e2⟩ := hF rfl
        have E1 := Lib.hid e1
        clear e1 hT hF
        go_wp2_with fail
        go_meet
        case rel => exact ⟨vi, it, s', HQ.out, E1.out, e2⟩
      | true =>
        obtain ⟨e1, e2, e3⟩ := hT rfl
        have E1 := Lib.hid e1
        clear e1 hT hF
        cases hb : s'.bad with
        | true =>
          have HB := Lib.hid hb
          rw [hb] at q2
          clear hb
          go_wp2_with fail
          go_meet
          case rel => exact ⟨vi, it, s', HQ.out, by rw [E1.out]; exact itemLoop_bad HB.out, by omega⟩
        | false =>
          have HB := Lib.hid hb
          rw [hb] at q2
          clear hb
          obtain ⟨n, hn⟩ : ∃ n, gk = n + 1 := ⟨gk - 1, by omega⟩
          subst hn
          go_upto_block 1 with fail
          go_cut [5, 6, 7] (fun _ _ _ w => ∃ v i s2, QAt W0 b lv ts s2 x (qC { query0 with kind := 1 } vs vc v (.slice none 0 0)) ⟨vs, sp, vc, cd, v, (it ++ [i]), (.slice none 0 0), []⟩ w ∧ itemR s' = (i, s2))
          case first =>
            clear q2
            cases hk : peekR kCOUNT s' with
            | true =>
              have HK := Lib.hid hk
              obtain ⟨s2, hs2⟩ : ∃ s2, s2 = hasR kCOUNT s' := ⟨_, rfl⟩
              have HIT : Hid (itemR s' = (⟨⟨#[]⟩, ⟨#[]⟩⟩, s2)) := by show _ = _; unfold itemR; rw [hk, hs2]; rfl
              clear hk
              go_wp2_with fail
              refine (has HQ.out.ri kCOUNT true HK.out).mono ?_
              rintro e W3 ⟨rfl, h3, g3⟩
              rw [← hs2] at h3
              clear hs2
              have HY := Lib.hid ((HQ.out.call h3 g3).more #[.string ⟨#[]⟩, .string ⟨#[]⟩] 89)
              clear h3 g3
              go_upto_region 10 with fail
              obtain ⟨Y, hY⟩ : ∃ Y, Y = W3.heap.size := ⟨_, rfl⟩
              rw [← hY] at HY ⊢
              clear hY
              generalize W3.alloc (.cells #[.string ⟨#[]⟩, .string ⟨#[]⟩] 89) = W4 at HY ⊢
              have y0 : W4.cell? ⟨Y, 0, none⟩ = some (.string ⟨#[]⟩) := (HY.out.ly.cell 0).trans rfl
              have y1 : W4.cell? ⟨Y, 1, none⟩ = some (.string ⟨#[]⟩) := (HY.out.ly.cell 1).trans rfl
              have x3 : W4.cell? ⟨x, 3, none⟩ = some vi := (HY.out.q.lq.cell 3).trans rfl
              have fx3 : W4.frozen? ⟨x, 3, none⟩ = false := HY.out.q.lq.free 3
              have HD : Hid (QAt W0 b lv ts s2 x (qC { query0 with kind := 1 } vs vc vi (.slice none 0 0)) ⟨vs, sp, vc, cd, vi, it, (.slice none 0 0), []⟩ ((W4.alloc (.cells #[.string ⟨#[]⟩, .string ⟨#[]⟩] 89)).drew)) := (HY.out.q.alloc _).drew 1
              have xa3 : (W4.alloc (.cells #[.string ⟨#[]⟩, .string ⟨#[]⟩] 89)).cell? ⟨x, 3, none⟩ = some vi := (HD.out.lq.cell 3).trans rfl
              clear HY
              go_region_law (refine step_append_lies _ rfl _ _ 24 rfl W0.heap.size 89 i1 (.agg #[.string ⟨#[]⟩, .string ⟨#[]⟩]) 2 32 Tryz.underlying24 hj hy0 hy1 hy2 rfl (by decide) vi _ _ (by simp [Act.eval]) HD.out.rt ⟨W4.heap.size, 0, none⟩ 1 1 [.string ⟨#[]⟩, .string ⟨#[]⟩] (by simp [Act.eval]) rfl (World.news_of_block (heap_alloc_new W4 _)) two_one (by omega) (by unfold maxLen; simp only; omega) (by simp only; omega) HD.out.grown.size _ rfl ?_; intro g2 cap2 w5 hown hgrow _ _; have H5a := HD.out.items (l := [⟨⟨#[]⟩, ⟨#[]⟩⟩]) hgrow (by rw [itemCells_snoc, List.length_append]; exact hown); have c5 : w5.cell? ⟨x, 3, none⟩ = some vi := (H5a.lq.cell 3).trans rfl; have f5 : w5.frozen? ⟨x, 3, none⟩ = false := H5a.lq.free 3; have H5 := Lib.hid (H5a.set 3 (.slice (some ⟨g2, 0, none⟩) (it.length + 1) cap2)); clear H5a hown hgrow)
              all_goals
                go_wp2_with fail
                go_meet
                case rel => exact ⟨_, ⟨⟨#[]⟩, ⟨#[]⟩⟩, s2, H5.out, HIT.out⟩
            | false =>
              have HK := Lib.hid hk
              obtain ⟨nm, s3, hnm⟩ : ∃ nm s3, nameR s' = (nm, s3) := ⟨_, _, rfl⟩
              have HNM := Lib.hid hnm
              clear hnm hk
              go_wp2_with fail
              refine (has HQ.out.ri kCOUNT false HK.out).mono ?_
              rintro e W3 ⟨rfl, h3, g3⟩
              rw [hasR_not HK.out] at h3
              have H3 := Lib.hid ((HQ.out.call h3 g3).more #[.string ⟨#[]⟩, .string ⟨#[]⟩] 89)
              clear h3 g3
              go_wp2_with fail
              obtain ⟨Y, hY⟩ : ∃ Y, Y = W3.heap.size := ⟨_, rfl⟩
              rw [← hY] at H3 ⊢
              clear hY
              generalize W3.alloc (.cells #[.string ⟨#[]⟩, .string ⟨#[]⟩] 89) = W4 at H3 ⊢
              refine (nameIs H3.out.q.ri HNM.out).mono ?_
              rintro e W5 ⟨rfl, h5, g5⟩
              have H5a := H3.out.call h5 g5
              have c0 : W5.cell? ⟨Y, 0, none⟩ = some (.string ⟨#[]⟩) := (H5a.ly.cell 0).trans rfl
              have f0 : W5.frozen? ⟨Y, 0, none⟩ = false := H5a.ly.free 0
              have H6 := Lib.hid (H5a.setY 0 (.string nm))
              clear h5 g5 H5a
              go_upto_region 7 with fail
              generalize W5.setCell ⟨Y, 0, none⟩ (.string nm) = W6 at H6 ⊢
              clear c0 f0 H3 HQ
              have q6 : W6.cell? ⟨b, 2, none⟩ = some (.bool s3.bad) := (H6.out.q.ri.box.cell 2).trans rfl
              cases hb3 : s3.bad with
              | true =>
                obtain ⟨s2, hs2⟩ : ∃ s2, s2 = s3 := ⟨_, rfl⟩
                have HIT : Hid (itemR s' = (⟨nm, ⟨#[]⟩⟩, s2)) := by show _ = _; unfold itemR; rw [HK.out]; simp only [HNM.out, hb3]; rw [hs2]; rfl
                rw [hb3] at q6
                have HY : Hid (QY W0 b lv ts s2 x (qC { query0 with kind := 1 } vs vc vi (.slice none 0 0)) ⟨vs, sp, vc, cd, vi, it, (.slice none 0 0), []⟩ Y #[.string nm, .string ⟨#[]⟩] 89 W6) := by rw [hs2]; exact H6.out
                clear hb3 hs2 H6
                go_upto_region 10 with fail
                clear q6
                have y0 : W6.cell? ⟨Y, 0, none⟩ = some (.string nm) := (HY.out.ly.cell 0).trans rfl
                have y1 : W6.cell? ⟨Y, 1, none⟩ = some (.string ⟨#[]⟩) := (HY.out.ly.cell 1).trans rfl
                have x3 : W6.cell? ⟨x, 3, none⟩ = some vi := (HY.out.q.lq.cell 3).trans rfl
                have fx3 : W6.frozen? ⟨x, 3, none⟩ = false := HY.out.q.lq.free 3
                have HD : Hid (QAt W0 b lv ts s2 x (qC { query0 with kind := 1 } vs vc vi (.slice none 0 0)) ⟨vs, sp, vc, cd, vi, it, (.slice none 0 0), []⟩ ((W6.alloc (.cells #[.string nm, .string ⟨#[]⟩] 89)).drew)) := (HY.out.q.alloc _).drew 1
                have xa3 : (W6.alloc (.cells #[.string nm, .string ⟨#[]⟩] 89)).cell? ⟨x, 3, none⟩ = some vi := (HD.out.lq.cell 3).trans rfl
                clear HY
                go_region_law (refine step_append_lies _ rfl _ _ 24 rfl W0.heap.size 89 i1 (.agg #[.string ⟨#[]⟩, .string ⟨#[]⟩]) 2 32 Tryz.underlying24 hj hy0 hy1 hy2 rfl (by decide) vi _ _ (by simp [Act.eval]) HD.out.rt ⟨W6.heap.size, 0, none⟩ 1 1 [.string nm, .string ⟨#[]⟩] (by simp [Act.eval]) rfl (World.news_of_block (heap_alloc_new W6 _)) two_one (by omega) (by unfold maxLen; simp only; omega) (by simp only; omega) HD.out.grown.size _ rfl ?_; intro g2 cap2 w5 hown hgrow _ _; have H5a := HD.out.items (l := [⟨nm, ⟨#[]⟩⟩]) hgrow (by rw [itemCells_snoc, List.length_append]; exact hown); have c5 : w5.cell? ⟨x, 3, none⟩ = some vi := (H5a.lq.cell 3).trans rfl; have f5 : w5.frozen? ⟨x, 3, none⟩ = false := H5a.lq.free 3; have H5 := Lib.hid (H5a.set 3 (.slice (some ⟨g2, 0, none⟩) (it.length + 1) cap2)); clear H5a hown hgrow)
                all_goals
                  go_wp2_with fail
                  go_meet
                  case rel => exact ⟨_, ⟨nm, ⟨#[]⟩⟩, s2, H5.out, HIT.out⟩
              | false =>
                rw [hb3] at q6
                cases hd : peekR mDot s3 with
                | false =>
                  have HDT := Lib.hid hd
                  obtain ⟨s2, hs2⟩ : ∃ s2, s2 = s3 := ⟨_, rfl⟩
                  have HIT : Hid (itemR s' = (⟨nm, ⟨#[]⟩⟩, s2)) := by show _ = _; unfold itemR; rw [HK.out]; simp only [HNM.out, hb3, hd]; rw [hs2]; rfl
                  clear hb3 hd
                  go_wp2_with fail
                  refine (has H6.out.q.ri mDot false HDT.out).mono ?_
                  rintro e W7 ⟨rfl, h7, g7⟩
                  rw [hasR_not HDT.out, ← hs2] at h7
                  have HY : Hid (QY W0 b lv ts s2 x (qC { query0 with kind := 1 } vs vc vi (.slice none 0 0)) ⟨vs, sp, vc, cd, vi, it, (.slice none 0 0), []⟩ Y #[.string nm, .string ⟨#[]⟩] 89 W7) := H6.out.call h7 g7
                  clear h7 g7 hs2 H6 q6
                  go_upto_region 10 with fail
                  have y0 : W7.cell? ⟨Y, 0, none⟩ = some (.string nm) := (HY.out.ly.cell 0).trans rfl
                  have y1 : W7.cell? ⟨Y, 1, none⟩ = some (.string ⟨#[]⟩) := (HY.out.ly.cell 1).trans rfl
                  have x3 : W7.cell? ⟨x, 3, none⟩ = some vi := (HY.out.q.lq.cell 3).trans rfl
                  have fx3 : W7.frozen? ⟨x, 3, none⟩ = false := HY.out.q.lq.free 3
                  have HD : Hid (QAt W0 b lv ts s2 x (qC { query0 with kind := 1 } vs vc vi (.slice none 0 0)) ⟨vs, sp, vc, cd, vi, it, (.slice none 0 0), []⟩ ((W7.alloc (.cells #[.string nm, .string ⟨#[]⟩] 89)).drew)) := (HY.out.q.alloc _).drew 1
                  have xa3 : (W7.alloc (.cells #[.string nm, .string ⟨#[]⟩] 89)).cell? ⟨x, 3, none⟩ = some vi := (HD.out.lq.cell 3).trans rfl
                  clear HY
                  go_region_law (refine step_append_lies _ rfl _ _ 24 rfl W0.heap.size 89 i1 (.agg #[.string ⟨#[]⟩, .string ⟨#[]⟩]) 2 32 Tryz.underlying24 hj hy0 hy1 hy2 rfl (by decide) vi _ _ (by simp [Act.eval]) HD.out.rt ⟨W7.heap.size, 0, none⟩ 1 1 [.string nm, .string ⟨#[]⟩] (by simp [Act.eval]) rfl (World.news_of_block (heap_alloc_new W7 _)) two_one (by omega) (by unfold maxLen; simp only; omega) (by simp only; omega) HD.out.grown.size _ rfl ?_; intro g2 cap2 w5 hown hgrow _ _; have H5a := HD.out.items (l := [⟨nm, ⟨#[]⟩⟩]) hgrow (by rw [itemCells_snoc, List.length_append]; exact hown); have c5 : w5.cell? ⟨x, 3, none⟩ = some vi := (H5a.lq.cell 3).trans rfl; have f5 : w5.frozen? ⟨x, 3, none⟩ = false := H5a.lq.free 3; have H5 := Lib.hid (H5a.set 3 (.slice (some ⟨g2, 0, none⟩) (it.length + 1) cap2)); clear H5a hown hgrow)
                  all_goals
                    go_wp2_with fail
                    go_meet
                    case rel => exact ⟨_, ⟨nm, ⟨#[]⟩⟩, s2, H5.out, HIT.out⟩
                | true =>
                  have HDT := Lib.hid hd
                  obtain ⟨ky, s2, hky⟩ : ∃ ky s2, nameR (hasR mDot s3) = (ky, s2) := ⟨_, _, rfl⟩
                  have HKY := Lib.hid hky
                  have HIT : Hid (itemR s' = (⟨nm, ky⟩, s2)) := by show _ = _; unfold itemR; rw [HK.out]; simp only [HNM.out, hb3, hd, hky]; rfl
                  clear hb3 hd hky
                  go_wp2_with fail
                  refine (has H6.out.q.ri mDot true HDT.out).mono ?_
                  rintro e W7 ⟨rfl, h7, g7⟩
                  have H7 := Lib.hid (H6.out.call h7 g7)
                  clear h7 g7 H6 q6
                  go_wp2_with fail
                  refine (nameIs H7.out.q.ri HKY.out).mono ?_
                  rintro e W8 ⟨rfl, h8, g8⟩
                  have H8a := H7.out.call h8 g8
                  have c1 : W8.cell? ⟨Y, 1, none⟩ = some (.string ⟨#[]⟩) := (H8a.ly.cell 1).trans rfl
                  have f1 : W8.frozen? ⟨Y, 1, none⟩ = false := H8a.ly.free 1
                  have H9 := Lib.hid (H8a.setY 1 (.string ky))
                  clear h8 g8 H8a
                  go_upto_region 10 with fail
                  generalize W8.setCell ⟨Y, 1, none⟩ (.string ky) = W9 at H9 ⊢
                  clear c1 f1 H7
                  have HY : Hid (QY W0 b lv ts s2 x (qC { query0 with kind := 1 } vs vc vi (.slice none 0 0)) ⟨vs, sp, vc, cd, vi, it, (.slice none 0 0), []⟩ Y #[.string nm, .string ky] 89 W9) := H9.out
                  clear H9
                  have y0 : W9.cell? ⟨Y, 0, none⟩ = some (.string nm) := (HY.out.ly.cell 0).trans rfl
                  have y1 : W9.cell? ⟨Y, 1, none⟩ = some (.string ky) := (HY.out.ly.cell 1).trans rfl
                  have x3 : W9.cell? ⟨x, 3, none⟩ = some vi := (HY.out.q.lq.cell 3).trans rfl
                  have fx3 : W9.frozen? ⟨x, 3, none⟩ = false := HY.out.q.lq.free 3
                  have HD : Hid (QAt W0 b lv ts s2 x (qC { query0 with kind := 1 } vs vc vi (.slice none 0 0)) ⟨vs, sp, vc, cd, vi, it, (.slice none 0 0), []⟩ ((W9.alloc (.cells #[.string nm, .string ky] 89)).drew)) := (HY.out.q.alloc _).drew 1
                  have xa3 : (W9.alloc (.cells #[.string nm, .string ky] 89)).cell? ⟨x, 3, none⟩ = some vi := (HD.out.lq.cell 3).trans rfl
                  clear HY
                  go_region_law (refine step_append_lies _ rfl _ _ 24 rfl W0.heap.size 89 i1 (.agg #[.string ⟨#[]⟩, .string ⟨#[]⟩]) 2 32 Tryz.underlying24 hj hy0 hy1 hy2 rfl (by decide) vi _ _ (by simp [Act.eval]) HD.out.rt ⟨W9.heap.size, 0, none⟩ 1 1 [.string nm, .string ky] (by simp [Act.eval]) rfl (World.news_of_block (heap_alloc_new W9 _)) two_one (by omega) (by unfold maxLen; simp only; omega) (by simp only; omega) HD.out.grown.size _ rfl ?_; intro g2 cap2 w5 hown hgrow _ _; have H5a := HD.out.items (l := [⟨nm, ky⟩]) hgrow (by rw [itemCells_snoc, List.length_append]; exact hown); have c5 : w5.cell? ⟨x, 3, none⟩ = some vi := (H5a.lq.cell 3).trans rfl; have f5 : w5.frozen? ⟨x, 3, none⟩ = false := H5a.lq.free 3; have H5 := Lib.hid (H5a.set 3 (.slice (some ⟨g2, 0, none⟩) (it.length + 1) cap2)); clear H5a hown hgrow)
                  all_goals
                    go_wp2_with fail
                    go_meet
                    case rel => exact ⟨_, ⟨nm, ky⟩, s2, H5.out, HIT.out⟩
          case rest =>
            obtain ⟨v, i, s2, hq2, hit⟩ := hcut
            have H6 := Lib.hid hq2
            have HIT := Lib.hid hit
            have q6 : wc.cell? ⟨b, 2, none⟩ = some (.bool s2.bad) := (hq2.ri.box.cell 2).trans rfl
            have hil := itemR_len s'
            rw [hit] at hil
            clear hq2 hit HQ q2
            have hol : (it ++ [i]).length = it.length + 1 := by simp
            cases hb2 : s2.bad with
            | true =>
              have HB2 := Lib.hid hb2
              rw [hb2] at q6
              clear hb2
              go_wp2_with fail
              go_roundg n
              case measure => omega
              case rel => exact ⟨_, it ++ [i], s2, false, rfl, H6.out, fun h => (by cases h), fun _ => ⟨by rw [E1.out]; exact itemLoop_last HB.out HIT.out (Or.inl HB2.out), by omega⟩⟩
            | false =>
              have HB2 := Lib.hid hb2
              rw [hb2] at q6
              clear hb2
              cases ha : peekR mComma s2 with
              | false =>
                have HAN := Lib.hid ha
                clear ha
                go_wp2_with fail
                refine (has H6.out.ri mComma false HAN.out).mono ?_
                rintro e W7 ⟨rfl, h7, g7⟩
                rw [hasR_not HAN.out] at h7
                have H7 := Lib.hid (H6.out.call h7 g7)
                clear h7 g7 q6
                go_wp2_with fail
                go_roundg n
                case measure => omega
                case rel => exact ⟨_, it ++ [i], s2, false, rfl, H7.out, fun h => (by cases h), fun _ => ⟨by rw [E1.out]; exact itemLoop_last HB.out HIT.out (Or.inr HAN.out), by omega⟩⟩
              | true =>
                have HAN := Lib.hid ha
                have hless := hasR_less ha
                clear ha
                go_wp2_with fail
                refine (has H6.out.ri mComma true HAN.out).mono ?_
                rintro e W7 ⟨rfl, h7, g7⟩
                have H7 := Lib.hid (H6.out.call h7 g7)
                clear h7 g7 q6
                go_wp2_with fail
                go_roundg n
                case measure => omega
                case rel => exact ⟨_, it ++ [i], hasR mComma s2, true, rfl, H7.out, fun _ => ⟨by rw [E1.out]; exact itemLoop_more HB.out HIT.out HB2.out HAN.out, by omega, by omega⟩, fun h => (by cases h)⟩
  case rest =>
    obtain ⟨vi, it, s1, hq, hms, hos⟩ := hcut
    obtain ⟨ao, ca, rfl⟩ : ∃ ao ca, vi = .slice ao it.length ca := by
      rcases hq.rt.2 with ⟨e, e0⟩ | ⟨g, cap, cur, e, _⟩
      · exact ⟨none, 0, (show vi = .slice none 0 0 from e).trans (by rw [show it.length = 0 from e0])⟩
      · exact ⟨_, _, e⟩
    obtain ⟨vi, hvi⟩ : ∃ vi, vi = Value.slice ao it.length ca := ⟨_, rfl⟩
    rw [← hvi] at hq
    have HVI := Lib.hid hvi
    clear hvi
    have HMS := Lib.hid hms
    have c7 : wc.cell? ⟨x, 7, none⟩ = some (.int .i64 0) := (hq.lq.cell 7).trans rfl
    have f7 : wc.frozen? ⟨x, 7, none⟩ = false := hq.lq.free 7
    have HQ : Hid (QAt W0 b lv ts s1 x (qC { query0 with kind := 1, order := 0, down := false, skip := 0, limit := -1 } vs vc vi (.slice none 0 0)) ⟨vs, sp, vc, cd, vi, it, (.slice none 0 0), []⟩ (wc.setCell ⟨x, 7, none⟩ (.int .i64 (-1)))) := hq.set 7 (.int .i64 (-1))
    clear hq hms HI
    go_upto_region 12 with fail
    generalize wc.setCell ⟨x, 7, none⟩ (.int .i64 (-1)) = wd at HQ ⊢
    clear c7 f7
    go_upto_region 12 with fail
    go_cut [8] (fun v w => ∃ m s2, v = .bool m ∧ QAt W0 b lv ts s2 x (qC { query0 with kind := 1, order := 0, down := false, skip := 0, limit := -1 } vs vc vi (.slice none 0 0)) ⟨vs, sp, vc, cd, vi, it, (.slice none 0 0), []⟩ w ∧ ((m = true ∧ s1.bad = false ∧ peekR kORDER s1 = true ∧ s2 = hasR kORDER s1) ∨ (m = false ∧ s2 = s1 ∧ (s1.bad = true ∨ peekR kORDER s1 = false))))
    case first =>
      have qb : wd.cell? ⟨b, 2, none⟩ = some (.bool s1.bad) := (HQ.out.ri.box.cell 2).trans rfl
      cases hb : s1.bad with
      | true =>
        have HB := Lib.hid hb
        rw [hb] at qb
        clear hb
        go_wp2_with fail
        go_meet
        case rel => exact ⟨false, s1, rfl, HQ.out, Or.inr ⟨rfl, rfl, Or.inl HB.out⟩⟩
      | false =>
        have HB := Lib.hid hb
        rw [hb] at qb
        clear hb
        cases hw : peekR kORDER s1 with
        | false =>
          have HW := Lib.hid hw
          clear hw
          go_wp2_with fail
          refine (has HQ.out.ri kORDER false HW.out).mono ?_
          rintro e W6 ⟨rfl, h6, g6⟩
          rw [hasR_not HW.out] at h6
          have H6 := Lib.hid (HQ.out.call h6 g6)
          clear h6 g6 qb
          go_wp2_with fail
          go_meet
          case rel => exact ⟨false, s1, rfl, H6.out, Or.inr ⟨rfl, rfl, Or.inr HW.out⟩⟩
        | true =>
          have HW := Lib.hid hw
          clear hw
          go_wp2_with fail
          refine (has HQ.out.ri kORDER true HW.out).mono ?_
          rintro e W6 ⟨rfl, h6, g6⟩
          have H6 := Lib.hid (HQ.out.call h6 g6)
          clear h6 g6 qb
          go_wp2_with fail
          go_meet
          case rel => exact ⟨true, hasR kORDER s1, rfl, H6.out, Or.inl ⟨rfl, HB.out, HW.out, rfl⟩⟩
    case rest =>
      clear HQ
      obtain ⟨m, s2, rfl, hq2, hcase⟩ := hcut
      have H2 := Lib.hid hq2
      have HCASE := Lib.hid hcase
      clear hq2 hcase
      go_upto_if 70 with fail
      go_cut [] (fun w => ∃ s3 o d, QAt W0 b lv ts s3 x (qC { query0 with kind := 1, order := o, down := d, skip := 0, limit := -1 } vs vc vi (.slice none 0 0)) ⟨vs, sp, vc, cd, vi, it, (.slice none 0 0), []⟩ w ∧ orderR it.length s1 = ((o, d), s3))
      case first =>
        cases m with
        | false =>
          go_wp2_with fail
          go_meet
          case rel =>
            rcases HCASE.out with ⟨e, _⟩ | ⟨_, rfl, hc⟩
            · cases e
            · exact ⟨_, 0, false, H2.out, by unfold orderR; rcases hc with hc | hc <;> simp [hc]⟩
        | true =>
          obtain ⟨o, s3, ho⟩ : ∃ o s3, countR 1 it.length (mustR kBY s2) = (o, s3) := ⟨_, _, rfl⟩
          have HO := Lib.hid ho
          clear ho
          go_wp2_with fail
          refine (must H2.out.ri kBY).mono ?_
          rintro e W3 ⟨rfl, h3, g3⟩
          have H3a := H2.out.call h3 g3
          have c3 : W3.cell? ⟨x, 3, none⟩ = some (.slice ao it.length ca) := (H3a.lq.cell 3).trans (by rw [HVI.out]; rfl)
          have H3 := Lib.hid H3a
          clear h3 g3 H3a
          go_wp2_with fail
          refine (countIs H3.out.ri HO.out).mono ?_
          rintro e W5 ⟨rfl, h5, g5⟩
          have H5a := H3.out.call h5 g5
          have c5 : W5.cell? ⟨x, 4, none⟩ = some (.int .i64 0) := (H5a.lq.cell 4).trans rfl
          have f5 : W5.frozen? ⟨x, 4, none⟩ = false := H5a.lq.free 4
          have H5 := Lib.hid (H5a.set 4 (.int .i64 o))
          clear h5 g5 H5a c3
          go_wp2_with fail
          generalize W5.setCell ⟨x, 4, none⟩ (.int .i64 o) = W6 at H5 ⊢
          clear c5 f5
          obtain ⟨d, hd⟩ : ∃ d, peekR kDESC s3 = d := ⟨_, rfl⟩
          have HDD := Lib.hid hd
          clear hd
          refine (has H5.out.ri kDESC d HDD.out).mono ?_
          rintro e W7 ⟨rfl, h7, g7⟩
          have H7a := H5.out.call h7 g7
          have c7 : W7.cell? ⟨x, 5, none⟩ = some (.bool false) := (H7a.lq.cell 5).trans rfl
          have f7 : W7.frozen? ⟨x, 5, none⟩ = false := H7a.lq.free 5
          have H7 := Lib.hid (H7a.set 5 (.bool d))
          clear h7 g7 H7a
          go_wp2_with fail
          go_meet
          case rel =>
            rcases HCASE.out with ⟨_, hb, hp, rfl⟩ | ⟨e, _⟩
            · exact ⟨_, o, d, H7.out, by unfold orderR; simp only [hb, hp]; simp only [Bool.not_false, Bool.and_self, if_true, HO.out, HDD.out]⟩
            · cases e
      case rest =>
        obtain ⟨s4, o, d, hq4, hor⟩ := hcut
        have H4 := Lib.hid hq4
        have HOR := Lib.hid hor
        clear hq4 hor H2 HCASE
        go_upto_region 17 with fail
        go_cut [9] (fun v w => ∃ m s2, v = .bool m ∧ QAt W0 b lv ts s2 x (qC { query0 with kind := 1, order := o, down := d, skip := 0, limit := -1 } vs vc vi (.slice none 0 0)) ⟨vs, sp, vc, cd, vi, it, (.slice none 0 0), []⟩ w ∧ ((m = true ∧ s4.bad = false ∧ peekR kSKIP s4 = true ∧ s2 = hasR kSKIP s4) ∨ (m = false ∧ s2 = s4 ∧ (s4.bad = true ∨ peekR kSKIP s4 = false))))
        case first =>
          have qb : wc.cell? ⟨b, 2, none⟩ = some (.bool s4.bad) := (H4.out.ri.box.cell 2).trans rfl
          cases hb : s4.bad with
          | true =>
            have HB := Lib.hid hb
            rw [hb] at qb
            clear hb
            go_wp2_with fail
            go_meet
            case rel => exact ⟨false, s4, rfl, H4.out, Or.inr ⟨rfl, rfl, Or.inl HB.out⟩⟩
          | false =>
            have HB := Lib.hid hb
            rw [hb] at qb
            clear hb
            cases hw : peekR kSKIP s4 with
            | false =>
              have HW := Lib.hid hw
              clear hw
              go_wp2_with fail
              refine (has H4.out.ri kSKIP false HW.out).mono ?_
              rintro e W6 ⟨rfl, h6, g6⟩
              rw [hasR_not HW.out] at h6
              have H6 := Lib.hid (H4.out.call h6 g6)
              clear h6 g6 qb
              go_wp2_with fail
              go_meet
              case rel => exact ⟨false, s4, rfl, H6.out, Or.inr ⟨rfl, rfl, Or.inr HW.out⟩⟩
            | true =>
              have HW := Lib.hid hw
              clear hw
              go_wp2_with fail
              refine (has H4.out.ri kSKIP true HW.out).mono ?_
              rintro e W6 ⟨rfl, h6, g6⟩
              have H6 := Lib.hid (H4.out.call h6 g6)
              clear h6 g6 qb
              go_wp2_with fail
              go_meet
              case rel => exact ⟨true, hasR kSKIP s4, rfl, H6.out, Or.inl ⟨rfl, HB.out, HW.out, rfl⟩⟩
        case rest =>
          clear H4
          obtain ⟨m, s2, rfl, hq2, hcase⟩ := hcut
          have H2 := Lib.hid hq2
          have HCASE := Lib.hid hcase
          clear hq2 hcase
          go_upto_if 97 with fail
          go_cut [] (fun w => ∃ s3 k, QAt W0 b lv ts s3 x (qC { query0 with kind := 1, order := o, down := d, skip := k, limit := -1 } vs vc vi (.slice none 0 0)) ⟨vs, sp, vc, cd, vi, it, (.slice none 0 0), []⟩ w ∧ partR kSKIP (0) s4 = (k, s3))
          case first =>
            cases m with
            | false =>
              go_wp2_with fail
              go_meet
              case rel =>
                rcases HCASE.out with ⟨e, _⟩ | ⟨_, rfl, hc⟩
                · cases e
                · exact ⟨_, 0, H2.out, by unfold partR; rcases hc with hc | hc <;> simp [hc]⟩
            | true =>
              obtain ⟨k0, s3, hk0⟩ : ∃ k0 s3, countR 0 1000000000 s2 = (k0, s3) := ⟨_, _, rfl⟩
              have HK0 := Lib.hid hk0
              clear hk0
              go_wp2_with fail
              refine (countIs H2.out.ri HK0.out).mono ?_
              rintro e W5 ⟨rfl, h5, g5⟩
              have H5a := H2.out.call h5 g5
              have c5 : W5.cell? ⟨x, 6, none⟩ = some (.int .i64 (0)) := (H5a.lq.cell 6).trans rfl
              have f5 : W5.frozen? ⟨x, 6, none⟩ = false := H5a.lq.free 6
              have H5 := Lib.hid (H5a.set 6 (.int .i64 k0))
              clear h5 g5 H5a
              go_wp2_with fail
              go_meet
              case rel =>
                rcases HCASE.out with ⟨_, hb, hp, rfl⟩ | ⟨e, _⟩
                · exact ⟨s3, k0, H5.out, by unfold partR; simp only [hb, hp]; exact HK0.out⟩
                · cases e
          case rest =>
            obtain ⟨s5, k, hq5, hsk⟩ := hcut
            have H5 := Lib.hid hq5
            have HSK := Lib.hid hsk
            clear hq5 hsk H2 HCASE
            go_upto_region 20 with fail
            go_cut [10] (fun v w => ∃ m s2, v = .bool m ∧ QAt W0 b lv ts s2 x (qC { query0 with kind := 1, order := o, down := d, skip := k, limit := -1 } vs vc vi (.slice none 0 0)) ⟨vs, sp, vc, cd, vi, it, (.slice none 0 0), []⟩ w ∧ ((m = true ∧ s5.bad = false ∧ peekR kLIMIT s5 = true ∧ s2 = hasR kLIMIT s5) ∨ (m = false ∧ s2 = s5 ∧ (s5.bad = true ∨ peekR kLIMIT s5 = false))))
            case first =>
              have qb : wc.cell? ⟨b, 2, none⟩ = some (.bool s5.bad) := (H5.out.ri.box.cell 2).trans rfl
              cases hb : s5.bad with
              | true =>
                have HB := Lib.hid hb
                rw [hb] at qb
                clear hb
                go_wp2_with fail
                go_meet
                case rel => exact ⟨false, s5, rfl, H5.out, Or.inr ⟨rfl, rfl, Or.inl HB.out⟩⟩
              | false =>
                have HB := Lib.hid hb
                rw [hb] at qb
                clear hb
                cases hw : peekR kLIMIT s5 with
                | false =>
                  have HW := Lib.hid hw
                  clear hw
                  go_wp2_with fail
                  refine (has H5.out.ri kLIMIT false HW.out).mono ?_
                  rintro e W6 ⟨rfl, h6, g6⟩
                  rw [hasR_not HW.out] at h6
                  have H6 := Lib.hid (H5.out.call h6 g6)
                  clear h6 g6 qb
                  go_wp2_with fail
                  go_meet
                  case rel => exact ⟨false, s5, rfl, H6.out, Or.inr ⟨rfl, rfl, Or.inr HW.out⟩⟩
                | true =>
                  have HW := Lib.hid hw
                  clear hw
                  go_wp2_with fail
                  refine (has H5.out.ri kLIMIT true HW.out).mono ?_
                  rintro e W6 ⟨rfl, h6, g6⟩
                  have H6 := Lib.hid (H5.out.call h6 g6)
                  clear h6 g6 qb
                  go_wp2_with fail
                  go_meet
                  case rel => exact ⟨true, hasR kLIMIT s5, rfl, H6.out, Or.inl ⟨rfl, HB.out, HW.out, rfl⟩⟩
            case rest =>
              clear H5
              obtain ⟨m, s2, rfl, hq2, hcase⟩ := hcut
              have H2 := Lib.hid hq2
              have HCASE := Lib.hid hcase
              clear hq2 hcase
              go_upto_if 112 with fail
              go_cut [] (fun w => ∃ s3 l, QAt W0 b lv ts s3 x (qC { query0 with kind := 1, order := o, down := d, skip := k, limit := l } vs vc vi (.slice none 0 0)) ⟨vs, sp, vc, cd, vi, it, (.slice none 0 0), []⟩ w ∧ partR kLIMIT (-1) s5 = (l, s3))
              case first =>
                cases m with
                | false =>
                  go_wp2_with fail
                  go_meet
                  case rel =>
                    rcases HCASE.out with ⟨e, _⟩ | ⟨_, rfl, hc⟩
                    · cases e
                    · exact ⟨_, -1, H2.out, by unfold partR; rcases hc with hc | hc <;> simp [hc]⟩
                | true =>
                  obtain ⟨k0, s3, hk0⟩ : ∃ k0 s3, countR 0 1000000000 s2 = (k0, s3) := ⟨_, _, rfl⟩
                  have HK0 := Lib.hid hk0
                  clear hk0
                  go_wp2_with fail
                  refine (countIs H2.out.ri HK0.out).mono ?_
                  rintro e W5 ⟨rfl, h5, g5⟩
                  have H5a := H2.out.call h5 g5
                  have c5 : W5.cell? ⟨x, 7, none⟩ = some (.int .i64 (-1)) := (H5a.lq.cell 7).trans rfl
                  have f5 : W5.frozen? ⟨x, 7, none⟩ = false := H5a.lq.free 7
                  have H5 := Lib.hid (H5a.set 7 (.int .i64 k0))
                  clear h5 g5 H5a
                  go_wp2_with fail
                  go_meet
                  case rel =>
                    rcases HCASE.out with ⟨_, hb, hp, rfl⟩ | ⟨e, _⟩
                    · exact ⟨s3, k0, H5.out, by unfold partR; simp only [hb, hp]; exact HK0.out⟩
                    · cases e
              case rest =>
                obtain ⟨s6, l, hq6, hli⟩ := hcut
                have H9 := Lib.hid hq6
                have HLI := Lib.hid hli
                have r2 : wc.cell? ⟨b, 2, none⟩ = some (.bool s6.bad) := (hq6.ri.box.cell 2).trans rfl
                have fr2 : wc.frozen? ⟨b, 2, none⟩ = false := hq6.ri.box.free 2
                have z3 : wc.cell? ⟨x, 3, none⟩ = some (.slice ao it.length ca) := (hq6.lq.cell 3).trans (by rw [HVI.out]; rfl)
                clear hq6 hli H2 HCASE
                have HIS : Hid (itemsR st = (⟨it, o, d, k, l⟩, s6.orBad (decide (6 < it.length)))) := by
                  show _ = _; unfold itemsR; simp only [HMS.out, HOR.out, HSK.out, HLI.out]
                cases hb : s6.bad with
                | true =>
                  rw [hb] at r2
                  have HF : Hid (itemsR st = (⟨it, o, d, k, l⟩, ⟨s6.rest, true⟩)) := by show _ = _; rw [HIS.out]; unfold RS.orBad; simp only [hb]; rfl
                  clear hb
                  go_wp2_with fail
                  go_end0
                  refine ⟨rfl, vi, ?_⟩
                  rw [HF.out]
                  exact H9.out.setBad true
                | false =>
                  rw [hb] at r2
                  by_cases h6 : 6 < it.length
                  · have HF : Hid (itemsR st = (⟨it, o, d, k, l⟩, ⟨s6.rest, true⟩)) := by show _ = _; rw [HIS.out]; unfold RS.orBad; simp only [hb]; simp [h6]
                    clear hb
                    have h6i : (6 : Int) < it.length := by omega
                    go_wp2_with fail
                    go_end0
                    refine ⟨rfl, vi, ?_⟩
                    rw [HF.out]
                    exact H9.out.setBad true
                  · have HF : Hid (itemsR st = (⟨it, o, d, k, l⟩, ⟨s6.rest, false⟩)) := by show _ = _; rw [HIS.out]; unfold RS.orBad; simp only [hb]; simp [h6]
                    clear hb
                    have h6i : ¬ (6 : Int) < it.length := by omega
                    go_wp2_with fail
                    go_end0
                    refine ⟨rfl, vi, ?_⟩
                    rw [HF.out]
                    exact H9.out.setBad false

end Go.Proofs.YtobgbmfpicmpcaaGreatDoor

/- The reference's reader: what stands behind a match. -/
namespace Go.Proofs.YtobgbmfpicmpcaaGreatDoor
open Go.RowKit

set_option maxRecDepth 100000 in
set_option maxHeartbeats 9000000 in
theorem behindRead {b x : Nat} {lv vs vc : Value} {sp : List PSpot} {cd : List PCond} {ts : List Tok} {st : RS} {W0 W : World} (h : QAt W0 b lv ts st x (qC query0 vs vc (.slice none 0 0) (.slice none 0 0)) ⟨vs, sp, vc, cd, (.slice none 0 0), [], (.slice none 0 0), []⟩ W) (hr : peekR kRETURN st = true) :
    Calls Tryz.prog 42 #[.pointer (some ⟨b, 0, none⟩), .pointer (some ⟨x, 0, none⟩)] W fun e W' => e = .returned (.tuple #[]) ∧ ∃ vi, QAt W0 b lv ts (behindR { query0 with spots := sp, conds := cd } st).2 x (qC (behindR { query0 with spots := sp, conds := cd } st).1 vs vc vi (.slice none 0 0)) ⟨vs, sp, vc, cd, vi, (behindR { query0 with spots := sp, conds := cd } st).1.items, (.slice none 0 0), []⟩ W' := by
  have Phr := Lib.hid hr
  clear hr
  have HI := Lib.hid h
  clear h
  go_enter Tryz.func42, Tryz.ntmps42
  go_wp2_with fail
  refine (has HI.out.ri kRETURN true Phr.out).mono ?_
  rintro e P1 ⟨rfl, h, g⟩
  obtain ⟨s0, hs0⟩ : ∃ s0, hasR kRETURN st = s0 := ⟨_, rfl⟩
  rw [hs0] at h
  have E0 := Lib.hid hs0
  have H0 := Lib.hid (HI.out.call h g)
  clear h g HI hs0
  have c0 : P1.cell? ⟨x, 0, none⟩ = some (.int .i64 0) := (H0.out.lq.cell 0).trans rfl
  have f0 : P1.frozen? ⟨x, 0, none⟩ = false := H0.out.lq.free 0
  have HK : Hid (QAt W0 b lv ts s0 x (qC { query0 with kind := 1 } vs vc (.slice none 0 0) (.slice none 0 0)) ⟨vs, sp, vc, cd, (.slice none 0 0), [], (.slice none 0 0), []⟩ (P1.setCell ⟨x, 0, none⟩ (.int .i64 1))) := H0.out.set 0 (.int .i64 1)
  clear H0
  go_wp2_with fail
  generalize P1.setCell ⟨x, 0, none⟩ (.int .i64 1) = Pk at HK ⊢; clear c0 f0
  refine (items HK.out).mono ?_
  rintro e Q1 ⟨rfl, vi, hq⟩
  have HQ := Lib.hid hq
  clear hq HK
  go_wp2_with fail
  go_end0
  refine ⟨rfl, vi, ?_⟩
  unfold behindR
  simp only [Phr.out, E0.out, if_true]
  exact HQ.out

set_option maxRecDepth 100000 in
set_option maxHeartbeats 9000000 in
theorem behindSet {b x : Nat} {lv vs vc : Value} {sp : List PSpot} {cd : List PCond} {ts : List Tok} {st : RS} {W0 W : World} (h : QAt W0 b lv ts st x (qC query0 vs vc (.slice none 0 0) (.slice none 0 0)) ⟨vs, sp, vc, cd, (.slice none 0 0), [], (.slice none 0 0), []⟩ W) (hr : peekR kRETURN st = false) (hs : peekR kSET st = true) :
    Calls Tryz.prog 42 #[.pointer (some ⟨b, 0, none⟩), .pointer (some ⟨x, 0, none⟩)] W fun e W' => e = .returned (.tuple #[]) ∧ ∃ vi, QAt W0 b lv ts (behindR { query0 with spots := sp, conds := cd } st).2 x (qC (behindR { query0 with spots := sp, conds := cd } st).1 vs vc vi (.slice none 0 0)) ⟨vs, sp, vc, cd, vi, (behindR { query0 with spots := sp, conds := cd } st).1.items, (.slice none 0 0), []⟩ W' := by
  have Phr := Lib.hid hr
  have Phs := Lib.hid hs
  clear hr hs
  have HI := Lib.hid h
  clear h
  go_enter Tryz.func42, Tryz.ntmps42
  go_wp2_with fail
  refine (has HI.out.ri kRETURN false Phr.out).mono ?_
  rintro e P1 ⟨rfl, h, g⟩
  rw [hasR_not Phr.out] at h
  have H0 := Lib.hid (HI.out.call h g)
  clear h g HI
  go_wp2_with fail
  refine (has H0.out.ri kSET true Phs.out).mono ?_
  rintro e P2 ⟨rfl, h, g⟩
  obtain ⟨s0, hs0⟩ : ∃ s0, hasR kSET st = s0 := ⟨_, rfl⟩
  rw [hs0] at h
  have E0 := Lib.hid hs0
  have H1 := Lib.hid (H0.out.call h g)
  clear h g H0 hs0
  have c0 : P2.cell? ⟨x, 0, none⟩ = some (.int .i64 0) := (H1.out.lq.cell 0).trans rfl
  have f0 : P2.frozen? ⟨x, 0, none⟩ = false := H1.out.lq.free 0
  have HK : Hid (QAt W0 b lv ts s0 x (qC { query0 with kind := 2 } vs vc (.slice none 0 0) (.slice none 0 0)) ⟨vs, sp, vc, cd, (.slice none 0 0), [], (.slice none 0 0), []⟩ (P2.setCell ⟨x, 0, none⟩ (.int .i64 2))) := H1.out.set 0 (.int .i64 2)
  clear H1
  obtain ⟨vqs1, qs1, hqs1⟩ : ∃ n sz, nameR s0 = (n, sz) := ⟨_, _, rfl⟩
  have Eqs1 := Lib.hid hqs1
  clear hqs1
  go_wp2_with fail
  generalize P2.setCell ⟨x, 0, none⟩ (.int .i64 2) = Pk at HK ⊢; clear c0 f0
  refine (nameIs HK.out.ri Eqs1.out).mono ?_
  rintro e Q1 ⟨rfl, h, g⟩
  have Ha := HK.out.call h g
  have cc : Q1.cell? ⟨x, 8, none⟩ = some (.string ⟨#[]⟩) := (Ha.lq.cell 8).trans rfl
  have cf : Q1.frozen? ⟨x, 8, none⟩ = false := Ha.lq.free 8
  have Hqs1 : Hid (QAt W0 b lv ts qs1 x (qC { query0 with kind := 2, name := vqs1 } vs vc (.slice none 0 0) (.slice none 0 0)) ⟨vs, sp, vc, cd, (.slice none 0 0), [], (.slice none 0 0), []⟩ (Q1.setCell ⟨x, 8, none⟩ (.string vqs1))) := Ha.set 8 (.string vqs1)
  clear h g Ha HK
  obtain ⟨qs2, hqs2⟩ : ∃ sz, mustR mDot qs1 = sz := ⟨_, rfl⟩
  have Eqs2 := Lib.hid hqs2
  go_wp2_with fail
  generalize Q1.setCell ⟨x, 8, none⟩ (.string vqs1) = Q1x at Hqs1 ⊢; clear cc cf
  refine (must Hqs1.out.ri mDot).mono ?_
  rintro e Q2 ⟨rfl, h, g⟩
  rw [hqs2] at h
  have Hqs2 : Hid (QAt W0 b lv ts qs2 x (qC { query0 with kind := 2, name := vqs1 } vs vc (.slice none 0 0) (.slice none 0 0)) ⟨vs, sp, vc, cd, (.slice none 0 0), [], (.slice none 0 0), []⟩ Q2) := Hqs1.out.call h g
  clear h g hqs2 Hqs1
  obtain ⟨vqs3, qs3, hqs3⟩ : ∃ n sz, nameR qs2 = (n, sz) := ⟨_, _, rfl⟩
  have Eqs3 := Lib.hid hqs3
  clear hqs3
  go_wp2_with fail
  refine (nameIs Hqs2.out.ri Eqs3.out).mono ?_
  rintro e Q3 ⟨rfl, h, g⟩
  have Ha := Hqs2.out.call h g
  have cc : Q3.cell? ⟨x, 9, none⟩ = some (.string ⟨#[]⟩) := (Ha.lq.cell 9).trans rfl
  have cf : Q3.frozen? ⟨x, 9, none⟩ = false := Ha.lq.free 9
  have Hqs3 : Hid (QAt W0 b lv ts qs3 x (qC { query0 with kind := 2, name := vqs1, key := vqs3 } vs vc (.slice none 0 0) (.slice none 0 0)) ⟨vs, sp, vc, cd, (.slice none 0 0), [], (.slice none 0 0), []⟩ (Q3.setCell ⟨x, 9, none⟩ (.string vqs3))) := Ha.set 9 (.string vqs3)
  clear h g Ha Hqs2
  obtain ⟨qs4, hqs4⟩ : ∃ sz, mustR mEq qs3 = sz := ⟨_, rfl⟩
  have Eqs4 := Lib.hid hqs4
  go_wp2_with fail
  generalize Q3.setCell ⟨x, 9, none⟩ (.string vqs3) = Q3x at Hqs3 ⊢; clear cc cf
  refine (must Hqs3.out.ri mEq).mono ?_
  rintro e Q4 ⟨rfl, h, g⟩
  rw [hqs4] at h
  have Hqs4 : Hid (QAt W0 b lv ts qs4 x (qC { query0 with kind := 2, name := vqs1, key := vqs3 } vs vc (.slice none 0 0) (.slice none 0 0)) ⟨vs, sp, vc, cd, (.slice none 0 0), [], (.slice none 0 0), []⟩ Q4) := Hqs3.out.call h g
  clear h g hqs4 Hqs3
  obtain ⟨vqs5, qs5, hqs5⟩ : ∃ n sz, termR qs4 = (n, sz) := ⟨_, _, rfl⟩
  have Eqs5 := Lib.hid hqs5
  clear hqs5
  go_wp2_with fail
  refine (termIs Hqs4.out.ri Eqs5.out).mono ?_
  rintro e Q5 ⟨rfl, h, g⟩
  have Ha := Hqs4.out.call h g
  have c10 : Q5.cell? ⟨x, 10, none⟩ = some (.string ⟨#[]⟩) := (Ha.lq.cell 10).trans rfl
  have f10 : Q5.frozen? ⟨x, 10, none⟩ = false := Ha.lq.free 10
  have c11 : Q5.cell? ⟨x, 11, none⟩ = some (.string ⟨#[]⟩) := (Ha.lq.cell 11).trans rfl
  have f11 : Q5.frozen? ⟨x, 11, none⟩ = false := Ha.lq.free 11
  have c12 : Q5.cell? ⟨x, 12, none⟩ = some (.int .i64 0) := (Ha.lq.cell 12).trans rfl
  have f12 : Q5.frozen? ⟨x, 12, none⟩ = false := Ha.lq.free 12
  have Hqs5 : Hid (QAt W0 b lv ts qs5 x (qC { query0 with kind := 2, name := vqs1, key := vqs3, value := vqs5 } vs vc (.slice none 0 0) (.slice none 0 0)) ⟨vs, sp, vc, cd, (.slice none 0 0), [], (.slice none 0 0), []⟩ (((Q5.setCell ⟨x, 10, none⟩ (.string vqs5.name)).setCell ⟨x, 11, none⟩ (.string vqs5.key)).setCell ⟨x, 12, none⟩ (.int .i64 vqs5.val))) := ((Ha.set 10 (.string vqs5.name)).set 11 (.string vqs5.key)).set 12 (.int .i64 vqs5.val)
  clear h g Ha Hqs4
  go_wp2_with fail
  go_end0
  refine ⟨rfl, .slice none 0 0, ?_⟩
  have e : behindR { query0 with spots := sp, conds := cd } st = ({ query0 with spots := sp, conds := cd, kind := 2, name := vqs1, key := vqs3, value := vqs5 }, qs5) := by
    unfold behindR setR
    simp only [Phr.out, Phs.out, E0.out, Eqs1.out, Eqs2.out, Eqs3.out, Eqs4.out, Eqs5.out, Bool.false_eq_true, if_false, if_true]
  rw [e]
  exact Hqs5.out

set_option maxRecDepth 100000 in
set_option maxHeartbeats 9000000 in
theorem behindDel {b x : Nat} {lv vs vc : Value} {sp : List PSpot} {cd : List PCond} {ts : List Tok} {st : RS} {W0 W : World} (h : QAt W0 b lv ts st x (qC query0 vs vc (.slice none 0 0) (.slice none 0 0)) ⟨vs, sp, vc, cd, (.slice none 0 0), [], (.slice none 0 0), []⟩ W) (hr : peekR kRETURN st = false) (hs : peekR kSET st = false) (hd : peekR kDELETE st = true) :
    Calls Tryz.prog 42 #[.pointer (some ⟨b, 0, none⟩), .pointer (some ⟨x, 0, none⟩)] W fun e W' => e = .returned (.tuple #[]) ∧ ∃ vi, QAt W0 b lv ts (behindR { query0 with spots := sp, conds := cd } st).2 x (qC (behindR { query0 with spots := sp, conds := cd } st).1 vs vc vi (.slice none 0 0)) ⟨vs, sp, vc, cd, vi, (behindR { query0 with spots := sp, conds := cd } st).1.items, (.slice none 0 0), []⟩ W' := by
  have Phr := Lib.hid hr
  have Phs := Lib.hid hs
  have Phd := Lib.hid hd
  clear hr hs hd
  have HI := Lib.hid h
  clear h
  go_enter Tryz.func42, Tryz.ntmps42
  go_wp2_with fail
  refine (has HI.out.ri kRETURN false Phr.out).mono ?_
  rintro e P1 ⟨rfl, h, g⟩
  rw [hasR_not Phr.out] at h
  have H0 := Lib.hid (HI.out.call h g)
  clear h g HI
  go_wp2_with fail
  refine (has H0.out.ri kSET false Phs.out).mono ?_
  rintro e P2 ⟨rfl, h, g⟩
  rw [hasR_not Phs.out] at h
  have H1 := Lib.hid (H0.out.call h g)
  clear h g H0
  go_wp2_with fail
  refine (has H1.out.ri kDELETE true Phd.out).mono ?_
  rintro e P3 ⟨rfl, h, g⟩
  obtain ⟨s0, hs0⟩ : ∃ s0, hasR kDELETE st = s0 := ⟨_, rfl⟩
  rw [hs0] at h
  have E0 := Lib.hid hs0
  have H2 := Lib.hid (H1.out.call h g)
  clear h g H1 hs0
  have c0 : P3.cell? ⟨x, 0, none⟩ = some (.int .i64 0) := (H2.out.lq.cell 0).trans rfl
  have f0 : P3.frozen? ⟨x, 0, none⟩ = false := H2.out.lq.free 0
  have HK : Hid (QAt W0 b lv ts s0 x (qC { query0 with kind := 3 } vs vc (.slice none 0 0) (.slice none 0 0)) ⟨vs, sp, vc, cd, (.slice none 0 0), [], (.slice none 0 0), []⟩ (P3.setCell ⟨x, 0, none⟩ (.int .i64 3))) := H2.out.set 0 (.int .i64 3)
  clear H2
  obtain ⟨vqs1, qs1, hqs1⟩ : ∃ n sz, nameR s0 = (n, sz) := ⟨_, _, rfl⟩
  have Eqs1 := Lib.hid hqs1
  clear hqs1
  go_wp2_with fail
  generalize P3.setCell ⟨x, 0, none⟩ (.int .i64 3) = Pk at HK ⊢; clear c0 f0
  refine (nameIs HK.out.ri Eqs1.out).mono ?_
  rintro e Q1 ⟨rfl, h, g⟩
  have Ha := HK.out.call h g
  have cc : Q1.cell? ⟨x, 8, none⟩ = some (.string ⟨#[]⟩) := (Ha.lq.cell 8).trans rfl
  have cf : Q1.frozen? ⟨x, 8, none⟩ = false := Ha.lq.free 8
  have Hqs1 : Hid (QAt W0 b lv ts qs1 x (qC { query0 with kind := 3, name := vqs1 } vs vc (.slice none 0 0) (.slice none 0 0)) ⟨vs, sp, vc, cd, (.slice none 0 0), [], (.slice none 0 0), []⟩ (Q1.setCell ⟨x, 8, none⟩ (.string vqs1))) := Ha.set 8 (.string vqs1)
  clear h g Ha HK
  go_wp2_with fail
  go_end0
  refine ⟨rfl, .slice none 0 0, ?_⟩
  have e : behindR { query0 with spots := sp, conds := cd } st = ({ query0 with spots := sp, conds := cd, kind := 3, name := vqs1 }, qs1) := by
    unfold behindR 
    simp only [Phr.out, Phs.out, Phd.out, E0.out, Eqs1.out, Bool.false_eq_true, if_false, if_true]
  rw [e]
  exact Hqs1.out

set_option maxRecDepth 100000 in
set_option maxHeartbeats 9000000 in
theorem behindLink {b x : Nat} {lv vs vc : Value} {sp : List PSpot} {cd : List PCond} {ts : List Tok} {st : RS} {W0 W : World} (h : QAt W0 b lv ts st x (qC query0 vs vc (.slice none 0 0) (.slice none 0 0)) ⟨vs, sp, vc, cd, (.slice none 0 0), [], (.slice none 0 0), []⟩ W) (hr : peekR kRETURN st = false) (hs : peekR kSET st = false) (hd : peekR kDELETE st = false) :
    Calls Tryz.prog 42 #[.pointer (some ⟨b, 0, none⟩), .pointer (some ⟨x, 0, none⟩)] W fun e W' => e = .returned (.tuple #[]) ∧ ∃ vi, QAt W0 b lv ts (behindR { query0 with spots := sp, conds := cd } st).2 x (qC (behindR { query0 with spots := sp, conds := cd } st).1 vs vc vi (.slice none 0 0)) ⟨vs, sp, vc, cd, vi, (behindR { query0 with spots := sp, conds := cd } st).1.items, (.slice none 0 0), []⟩ W' := by
  have Phr := Lib.hid hr
  have Phs := Lib.hid hs
  have Phd := Lib.hid hd
  clear hr hs hd
  have HI := Lib.hid h
  clear h
  go_enter Tryz.func42, Tryz.ntmps42
  go_wp2_with fail
  refine (has HI.out.ri kRETURN false Phr.out).mono ?_
  rintro e P1 ⟨rfl, h, g⟩
  rw [hasR_not Phr.out] at h
  have H0 := Lib.hid (HI.out.call h g)
  clear h g HI
  go_wp2_with fail
  refine (has H0.out.ri kSET false Phs.out).mono ?_
  rintro e P2 ⟨rfl, h, g⟩
  rw [hasR_not Phs.out] at h
  have H1 := Lib.hid (H0.out.call h g)
  clear h g H0
  go_wp2_with fail
  refine (has H1.out.ri kDELETE false Phd.out).mono ?_
  rintro e P3 ⟨rfl, h, g⟩
  rw [hasR_not Phd.out] at h
  have H2 := Lib.hid (H1.out.call h g)
  clear h g H1
  have c0 : P3.cell? ⟨x, 0, none⟩ = some (.int .i64 0) := (H2.out.lq.cell 0).trans rfl
  have f0 : P3.frozen? ⟨x, 0, none⟩ = false := H2.out.lq.free 0
  have HK : Hid (QAt W0 b lv ts st x (qC { query0 with kind := 4 } vs vc (.slice none 0 0) (.slice none 0 0)) ⟨vs, sp, vc, cd, (.slice none 0 0), [], (.slice none 0 0), []⟩ (P3.setCell ⟨x, 0, none⟩ (.int .i64 4))) := H2.out.set 0 (.int .i64 4)
  clear H2
  obtain ⟨qs1, hqs1⟩ : ∃ sz, mustR kCREATE st = sz := ⟨_, rfl⟩
  have Eqs1 := Lib.hid hqs1
  go_wp2_with fail
  generalize P3.setCell ⟨x, 0, none⟩ (.int .i64 4) = Pk at HK ⊢; clear c0 f0
  refine (must HK.out.ri kCREATE).mono ?_
  rintro e Q1 ⟨rfl, h, g⟩
  rw [hqs1] at h
  have Hqs1 : Hid (QAt W0 b lv ts qs1 x (qC { query0 with kind := 4 } vs vc (.slice none 0 0) (.slice none 0 0)) ⟨vs, sp, vc, cd, (.slice none 0 0), [], (.slice none 0 0), []⟩ Q1) := HK.out.call h g
  clear h g hqs1 HK
  obtain ⟨qs2, hqs2⟩ : ∃ sz, mustR mOpen qs1 = sz := ⟨_, rfl⟩
  have Eqs2 := Lib.hid hqs2
  go_wp2_with fail
  refine (must Hqs1.out.ri mOpen).mono ?_
  rintro e Q2 ⟨rfl, h, g⟩
  rw [hqs2] at h
  have Hqs2 : Hid (QAt W0 b lv ts qs2 x (qC { query0 with kind := 4 } vs vc (.slice none 0 0) (.slice none 0 0)) ⟨vs, sp, vc, cd, (.slice none 0 0), [], (.slice none 0 0), []⟩ Q2) := Hqs1.out.call h g
  clear h g hqs2 Hqs1
  obtain ⟨vqs3, qs3, hqs3⟩ : ∃ n sz, nameR qs2 = (n, sz) := ⟨_, _, rfl⟩
  have Eqs3 := Lib.hid hqs3
  clear hqs3
  go_wp2_with fail
  refine (nameIs Hqs2.out.ri Eqs3.out).mono ?_
  rintro e Q3 ⟨rfl, h, g⟩
  have Ha := Hqs2.out.call h g
  have cc : Q3.cell? ⟨x, 8, none⟩ = some (.string ⟨#[]⟩) := (Ha.lq.cell 8).trans rfl
  have cf : Q3.frozen? ⟨x, 8, none⟩ = false := Ha.lq.free 8
  have Hqs3 : Hid (QAt W0 b lv ts qs3 x (qC { query0 with kind := 4, name := vqs3 } vs vc (.slice none 0 0) (.slice none 0 0)) ⟨vs, sp, vc, cd, (.slice none 0 0), [], (.slice none 0 0), []⟩ (Q3.setCell ⟨x, 8, none⟩ (.string vqs3))) := Ha.set 8 (.string vqs3)
  clear h g Ha Hqs2
  obtain ⟨qs4, hqs4⟩ : ∃ sz, mustR mClose qs3 = sz := ⟨_, rfl⟩
  have Eqs4 := Lib.hid hqs4
  go_wp2_with fail
  generalize Q3.setCell ⟨x, 8, none⟩ (.string vqs3) = Q3x at Hqs3 ⊢; clear cc cf
  refine (must Hqs3.out.ri mClose).mono ?_
  rintro e Q4 ⟨rfl, h, g⟩
  rw [hqs4] at h
  have Hqs4 : Hid (QAt W0 b lv ts qs4 x (qC { query0 with kind := 4, name := vqs3 } vs vc (.slice none 0 0) (.slice none 0 0)) ⟨vs, sp, vc, cd, (.slice none 0 0), [], (.slice none 0 0), []⟩ Q4) := Hqs3.out.call h g
  clear h g hqs4 Hqs3
  obtain ⟨qs5, hqs5⟩ : ∃ sz, mustR mTo qs4 = sz := ⟨_, rfl⟩
  have Eqs5 := Lib.hid hqs5
  go_wp2_with fail
  refine (must Hqs4.out.ri mTo).mono ?_
  rintro e Q5 ⟨rfl, h, g⟩
  rw [hqs5] at h
  have Hqs5 : Hid (QAt W0 b lv ts qs5 x (qC { query0 with kind := 4, name := vqs3 } vs vc (.slice none 0 0) (.slice none 0 0)) ⟨vs, sp, vc, cd, (.slice none 0 0), [], (.slice none 0 0), []⟩ Q5) := Hqs4.out.call h g
  clear h g hqs5 Hqs4
  obtain ⟨vqs6, qs6, hqs6⟩ : ∃ n sz, titleR qs5 = (n, sz) := ⟨_, _, rfl⟩
  have Eqs6 := Lib.hid hqs6
  clear hqs6
  go_wp2_with fail
  refine (titleIs Hqs5.out.ri Eqs6.out).mono ?_
  rintro e Q6 ⟨rfl, h, g⟩
  have Ha := Hqs5.out.call h g
  have cc : Q6.cell? ⟨x, 13, none⟩ = some (.string ⟨#[]⟩) := (Ha.lq.cell 13).trans rfl
  have cf : Q6.frozen? ⟨x, 13, none⟩ = false := Ha.lq.free 13
  have Hqs6 : Hid (QAt W0 b lv ts qs6 x (qC { query0 with kind := 4, name := vqs3, type := vqs6 } vs vc (.slice none 0 0) (.slice none 0 0)) ⟨vs, sp, vc, cd, (.slice none 0 0), [], (.slice none 0 0), []⟩ (Q6.setCell ⟨x, 13, none⟩ (.string vqs6))) := Ha.set 13 (.string vqs6)
  clear h g Ha Hqs5
  obtain ⟨qs7, hqs7⟩ : ∃ sz, mustR mArrow qs6 = sz := ⟨_, rfl⟩
  have Eqs7 := Lib.hid hqs7
  go_wp2_with fail
  generalize Q6.setCell ⟨x, 13, none⟩ (.string vqs6) = Q6x at Hqs6 ⊢; clear cc cf
  refine (must Hqs6.out.ri mArrow).mono ?_
  rintro e Q7 ⟨rfl, h, g⟩
  rw [hqs7] at h
  have Hqs7 : Hid (QAt W0 b lv ts qs7 x (qC { query0 with kind := 4, name := vqs3, type := vqs6 } vs vc (.slice none 0 0) (.slice none 0 0)) ⟨vs, sp, vc, cd, (.slice none 0 0), [], (.slice none 0 0), []⟩ Q7) := Hqs6.out.call h g
  clear h g hqs7 Hqs6
  obtain ⟨qs8, hqs8⟩ : ∃ sz, mustR mOpen qs7 = sz := ⟨_, rfl⟩
  have Eqs8 := Lib.hid hqs8
  go_wp2_with fail
  refine (must Hqs7.out.ri mOpen).mono ?_
  rintro e Q8 ⟨rfl, h, g⟩
  rw [hqs8] at h
  have Hqs8 : Hid (QAt W0 b lv ts qs8 x (qC { query0 with kind := 4, name := vqs3, type := vqs6 } vs vc (.slice none 0 0) (.slice none 0 0)) ⟨vs, sp, vc, cd, (.slice none 0 0), [], (.slice none 0 0), []⟩ Q8) := Hqs7.out.call h g
  clear h g hqs8 Hqs7
  obtain ⟨vqs9, qs9, hqs9⟩ : ∃ n sz, nameR qs8 = (n, sz) := ⟨_, _, rfl⟩
  have Eqs9 := Lib.hid hqs9
  clear hqs9
  go_wp2_with fail
  refine (nameIs Hqs8.out.ri Eqs9.out).mono ?_
  rintro e Q9 ⟨rfl, h, g⟩
  have Ha := Hqs8.out.call h g
  have cc : Q9.cell? ⟨x, 14, none⟩ = some (.string ⟨#[]⟩) := (Ha.lq.cell 14).trans rfl
  have cf : Q9.frozen? ⟨x, 14, none⟩ = false := Ha.lq.free 14
  have Hqs9 : Hid (QAt W0 b lv ts qs9 x (qC { query0 with kind := 4, name := vqs3, type := vqs6, «to» := vqs9 } vs vc (.slice none 0 0) (.slice none 0 0)) ⟨vs, sp, vc, cd, (.slice none 0 0), [], (.slice none 0 0), []⟩ (Q9.setCell ⟨x, 14, none⟩ (.string vqs9))) := Ha.set 14 (.string vqs9)
  clear h g Ha Hqs8
  obtain ⟨qs10, hqs10⟩ : ∃ sz, mustR mClose qs9 = sz := ⟨_, rfl⟩
  have Eqs10 := Lib.hid hqs10
  go_wp2_with fail
  generalize Q9.setCell ⟨x, 14, none⟩ (.string vqs9) = Q9x at Hqs9 ⊢; clear cc cf
  refine (must Hqs9.out.ri mClose).mono ?_
  rintro e Q10 ⟨rfl, h, g⟩
  rw [hqs10] at h
  have Hqs10 : Hid (QAt W0 b lv ts qs10 x (qC { query0 with kind := 4, name := vqs3, type := vqs6, «to» := vqs9 } vs vc (.slice none 0 0) (.slice none 0 0)) ⟨vs, sp, vc, cd, (.slice none 0 0), [], (.slice none 0 0), []⟩ Q10) := Hqs9.out.call h g
  clear h g hqs10 Hqs9
  go_wp2_with fail
  go_end0
  refine ⟨rfl, .slice none 0 0, ?_⟩
  have e : behindR { query0 with spots := sp, conds := cd } st = ({ query0 with spots := sp, conds := cd, kind := 4, name := vqs3, type := vqs6, «to» := vqs9 }, qs10) := by
    unfold behindR linkR
    simp only [Phr.out, Phs.out, Phd.out, Eqs1.out, Eqs2.out, Eqs3.out, Eqs4.out, Eqs5.out, Eqs6.out, Eqs7.out, Eqs8.out, Eqs9.out, Eqs10.out, Bool.false_eq_true, if_false]
  rw [e]
  exact Hqs10.out

theorem behind {b x : Nat} {lv vs vc : Value} {sp : List PSpot} {cd : List PCond} {ts : List Tok} {st : RS} {W0 W : World} (h : QAt W0 b lv ts st x (qC query0 vs vc (.slice none 0 0) (.slice none 0 0)) ⟨vs, sp, vc, cd, (.slice none 0 0), [], (.slice none 0 0), []⟩ W) :
    Calls Tryz.prog 42 #[.pointer (some ⟨b, 0, none⟩), .pointer (some ⟨x, 0, none⟩)] W fun e W' => e = .returned (.tuple #[]) ∧ ∃ vi, QAt W0 b lv ts (behindR { query0 with spots := sp, conds := cd } st).2 x (qC (behindR { query0 with spots := sp, conds := cd } st).1 vs vc vi (.slice none 0 0)) ⟨vs, sp, vc, cd, vi, (behindR { query0 with spots := sp, conds := cd } st).1.items, (.slice none 0 0), []⟩ W' := by
  cases hr : peekR kRETURN st with
  | true => exact behindRead h hr
  | false =>
    cases hs : peekR kSET st with
    | true => exact behindSet h hr hs
    | false =>
      cases hd : peekR kDELETE st with
      | true => exact behindDel h hr hs hd
      | false => exact behindLink h hr hs hd

end Go.Proofs.YtobgbmfpicmpcaaGreatDoor

/- The reference's scope: does each variable stand for something? -/
namespace Go.Proofs.YtobgbmfpicmpcaaGreatDoor
open Go.RowKit Go.Sort
theorem str_one {a : ByteArray} : ∀ u ∈ [Value.string a], u.oneCell' = true := by
  intro u hu
  simp at hu
  subst hu; rfl
end Go.Proofs.YtobgbmfpicmpcaaGreatDoor

/- The reference's 'number' answers the plain specification's value of a text of digits, with or without a sign. -/
namespace Go.Proofs.YtobgbmfpicmpcaaGreatDoor
open Go.RowKit

end Go.Proofs.YtobgbmfpicmpcaaGreatDoor

/- The reference's 'mark' answers the longest mark at the front of a text, or nothing; it makes memory and changes none. -/
namespace Go.Proofs.YtobgbmfpicmpcaaGreatDoor
open Go.RowKit

end Go.Proofs.YtobgbmfpicmpcaaGreatDoor

/- The reference's Tokens answers the plain specification's tokens in memory of its own. -/
namespace Go.Proofs.YtobgbmfpicmpcaaGreatDoor
open Go.RowKit

end Go.Proofs.YtobgbmfpicmpcaaGreatDoor

/- The reference's Parse. -/
namespace Go.Proofs.YtobgbmfpicmpcaaGreatDoor
open Go.RowKit

/-- The four rows of a query's answer. -/
structure QRows (B : Nat) (q : PQuery) (vs vc vi vp : Value) (w : World) : Prop where
  rs : w.ownsRow B 85 5 vs q.spots.length (spotCells q.spots)
  rc : w.ownsRow B 87 7 vc q.conds.length (condCells q.conds)
  rt : w.ownsRow B 89 2 vi q.items.length (itemCells q.items)
  rp : w.ownsRow B 91 2 vp q.pairs.length (pairCells q.pairs)
def ParsePost (r : PQuery × Int) (W : World) (e : Ending) (W' : World) : Prop :=
  Below W.heap.size W W' ∧ ∃ vs vc vi vp, e = .returned (.tuple #[.agg (qC r.1 vs vc vi vp), .int .i64 r.2]) ∧ QRows W.heap.size r.1 vs vc vi vp W'
theorem QRows.none (B : Nat) (w : World) : QRows B query0 (.slice none 0 0) (.slice none 0 0) (.slice none 0 0) (.slice none 0 0) w :=
  ⟨World.ownsRow_nil _ _ _ _, World.ownsRow_nil _ _ _ _, World.ownsRow_nil _ _ _ _, World.ownsRow_nil _ _ _ _⟩
theorem row_weaken {w : World} {B B' k n : Nat} {T : TypeId} {v : Value} {xs : List Value} (h : w.ownsRow B T k v n xs) (hb : B' ≤ B) : w.ownsRow B' T k v n xs := by
  refine ⟨h.1, ?_⟩
  rcases h.2 with e | ⟨g, cap, cur, e, hbg, r⟩
  · exact Or.inl e
  · exact Or.inr ⟨g, cap, cur, e, Nat.le_trans hb hbg, r⟩
theorem size_alloc (w : World) (o : Obj) : (w.alloc o).heap.size = w.heap.size + 1 := by simp
/-- The reader and the query, new. -/
theorem QAt.start {W W1 : World} {B : Nat} {lv : Value} {ts : List Tok} (hb : Below W.heap.size W W1) (ho : W1.ownsRow B 153 3 lv ts.length (tokCells ts)) (hl : ts.length ≤ 2000) :
    QAt W W1.heap.size lv ts ⟨ts, false⟩ (W1.heap.size + 1) (qC query0 (.slice none 0 0) (.slice none 0 0) (.slice none 0 0) (.slice none 0 0)) ⟨(.slice none 0 0), [], (.slice none 0 0), [], (.slice none 0 0), [], (.slice none 0 0), []⟩ ((W1.alloc (.cells #[lv, .int .i64 0, .bool false] 76)).alloc (.cells #[.int .i64 0, .slice none 0 0, .slice none 0 0, .slice none 0 0, .int .i64 0, .bool false, .int .i64 0, .int .i64 0, .string ⟨#[]⟩, .string ⟨#[]⟩, .string ⟨#[]⟩, .string ⟨#[]⟩, .int .i64 0, .string ⟨#[]⟩, .string ⟨#[]⟩, .string ⟨#[]⟩, .slice none 0 0] 29)) := by
  have g1 := grown_alloc W1 (.cells #[lv, .int .i64 0, .bool false] 76) (some W1.heap.size)
  have g2 := grown_alloc (W1.alloc (.cells #[lv, .int .i64 0, .bool false] 76)) (.cells #[.int .i64 0, .slice none 0 0, .slice none 0 0, .slice none 0 0, .int .i64 0, .bool false, .int .i64 0, .int .i64 0, .string ⟨#[]⟩, .string ⟨#[]⟩, .string ⟨#[]⟩, .string ⟨#[]⟩, .int .i64 0, .string ⟨#[]⟩, .string ⟨#[]⟩, .string ⟨#[]⟩, .slice none 0 0] 29) (some W1.heap.size)
  have hs := size_alloc W1 (.cells #[lv, .int .i64 0, .bool false] 76)
  have hl0 : Loc (W1.alloc (.cells #[lv, .int .i64 0, .bool false] 76)) W1.heap.size #[lv, .int .i64 ((ts.length - ts.length : Nat) : Int), .bool false] 76 := by rw [Nat.sub_self]; exact Loc.new _ _ _
  refine ⟨⟨hl0.alloc _, ⟨[], rfl⟩, ⟨_, kept_none (kept_none ho (grown_alloc _ _ none)) (grown_alloc _ _ none)⟩, hl⟩, ?_, grown_trans (grown_trans (grown_below hb _) g1) g2, by have := hb.size; omega, World.ownsRow_nil _ _ _ _, World.ownsRow_nil _ _ _ _, World.ownsRow_nil _ _ _ _, World.ownsRow_nil _ _ _ _⟩
  rw [← hs]
  exact Loc.new _ _ _
/-- What was there at the beginning is as it was. -/
theorem below_of {W Wz w : World} {b : Nat} (h0 : Below W.heap.size W Wz) (h : Wz.grownBy w (some b)) (hb : W.heap.size ≤ b) : Below W.heap.size W w :=
  ⟨h.os.trans h0.os, h.tape.trans h0.tape, h.output.trans h0.output, Nat.le_trans h0.size h.size, fun k hk => (h.block k (Nat.lt_of_lt_of_le hk h0.size) (by intro e; injection e with e; omega)).trans (h0.block k hk)⟩
theorem toks_len {s : ByteArray} {ts : List Tok} (h : toks s = some ts) : ts.length ≤ 2000 := by
  unfold toks at h
  split at h
  · cases h
  · have := run_length s s.size 0 ts (by omega) h
    omega

end Go.Proofs.YtobgbmfpicmpcaaGreatDoor

/- A block as a whole: read, written, and answered. No walk in this text. -/
namespace Go.Proofs.YtobgbmfpicmpcaaGreatDoor
open Go.RowKit

theorem Loc.range {w : World} {b : Nat} {cs : Array Value} {T : TypeId} (h : Loc w b cs T) : w.rangeAt b 0 cs.toList := fun j v hv => by
  rw [Nat.zero_add, h.cell j]; simpa using hv
theorem Loc.there {w : World} {b : Nat} {cs : Array Value} {T : TypeId} (h : Loc w b cs T) : w.there b 0 cs.size := fun j hj => by
  rw [Nat.zero_add, h.cell j]
  exact ⟨by simp [hj], h.free j⟩
theorem Loc.setMany {X : Nat} {T : TypeId} : ∀ (l : List Value) (o : Nat) (w : World) (cs : Array Value), Loc w X cs T → o + l.length ≤ cs.size → Loc (w.setCells X o l) X (cs.toList.take o ++ l ++ cs.toList.drop (o + l.length)).toArray T
  | [], o, w, cs, h, _ => by simpa [World.setCells] using h
  | v :: r, o, w, cs, h, hl => by
    rw [World.setCells]
    have h1 := Loc.setMany r (o + 1) _ _ (h.set o v) (by simp only [List.length_cons] at hl; simp; omega)
    have ho : o < cs.toList.length := by simp only [List.length_cons] at hl; simp; omega
    have e : (cs.setIfInBounds o v).toList = cs.toList.set o v := by simp
    rw [e] at h1
    have e1 : (cs.toList.set o v).take (o + 1) = cs.toList.take o ++ [v] := by
      rw [List.take_add_one, List.take_set_of_le (Nat.le_refl _), List.getElem?_set_self ho]; rfl
    have e2 : (cs.toList.set o v).drop (o + 1 + r.length) = cs.toList.drop (o + (v :: r).length) := by
      rw [List.drop_set_of_lt (by omega)]
      congr 1
      simp only [List.length_cons]; omega
    rw [e1, e2] at h1
    simpa using h1
theorem Loc.setAll {w : World} {X : Nat} {cs new : Array Value} {T : TypeId} (h : Loc w X cs T) (hs : new.size = cs.size) : Loc (w.setCells X 0 new.toList) X new T := by
  have h1 := Loc.setMany new.toList 0 w cs h (by simp [hs])
  have e : (cs.toList.take 0 ++ new.toList ++ cs.toList.drop (0 + new.toList.length)).toArray = new := by
    have : cs.toList.drop (0 + new.toList.length) = [] := List.drop_eq_nil_of_le (by simp [hs])
    rw [this]; simp
  rw [e] at h1
  exact h1
theorem grown_setMany (X : Nat) : ∀ (l : List Value) (o : Nat) (w : World), w.grownBy (w.setCells X o l) (some X)
  | [], o, w => by simpa [World.setCells] using grown_refl w (some X)
  | v :: r, o, w => by rw [World.setCells]; exact grown_trans (grown_set w X o v) (grown_setMany X r (o + 1) _)

theorem Tryz.sizeQuery : (Tryz.prog.info? 29).map (·.size) = some 17 := by kernel_rfl
theorem qC_one (q : PQuery) {a1 a2 a3 a4 : Option Addr} {n1 n2 n3 n4 k1 k2 k3 k4 : Nat} : (qC q (.slice a1 n1 k1) (.slice a2 n2 k2) (.slice a3 n3 k3) (.slice a4 n4 k4)).all (·.oneCell') = true := by
  simp [qC, Value.oneCell']
theorem z_one : ((#[.int .i64 0, .slice none 0 0, .slice none 0 0, .slice none 0 0, .int .i64 0, .bool false, .int .i64 0, .int .i64 0, .string ⟨#[]⟩, .string ⟨#[]⟩, .string ⟨#[]⟩, .string ⟨#[]⟩, .int .i64 0, .string ⟨#[]⟩, .string ⟨#[]⟩, .string ⟨#[]⟩, .slice none 0 0] : Array Value)).all (·.oneCell') = true := by simp [Value.oneCell']
set_option maxRecDepth 100000 in
/-- A query of zeros is built. -/
theorem wpList_zeroQuery {ops : Array Oper} {rest : List Oper} {op : Oper} {a : Act} {w : World} {Q : Exit → Act → World → Prop} (hgd : op.guard = none) (ho : op.op = .build 29 #[]) (h : wpList Tryz.prog ops Q rest (a.put op.dst (.agg #[.int .i64 0, .slice none 0 0, .slice none 0 0, .slice none 0 0, .int .i64 0, .bool false, .int .i64 0, .int .i64 0, .string ⟨#[]⟩, .string ⟨#[]⟩, .string ⟨#[]⟩, .string ⟨#[]⟩, .int .i64 0, .string ⟨#[]⟩, .string ⟨#[]⟩, .string ⟨#[]⟩, .slice none 0 0])) w) : wpList Tryz.prog ops Q (op :: rest) a w :=
  wpList_plain hgd fun _ hK => by
    unfold Oper.wp execOp
    simp only [ho]
    go_simp
    exact hK _ _ h
/-- A value is moved. -/
theorem wpList_move {P : Program} {ops : Array Oper} {rest : List Oper} {op : Oper} {a : Act} {w : World} {Q : Exit → Act → World → Prop} {x : Operand} (hgd : op.guard = none) (ho : op.op = .move x) (h : wpList P ops Q rest (a.put op.dst (a.eval x)) w) : wpList P ops Q (op :: rest) a w :=
  wpList_plain hgd fun _ hK => by
    unfold Oper.wp execOp
    simp only [ho]
    exact hK _ _ h
/-- A call that answers a query and an error, both kept: the query in a block. -/
theorem retQuery {fn : Func} {tmps : Array Value} {w : World} {X c d : Nat} {cs : Array Value} {e : Int} (hr : fn.results = #[.cell c 29, .tmp d]) (hc : tmps[c]?.getD undef = .pointer (some ⟨X, 0, none⟩)) (hd : tmps[d]?.getD undef = .int .i64 e) (hL : Loc w X cs 29) (hs : cs.size = 17) :
    (results fn tmps).run Tryz.prog w = .ok (.tuple #[.agg cs, .int .i64 e]) w := by
  have hl := run_loadVar_mid (P := Tryz.prog) w X 0 29 cs.toList _ hL.range Tryz.underlying29 rfl (by rw [Tryz.sizeQuery]; simp [hs])
  unfold results
  rw [hr]
  simp [hc, hd, hl, asAddr]

end Go.Proofs.YtobgbmfpicmpcaaGreatDoor

