/- The law Cuts, walked out of its callees' contracts: for every text it returns true, and nothing that was there has turned. -/
import Derived.Test.YtobgbmfpicmpcaaDoorCut
import Derived.Test.YtobgbmfpicmpcaaDoorRefTok
import Derived.Test.YtobgbmfpicmpcaaDoorHelp
namespace Go.Proofs.YtobgbmfpicmpcaaDoor
open Go.RowKit

/-- What a text's tokens are, and the error beside them. -/
def tokList (s : ByteArray) : List Tok := (toks s).getD []
def tokErr (s : ByteArray) : Int := if (toks s).isSome then 0 else 3
theorem tokList_length (s : ByteArray) : (tokList s).length ≤ 2000 := by
  unfold tokList toks
  split
  · simp
  · cases hr : run s 0 with
    | none => simp
    | some ts =>
      have := run_length s s.size 0 ts (by omega) hr
      simp; omega
theorem post_of {s : ByteArray} {w : World} {e : Ending} {w' : World} (h : TokPost s w e w') : ∃ v, e = .returned (.tuple #[v, .int .i64 (tokErr s)]) ∧ Below w.heap.size w w' ∧ w'.ownsRow w.heap.size 27 3 v (tokList s).length (tokCells (tokList s)) := by
  obtain ⟨hb, h⟩ := h
  rcases h with ⟨h1, he⟩ | ⟨ts, v, h1, he, ho⟩
  · refine ⟨.slice none 0 0, ?_, hb, ?_⟩
    · unfold tokErr; rw [h1]; exact he
    · unfold tokList; rw [h1]; exact World.ownsRow_nil _ _ _ _
  · refine ⟨v, ?_, hb, ?_⟩
    · unfold tokErr; rw [h1]; exact he
    · unfold tokList; rw [h1]; exact ho

/-- The document's example. -/
def ex : ByteArray := ⟨#[97, 46, 107, 60, 61, 45, 53]⟩
theorem ex_size : ex.size = 7 := rfl
theorem ex0 : bt ex 0 = 97 := rfl
theorem ex1 : bt ex 1 = 46 := rfl
theorem ex2 : bt ex 2 = 107 := rfl
theorem ex3 : bt ex 3 = 60 := rfl
theorem ex4 : bt ex 4 = 61 := rfl
theorem ex5 : bt ex 5 = 45 := rfl
theorem ex6 : bt ex 6 = 53 := rfl
theorem ex_one0 : one ex 0 = some (1, ⟨1, ex.extract 0 1, 0⟩) := by
  have hz := ex_size
  have h : 0 < ex.size := by omega
  have hl : letB (bt ex 0) = true := by rw [ex0]; exact letB_yes (by omega)
  refine one_word h (by rw [bt_in h]; exact hl) ?_ (by omega)
  rw [span_go h (by unfold alnB; rw [hl]; rfl), span_stop]
  intro _; unfold alnB; rw [show 0 + 1 = 1 from rfl, ex1, letB_no (by omega), digB_no (by omega)]; rfl
theorem ex_one1 : one ex 1 = some (2, ⟨3, ex.extract 1 2, 0⟩) := by
  have hm : markLen ex 1 = 1 := by
    have h1 := ex1; have h2 : bt ex (1 + 1) = 107 := ex2
    unfold markLen; simp only; repeat' split
    all_goals omega
  have := one_mark (s := ex) (k := 1) (by rw [ex1]; exact letB_no (by omega)) (by rintro (h | ⟨h, _⟩); · rw [ex1] at h; have := of_digB h; omega
                                                                                  · rw [ex1] at h; omega) (by omega)
  rw [hm] at this; exact this
theorem ex_one2 : one ex 2 = some (3, ⟨1, ex.extract 2 3, 0⟩) := by
  have hz := ex_size
  have h : 2 < ex.size := by omega
  have hl : letB (bt ex 2) = true := by rw [ex2]; exact letB_yes (by omega)
  refine one_word h (by rw [bt_in h]; exact hl) ?_ (by omega)
  rw [span_go h (by unfold alnB; rw [hl]; rfl), span_stop]
  intro _; unfold alnB; rw [show 2 + 1 = 3 from rfl, ex3, letB_no (by omega), digB_no (by omega)]; rfl
theorem ex_one3 : one ex 3 = some (5, ⟨3, ex.extract 3 5, 0⟩) := by
  have hm : markLen ex 3 = 2 := by
    have h1 := ex3; have h2 : bt ex (3 + 1) = 61 := ex4
    unfold markLen; simp only; repeat' split
    all_goals omega
  have := one_mark (s := ex) (k := 3) (by rw [ex3]; exact letB_no (by omega)) (by rintro (h | ⟨h, _⟩); · rw [ex3] at h; have := of_digB h; omega
                                                                                  · rw [ex3] at h; omega) (by omega)
  rw [hm] at this; exact this
theorem ex_text : ex.extract 5 7 = ⟨#[45, 53]⟩ := rfl
theorem ex_one5 : one ex 5 = some (7, ⟨2, ⟨#[45, 53]⟩, -5⟩) := by
  have hz := ex_size
  have hd : digB (bt ex (5 + 1)) = true := by rw [show 5 + 1 = 6 from rfl, ex6]; exact digB_yes (by omega)
  have he : span digB ex (5 + 1) = 7 := by
    rw [span_go (by omega) hd, span_stop (by omega)]
  have hv : numL (ex.extract 5 7).data.toList = some (-5) := by
    rw [ex_text]
    have t0 : bt (⟨#[45, 53]⟩ : ByteArray) 0 = 45 := rfl
    have t1 : bt (⟨#[45, 53]⟩ : ByteArray) 1 = 53 := rfl
    have z : (⟨#[45, 53]⟩ : ByteArray).size = 2 := rfl
    have d : digs 0 ((⟨#[45, 53]⟩ : ByteArray).data.toList.drop 1) = 5 := by
      show digs 0 [53] = 5
      rw [digs_cons, digs_nil, dgt_eq]; rfl
    rw [numL_sign_ok (by omega) t0 (by omega) (by rw [d]; omega), d]; rfl
  have := one_num (s := ex) (k := 5) (by rw [ex5]; exact letB_no (by omega)) (Or.inr ⟨ex5, hd⟩) he hv
  rw [ex_text] at this; exact this
theorem ex_toks : toks ex = some [⟨1, ex.extract 0 1, 0⟩, ⟨3, ex.extract 1 2, 0⟩, ⟨1, ex.extract 2 3, 0⟩, ⟨3, ex.extract 3 5, 0⟩, ⟨2, ⟨#[45, 53]⟩, -5⟩] := by
  have hz := ex_size
  unfold toks
  rw [if_neg (by omega), run_tok (by omega) (by rw [ex0]; omega) ex_one0, run_tok (by omega) (by rw [ex1]; omega) ex_one1, run_tok (by omega) (by rw [ex2]; omega) ex_one2, run_tok (by omega) (by rw [ex3]; omega) ex_one3,
    run_tok (by omega) (by rw [ex5]; omega) ex_one5, run_end (by omega)]
  rfl

theorem tokensEx (w : World) {ev : Value} (hg : w.cell? ⟨1, 0, none⟩ = some ev) (hev : ev = .nilIface ∨ ∃ te pe, ev = .iface te pe) :
    Calls Tryd.prog 4 #[.string ⟨#[97, 46, 107, 60, 61, 45, 53]⟩] w fun e w' => ∃ g cap, e = .returned (.tuple #[.slice (some ⟨g, 0, none⟩) 5 cap, .int .i64 0]) ∧ Below w.heap.size w w' ∧ 5 ≤ cap ∧
      w'.cell? ⟨g, 12, none⟩ = some (.int .i64 2) ∧ w'.cell? ⟨g, 13, none⟩ = some (.string ⟨#[45, 53]⟩) ∧ w'.cell? ⟨g, 14, none⟩ = some (.int .i64 (-5)) := by
  refine (tokens ex w hg hev (by rw [ex_size]; unfold maxLen; omega)).mono ?_
  rintro e w' ⟨hb, h⟩
  rcases h with ⟨h1, _⟩ | ⟨ts, v, h1, he, ho⟩
  · rw [ex_toks] at h1; cases h1
  · rw [ex_toks] at h1
    injection h1 with h1
    subst h1
    rcases ho.2 with ⟨_, h0⟩ | ⟨g, cap, cur, rfl, hbg, hg, hnc, _⟩
    · cases h0
    · obtain ⟨c0, c1, c2⟩ := own_tok ho rfl 4 (by decide)
      exact ⟨g, cap, he, hb, hnc, c0, c1, c2⟩

set_option maxRecDepth 100000 in
set_option maxHeartbeats 2000000 in
theorem cuts (s : ByteArray) (w : World) {ev : Value} (hg : w.cell? ⟨1, 0, none⟩ = some ev) (hev : ev = .nilIface ∨ ∃ te pe, ev = .iface te pe) (hm : s.size ≤ maxLen) :
    Calls Tryd.prog 3 #[.string s] w fun e w' => e = .returned (.bool true) ∧ Below w.heap.size w w' := by
  have HG := Lib.hid hg
  have HEV := Lib.hid hev
  have HM := Lib.hid hm
  have HL := Lib.hid (tokList_length s)
  have hlt := Lib.lt_of_cell hg
  have HLT : Hid ((⟨1, 0, none⟩ : Addr).block < w.heap.size) := hlt
  clear hg hev hm hlt
  go_enter Tryd.func3, Tryd.ntmps3
  go_wp2_with fail
  refine (tokensEx w HG.out HEV.out).mono ?_
  rintro e w1 ⟨g, cap, rfl, hb1, hcap, x0, x1, x2⟩
  have HB1 := Lib.hid hb1
  clear hb1
  go_wp2_with fail
  clear x0 x1 x2 hcap
  refine (refTokensAny s w1 HM.out).mono ?_
  intro e w2 hp2
  obtain ⟨v2, rfl, hb2, ho2⟩ := post_of hp2
  have HB2 := Lib.hid hb2
  have HO2 := Lib.hid ho2
  have HBW : Hid (Below w.heap.size w w2) := HB1.out.trans (hb2.mono HB1.out.size)
  clear hp2 hb2 ho2
  go_wp2_with fail
  refine (tokens s w2 ((HBW.out.cell HLT.out).trans HG.out) HEV.out HM.out).mono ?_
  intro e w3 hp3
  obtain ⟨v3, rfl, hb3, ho3⟩ := post_of hp3
  have HB3 := Lib.hid hb3
  have HO3 := Lib.hid ho3
  clear hp3 hb3 ho3
  go_wp2_with fail
  refine (same HL.out HO3.out (own_below HO2.out HB3.out)).mono ?_
  rintro e w3' ⟨rfl, d3, rfl⟩
  go_wp2_with fail
  refine (ownTokens (w := w3.drewN d3) (-77) HL.out (B := w2.heap.size) HB3.out.size (own_drewN HO3.out d3)).mono ?_
  rintro e w4 ⟨vo1, rfl, hb4, hown1⟩
  have HB4 : Hid (Below w2.heap.size w2 w4) := (below_drewN HB3.out d3).trans hb4
  have HW4 : Hid (Below w.heap.size w w4) := HBW.out.trans (HB4.out.mono HBW.out.size)
  have HV1 := Lib.hid hown1
  clear hb4 hown1
  go_wp2_with fail
  refine (tokens s w4 ((HW4.out.cell HLT.out).trans HG.out) HEV.out HM.out).mono ?_
  intro e w5 hp5
  obtain ⟨v5, rfl, hb5, ho5⟩ := post_of hp5
  have HB5 := Lib.hid hb5
  have HO5 := Lib.hid ho5
  clear hp5 hb5 ho5
  go_wp2_with fail
  refine (same HL.out HO5.out (own_below HO2.out (HB4.out.trans (HB5.out.mono HB4.out.size)))).mono ?_
  rintro e w5' ⟨rfl, d5, rfl⟩
  go_wp2_with fail
  refine (ownTokens (w := w5.drewN d5) (-78) HL.out (B := w4.heap.size) HB5.out.size (own_drewN HO5.out d5)).mono ?_
  rintro e w6 ⟨vo2, rfl, hb6, hown2⟩
  have HB6 : Hid (Below w4.heap.size w4 w6) := (below_drewN HB5.out d5).trans hb6
  have HW6 : Hid (Below w.heap.size w w6) := HW4.out.trans (HB6.out.mono HW4.out.size)
  have HV2 := Lib.hid hown2
  clear hb6 hown2
  go_wp2_with fail
  refine (kept (HV1.out.old HB6.out)).mono ?_
  rintro e w6' ⟨rfl, rfl⟩
  go_wp2_with fail
  refine (kept HV2.out).mono ?_
  rintro e w6'' ⟨rfl, rfl⟩
  go_wp2
  go_ret
  exact ⟨rfl, HW6.out⟩

end Go.Proofs.YtobgbmfpicmpcaaDoor
