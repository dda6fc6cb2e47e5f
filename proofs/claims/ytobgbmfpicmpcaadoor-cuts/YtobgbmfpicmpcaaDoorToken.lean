/- The program's 'token': the machine of states cuts the token that begins at its place, or tells that there is none. -/
import Derived.Test.YtobgbmfpicmpcaaDoorGoes
import Derived.Test.YtobgbmfpicmpcaaDoorAddNum
import Derived.Test.YtobgbmfpicmpcaaDoorOpen
import Derived.Test.YtobgbmfpicmpcaaDoorJumps
import Derived.WalkMore
import Derived.Lib.Hide
namespace Go.Proofs.YtobgbmfpicmpcaaDoor
open Go.RowKit

/-- The frame at a jump: the machine, no result yet, the rest whatever it be. -/
def Fr (b : Nat) (a : Act) : Prop :=
  ∃ u3 u4 u5 u6 u7 u8 u9 u10 u11 u12 u13 u14 u15 u16 u17 u18 u19 u20 u21 u22 u23 u24 u25 u26 u27 u28 u29 u30 u31 u32 u33 u34 u35 u36 u37 u38 u39 u40 u41 u42 u43 u44 u45 u46 u47 u48 u49 u50 u51 u52 u53 u54 u55 u56 u57 u58 u59 u60 u61 u62 u63 u64 u65 u66 u67 u68 u69 u70 u71 u72 : Value, a = { tmps := #[.pointer (some ⟨b, 0, none⟩), undef, .bool false, u3, u4, u5, u6, u7, u8, u9, u10, u11, u12, u13, u14, u15, u16, u17, u18, u19, u20, u21, u22, u23, u24, u25, u26, u27, u28, u29, u30, u31, u32, u33, u34, u35, u36, u37, u38, u39, u40, u41, u42, u43, u44, u45, u46, u47, u48, u49, u50, u51, u52, u53, u54, u55, u56, u57, u58, u59, u60, u61, u62, u63, u64, u65, u66, u67, u68, u69, u70, u71, u72], defers := [] }

/-- What holds at each label. -/
def JT (w0 : World) (b : Nat) (s : ByteArray) (k : Nat) (acc : List Tok) (l n : Nat) (a : Act) (W : World) : Prop :=
  Fr b a ∧ match l with
  | 0 => ∃ e : Nat, k < e ∧ e ≤ s.size ∧ n = s.size - e + 1 ∧ span alnB s e = span alnB s k ∧ letB (bt s k) = true ∧ Inv w0 b s (k : Nat) (e : Nat) acc W
  | 1 => ∃ e : Nat, k < e ∧ e ≤ s.size ∧ n = s.size - e + 1 ∧ span digB s e = span digB s (k + 1) ∧ NumBegin s k ∧ letB (bt s k) = false ∧ Inv w0 b s (k : Nat) (e : Nat) acc W
  | 2 => n = s.size + 2 ∧ bt s k = 45 ∧ Inv w0 b s (k : Nat) ((k + 1 : Nat) : Int) acc W
  | 3 => n = 1 ∧ bt s k = 93 ∧ Inv w0 b s (k : Nat) ((k + 1 : Nat) : Int) acc W
  | 4 => n = 1 ∧ bt s k = 46 ∧ Inv w0 b s (k : Nat) ((k + 1 : Nat) : Int) acc W
  | 5 => n = 2 ∧ bt s k = 60 ∧ Inv w0 b s (k : Nat) ((k + 1 : Nat) : Int) acc W
  | 6 => n = 1 ∧ (bt s k = 62 ∨ (bt s k = 60 ∧ bt s (k + 1) ≠ 62)) ∧ Inv w0 b s (k : Nat) ((k + 1 : Nat) : Int) acc W
  | 7 => n = 0 ∧ letB (bt s k) = false ∧ ¬ NumBegin s k ∧ 0 < markLen s k ∧ Inv w0 b s (k : Nat) ((k + markLen s k : Nat) : Int) acc W
  | _ => False

/-- What 'token' leaves. -/
def TokenPost (w0 : World) (b : Nat) (s : ByteArray) (k : Nat) (acc : List Tok) (e : Ending) (W : World) : Prop :=
  (e = .returned (.bool true) ∧ ∃ en t, one s k = some (en, t) ∧ Inv w0 b s (k : Nat) (en : Nat) (acc ++ [t]) W) ∨
  (e = .returned (.bool false) ∧ one s k = none ∧ Below w0.heap.size w0 W)

/-- What a state tells of the byte. -/
def OpenIs (c o : Int) : Prop :=
  (o = 0 → letB c = false ∧ digB c = false ∧ c ≠ 45 ∧ c ≠ 93 ∧ c ≠ 46 ∧ c ≠ 60 ∧ c ≠ 62 ∧ c ≠ 40 ∧ c ≠ 41 ∧ c ≠ 58 ∧ c ≠ 44 ∧ c ≠ 61 ∧ c ≠ 42 ∧ c ≠ 123 ∧ c ≠ 125) ∧
  (o = 1 → letB c = true) ∧ (o = 2 → digB c = true ∧ letB c = false) ∧ (o = 3 → c = 45) ∧ (o = 4 → c = 93) ∧ (o = 5 → c = 46) ∧ (o = 6 → c = 60) ∧ (o = 7 → c = 62) ∧
  (o = 8 → c = 40 ∨ c = 41 ∨ c = 58 ∨ c = 44 ∨ c = 61 ∨ c = 42 ∨ c = 123 ∨ c = 125)
theorem openIs (c : Int) : OpenIs c (openN c) := by
  unfold OpenIs openN
  by_cases h1 : c = 45
  · subst h1; simp
  by_cases h2 : c = 93
  · subst h2; simp
  by_cases h3 : c = 46
  · subst h3; simp
  by_cases h4 : c = 60
  · subst h4; simp
  by_cases h5 : c = 62
  · subst h5; simp
  rw [if_neg h1, if_neg h2, if_neg h3, if_neg h4, if_neg h5]
  by_cases h6 : c = 40 ∨ c = 41 ∨ c = 58 ∨ c = 44 ∨ c = 61 ∨ c = 42 ∨ c = 123 ∨ c = 125
  · rw [if_pos h6]; simp; exact h6
  · rw [if_neg h6]
    cases hl : letB c with
    | true => simp
    | false =>
      cases hd : digB c with
      | true => simp
      | false => simp; omega

theorem ne_of_beq_false {x y : Int} (h : (x == y) = false) : x ≠ y := by simpa using h
theorem open_nine (c : Int) : openN c = 0 ∨ openN c = 1 ∨ openN c = 2 ∨ openN c = 3 ∨ openN c = 4 ∨ openN c = 5 ∨ openN c = 6 ∨ openN c = 7 ∨ openN c = 8 := by
  unfold openN; repeat' split
  all_goals simp
theorem not_num {s : ByteArray} {k : Nat} (h1 : ¬ (48 ≤ bt s k ∧ bt s k ≤ 57)) (h2 : bt s k ≠ 45 ∨ digB (bt s (k + 1)) = false) : ¬ NumBegin s k := by
  rintro (h | ⟨h, h3⟩)
  · exact h1 (of_digB h)
  · rcases h2 with h2 | h2
    · exact h2 h
    · rw [h2] at h3; cases h3
theorem mark0 {s : ByteArray} {k : Nat} (h : bt s k ≠ 45 ∧ bt s k ≠ 93 ∧ bt s k ≠ 46 ∧ bt s k ≠ 60 ∧ bt s k ≠ 62 ∧ bt s k ≠ 40 ∧ bt s k ≠ 41 ∧ bt s k ≠ 58 ∧ bt s k ≠ 44 ∧ bt s k ≠ 61 ∧ bt s k ≠ 42 ∧ bt s k ≠ 123 ∧ bt s k ≠ 125) : markLen s k = 0 := by
  unfold markLen
  simp only
  repeat' split
  all_goals omega
theorem mark1 {s : ByteArray} {k : Nat} (h : bt s k = 40 ∨ bt s k = 41 ∨ bt s k = 58 ∨ bt s k = 44 ∨ bt s k = 61 ∨ bt s k = 42 ∨ bt s k = 123 ∨ bt s k = 125) : markLen s k = 1 := by
  unfold markLen
  simp only
  repeat' split
  all_goals omega

set_option maxRecDepth 100000 in
set_option maxHeartbeats 2000000 in
theorem token {w0 W : World} {ev : Value} (hg : w0.cell? ⟨1, 0, none⟩ = some ev) (hev : ev = .nilIface ∨ ∃ te pe, ev = .iface te pe) {b : Nat} {s : ByteArray} {f : Int} {k : Nat} {acc : List Tok}
    (hinv : Inv w0 b s f (k : Nat) acc W) (hs : s.size ≤ 2000) (hk : k < s.size) (hal : acc.length ≤ 2000) :
    Calls Tryd.prog 15 #[.pointer (some ⟨b, 0, none⟩)] W (TokenPost w0 b s k acc) := by
  have HG : Hid (w0.cell? ⟨1, 0, none⟩ = some ev) := hg
  have HEV : Hid (ev = .nilIface ∨ ∃ te pe, ev = .iface te pe) := hev
  clear hg hev
  go_enter Tryd.func15, Tryd.ntmps15
  go_wp2
  refine wp_scope_labels (JT w0 b s k acc) ?_ ?_
  · have HI : Hid (Inv w0 b s f (k : Nat) acc W) := hinv
    obtain ⟨lv, hx, ho⟩ := hinv.cut
    obtain ⟨c0, c1, c2, c3⟩ := hx.cells
    have f1 := hx.free 1
    have f2 := hx.free 2
    clear hinv hx ho c3
    go_wp2
    have hI1 : Inv w0 b s (k : Nat) ((k + 1 : Nat) : Int) acc ((W.setCell ⟨b, 1, none⟩ (.int .i64 (k : Int))).setCell ⟨b, 2, none⟩ (.int .i64 ((k : Int) + 1))) := by
      rw [show ((k + 1 : Nat) : Int) = (k : Int) + 1 from by omega]
      exact (HI.out.setFrom (k : Int)).setAt ((k : Int) + 1)
    generalize (W.setCell ⟨b, 1, none⟩ (.int .i64 (k : Int))).setCell ⟨b, 2, none⟩ (.int .i64 ((k : Int) + 1)) = W1 at hI1 ⊢
    clear HI c0 c1 c2 f1 f2
    have HI : Hid (Inv w0 b s (k : Nat) ((k + 1 : Nat) : Int) acc W1) := hI1
    obtain ⟨lv1, hx, ho⟩ := hI1.cut
    obtain ⟨c0, c1, c2, c3⟩ := hx.cells
    clear hI1 hx ho c2 c3
    have HC : Hid (OpenIs (bt s k) (openN (bt s k))) := openIs _
    have hopen := open_nine ((s[k]'hk).toNat : Int)
    go_quiet ((go_at_call 18; exact Calls.quiet_of_same (opening _ _)))
    rcases hopen with ho | ho | ho | ho | ho | ho | ho | ho | ho
    all_goals
      have HO : Hid (OpenIs (bt s k) (openN ((s[k]'hk).toNat : Int))) := by rw [bt_in hk]; exact HC.out
      rw [ho] at HO
      clear HC
    · go_wp2
      simp only [ExitJumps]
      go_ret
      obtain ⟨h1, h2, h3⟩ := HO.out.1 rfl
      have h4 := of_digB_no h2
      exact Or.inr ⟨rfl, one_mark_bad h1 (not_num h4 (Or.inl h3.1)) (mark0 h3), (HI.out.drew nq).below⟩
    · go_wp2
      go_step3
      have h1 := HO.out.2.1 rfl
      exact ⟨_, ⟨_, _, _, _, _, _, _, _, _, _, _, _, _, _, _, _, _, _, _, _, _, _, _, _, _, _, _, _, _, _, _, _, _, _, _, _, _, _, _, _, _, _, _, _, _, _, _, _, _, _, _, _, _, _, _, _, _, _, _, _, _, _, _, _, _, _, _, _, _, _, rfl⟩, k + 1, by omega, by omega, rfl, (span_go hk (by unfold alnB; rw [h1]; rfl)).symm, h1, HI.out.drew nq⟩
    · go_wp2
      go_step3
      have h1 := HO.out.2.2.1 rfl
      exact ⟨_, ⟨_, _, _, _, _, _, _, _, _, _, _, _, _, _, _, _, _, _, _, _, _, _, _, _, _, _, _, _, _, _, _, _, _, _, _, _, _, _, _, _, _, _, _, _, _, _, _, _, _, _, _, _, _, _, _, _, _, _, _, _, _, _, _, _, _, _, _, _, _, _, rfl⟩, k + 1, by omega, by omega, rfl, rfl, Or.inl h1.1, h1.2, HI.out.drew nq⟩
    · go_wp2
      go_step3
      exact ⟨_, ⟨_, _, _, _, _, _, _, _, _, _, _, _, _, _, _, _, _, _, _, _, _, _, _, _, _, _, _, _, _, _, _, _, _, _, _, _, _, _, _, _, _, _, _, _, _, _, _, _, _, _, _, _, _, _, _, _, _, _, _, _, _, _, _, _, _, _, _, _, _, _, rfl⟩, rfl, HO.out.2.2.2.1 rfl, HI.out.drew nq⟩
    · go_wp2
      go_step3
      exact ⟨_, ⟨_, _, _, _, _, _, _, _, _, _, _, _, _, _, _, _, _, _, _, _, _, _, _, _, _, _, _, _, _, _, _, _, _, _, _, _, _, _, _, _, _, _, _, _, _, _, _, _, _, _, _, _, _, _, _, _, _, _, _, _, _, _, _, _, _, _, _, _, _, _, rfl⟩, rfl, HO.out.2.2.2.2.1 rfl, HI.out.drew nq⟩
    · go_wp2
      go_step3
      exact ⟨_, ⟨_, _, _, _, _, _, _, _, _, _, _, _, _, _, _, _, _, _, _, _, _, _, _, _, _, _, _, _, _, _, _, _, _, _, _, _, _, _, _, _, _, _, _, _, _, _, _, _, _, _, _, _, _, _, _, _, _, _, _, _, _, _, _, _, _, _, _, _, _, _, rfl⟩, rfl, HO.out.2.2.2.2.2.1 rfl, HI.out.drew nq⟩
    · go_wp2
      go_step3
      exact ⟨_, ⟨_, _, _, _, _, _, _, _, _, _, _, _, _, _, _, _, _, _, _, _, _, _, _, _, _, _, _, _, _, _, _, _, _, _, _, _, _, _, _, _, _, _, _, _, _, _, _, _, _, _, _, _, _, _, _, _, _, _, _, _, _, _, _, _, _, _, _, _, _, _, rfl⟩, rfl, HO.out.2.2.2.2.2.2.1 rfl, HI.out.drew nq⟩
    · go_wp2
      go_step3
      exact ⟨_, ⟨_, _, _, _, _, _, _, _, _, _, _, _, _, _, _, _, _, _, _, _, _, _, _, _, _, _, _, _, _, _, _, _, _, _, _, _, _, _, _, _, _, _, _, _, _, _, _, _, _, _, _, _, _, _, _, _, _, _, _, _, _, _, _, _, _, _, _, _, _, _, rfl⟩, rfl, Or.inl (HO.out.2.2.2.2.2.2.2.1 rfl), HI.out.drew nq⟩
    · go_wp2
      go_step3
      have h1 := HO.out.2.2.2.2.2.2.2.2 rfl
      have h2 := mark1 h1
      exact ⟨_, ⟨_, _, _, _, _, _, _, _, _, _, _, _, _, _, _, _, _, _, _, _, _, _, _, _, _, _, _, _, _, _, _, _, _, _, _, _, _, _, _, _, _, _, _, _, _, _, _, _, _, _, _, _, _, _, _, _, _, _, _, _, _, _, _, _, _, _, _, _, _, _, rfl⟩, rfl, letB_no (by omega), not_num (by omega) (Or.inl (by omega)), by omega, by rw [h2]; exact HI.out.drew nq⟩
  · intro n l a' W' hJ
    obtain ⟨hfr, hj⟩ := hJ
    obtain ⟨u3, u4, u5, u6, u7, u8, u9, u10, u11, u12, u13, u14, u15, u16, u17, u18, u19, u20, u21, u22, u23, u24, u25, u26, u27, u28, u29, u30, u31, u32, u33, u34, u35, u36, u37, u38, u39, u40, u41, u42, u43, u44, u45, u46, u47, u48, u49, u50, u51, u52, u53, u54, u55, u56, u57, u58, u59, u60, u61, u62, u63, u64, u65, u66, u67, u68, u69, u70, u71, u72, rfl⟩ := hfr
    match l, hj with
    | 0, hj =>
      obtain ⟨e, he1, he2, rfl, hsp, hl, hI⟩ := hj
      have HI : Hid (Inv w0 b s (k : Nat) (e : Nat) acc W') := hI
      have HSP : Hid (span alnB s e = span alnB s k) := hsp
      have HL : Hid (letB (bt s k) = true) := hl
      clear hI hsp hl
      refine ⟨_, rfl, ?_⟩
      cases hel : letB (bt s e) with
      | true =>
        have HX : Hid (letB (bt s e) = true) := hel
        have het : e < s.size := lt_of_class hel letB_end
        have HST : Hid (span alnB s (e + 1) = span alnB s k) := by show _ = _; rw [← HSP.out]; exact (span_go het (by unfold alnB; rw [hel]; rfl)).symm
        clear hel
        go_wp2_with (first | (go_at_call_of 16 (Value.func (Fn.func (19 : Nat)) #[] #[]); refine (goesLetterYes HI.out hs HX.out).mono ?_; rintro e1 W1 ⟨rfl, hI1⟩; have HI1 := Lib.hid hI1; clear hI1))
        go_step3
        exact ⟨_, by omega, ⟨_, _, _, _, _, _, _, _, _, _, _, _, _, _, _, _, _, _, _, _, _, _, _, _, _, _, _, _, _, _, _, _, _, _, _, _, _, _, _, _, _, _, _, _, _, _, _, _, _, _, _, _, _, _, _, _, _, _, _, _, _, _, _, _, _, _, _, _, _, _, rfl⟩, e + 1, by omega, by omega, rfl, HST.out, HL.out, HI1.out⟩
      | false =>
        have HX : Hid (letB (bt s e) = false) := hel
        cases hed : digB (bt s e) with
        | true =>
          have HY : Hid (digB (bt s e) = true) := hed
          have het : e < s.size := lt_of_class hed digB_end
          have HST : Hid (span alnB s (e + 1) = span alnB s k) := by show _ = _; rw [← HSP.out]; exact (span_go het (by unfold alnB; rw [hel, hed]; rfl)).symm
          clear hel hed
          go_wp2_with (first | (go_at_call_of 16 (Value.func (Fn.func (19 : Nat)) #[] #[]); refine (goesLetterNo HI.out he2 HX.out).mono ?_; rintro e1 W1 ⟨rfl, hI1⟩; have HI1 := Lib.hid hI1; clear hI1) | (go_at_call_of 16 (Value.func (Fn.func (20 : Nat)) #[] #[]); refine (goesDigitYes HI1.out hs HY.out).mono ?_; rintro e2 W2 ⟨rfl, hI2⟩; have HI2 := Lib.hid hI2; clear hI2))
          go_step3
          exact ⟨_, by omega, ⟨_, _, _, _, _, _, _, _, _, _, _, _, _, _, _, _, _, _, _, _, _, _, _, _, _, _, _, _, _, _, _, _, _, _, _, _, _, _, _, _, _, _, _, _, _, _, _, _, _, _, _, _, _, _, _, _, _, _, _, _, _, _, _, _, _, _, _, _, _, _, rfl⟩, e + 1, by omega, by omega, rfl, HST.out, HL.out, HI2.out⟩
        | false =>
          have HY : Hid (digB (bt s e) = false) := hed
          have HE : Hid (span alnB s k = e) := by show _ = _; rw [← HSP.out]; exact span_stop (fun _ => by unfold alnB; rw [hel, hed]; rfl)
          clear hel hed
          by_cases h8 : 8 < e - k
          · have HONE : Hid (one s k = none) := one_word_bad hk (by rw [bt_in hk]; exact HL.out) HE.out h8
            go_wp2_with (first | (go_at_call_of 16 (Value.func (Fn.func (19 : Nat)) #[] #[]); refine (goesLetterNo HI.out he2 HX.out).mono ?_; rintro e1 W1 ⟨rfl, hI1⟩; have HI1 := Lib.hid hI1; clear hI1) | (go_at_call_of 16 (Value.func (Fn.func (20 : Nat)) #[] #[]); refine (goesDigitNo HI1.out he2 HY.out).mono ?_; rintro e2 W2 ⟨rfl, hI2⟩; have HI2 := Lib.hid hI2; clear hI2) | (go_at_call 21; refine (addWordNo HI2.out hs (by omega) he2 h8).mono ?_; rintro e3 W3 ⟨rfl, hI3⟩; have HI3 := Lib.hid hI3; clear hI3))
            simp only [ExitJumps]
            go_ret
            exact Or.inr ⟨rfl, HONE.out, HI3.out.below⟩
          · have HONE : Hid (one s k = some (e, ⟨1, s.extract k e, 0⟩)) := one_word hk (by rw [bt_in hk]; exact HL.out) HE.out (by omega)
            go_wp2_with (first | (go_at_call_of 16 (Value.func (Fn.func (19 : Nat)) #[] #[]); refine (goesLetterNo HI.out he2 HX.out).mono ?_; rintro e1 W1 ⟨rfl, hI1⟩; have HI1 := Lib.hid hI1; clear hI1) | (go_at_call_of 16 (Value.func (Fn.func (20 : Nat)) #[] #[]); refine (goesDigitNo HI1.out he2 HY.out).mono ?_; rintro e2 W2 ⟨rfl, hI2⟩; have HI2 := Lib.hid hI2; clear hI2) | (go_at_call 21; refine (addWordYes HI2.out hs (by omega) he2 hal (by omega)).mono ?_; rintro e3 W3 ⟨rfl, hI3⟩; have HI3 := Lib.hid hI3; clear hI3))
            simp only [ExitJumps]
            go_ret
            exact Or.inl ⟨rfl, e, _, HONE.out, HI3.out⟩
    | 1, hj =>
      obtain ⟨e, he1, he2, rfl, hsp, hnb, hl, hI⟩ := hj
      have HI : Hid (Inv w0 b s (k : Nat) (e : Nat) acc W') := hI
      have HSP : Hid (span digB s e = span digB s (k + 1)) := hsp
      have HNB : Hid (NumBegin s k) := hnb
      have HL : Hid (letB (bt s k) = false) := hl
      clear hI hsp hl hnb
      refine ⟨_, rfl, ?_⟩
      cases hed : digB (bt s e) with
      | true =>
        have HY : Hid (digB (bt s e) = true) := hed
        have het : e < s.size := lt_of_class hed digB_end
        have HST : Hid (span digB s (e + 1) = span digB s (k + 1)) := by show _ = _; rw [← HSP.out]; exact (span_go het hed).symm
        clear hed
        go_wp2_with (first | (go_at_call_of 16 (Value.func (Fn.func (20 : Nat)) #[] #[]); refine (goesDigitYes HI.out hs HY.out).mono ?_; rintro e2 W2 ⟨rfl, hI2⟩; have HI2 := Lib.hid hI2; clear hI2))
        go_step3
        exact ⟨_, by omega, ⟨_, _, _, _, _, _, _, _, _, _, _, _, _, _, _, _, _, _, _, _, _, _, _, _, _, _, _, _, _, _, _, _, _, _, _, _, _, _, _, _, _, _, _, _, _, _, _, _, _, _, _, _, _, _, _, _, _, _, _, _, _, _, _, _, _, _, _, _, _, _, rfl⟩, e + 1, by omega, by omega, rfl, HST.out, HNB.out, HL.out, HI2.out⟩
      | false =>
        have HY : Hid (digB (bt s e) = false) := hed
        have HE : Hid (span digB s (k + 1) = e) := by show _ = _; rw [← HSP.out]; exact span_stop (fun _ => hed)
        clear hed
        have HNUM : Hid (Numeral (s.extract k e)) := numeral_of hk HNB.out HE.out
        cases hv : numL (s.extract k e).data.toList with
        | none =>
          have HV : Hid (numL (s.extract k e).data.toList = none) := hv
          have HONE : Hid (one s k = none) := one_num_bad HL.out HNB.out HE.out hv
          clear hv
          go_wp2_with (first | (go_at_call_of 16 (Value.func (Fn.func (20 : Nat)) #[] #[]); refine (goesDigitNo HI.out he2 HY.out).mono ?_; rintro e2 W2 ⟨rfl, hI2⟩; have HI2 := Lib.hid hI2; clear hI2) | (go_at_call 22; refine (addNumberNone HG.out HEV.out HI2.out hs (by omega) he2 rfl HNUM.out HV.out).mono ?_; rintro e3 W3 ⟨rfl, hI3⟩; have HI3 := Lib.hid hI3; clear hI3))
          simp only [ExitJumps]
          go_ret
          exact Or.inr ⟨rfl, HONE.out, HI3.out.below⟩
        | some v =>
          have HV : Hid (numL (s.extract k e).data.toList = some v) := hv
          have HONE : Hid (one s k = some (e, ⟨2, s.extract k e, v⟩)) := one_num HL.out HNB.out HE.out hv
          clear hv
          go_wp2_with (first | (go_at_call_of 16 (Value.func (Fn.func (20 : Nat)) #[] #[]); refine (goesDigitNo HI.out he2 HY.out).mono ?_; rintro e2 W2 ⟨rfl, hI2⟩; have HI2 := Lib.hid hI2; clear hI2) | (go_at_call 22; refine (addNumberSome HI2.out hs (by omega) he2 hal rfl HNUM.out HV.out).mono ?_; rintro e3 W3 ⟨rfl, hI3⟩; have HI3 := Lib.hid hI3; clear hI3))
          simp only [ExitJumps]
          go_ret
          exact Or.inl ⟨rfl, e, _, HONE.out, HI3.out⟩
    | 2, hj =>
      obtain ⟨rfl, hb, hI⟩ := hj
      have HI : Hid (Inv w0 b s (k : Nat) ((k + 1 : Nat) : Int) acc W') := hI
      have HB : Hid (bt s k = 45) := hb
      clear hI hb
      refine ⟨_, rfl, ?_⟩
      cases hq : (bt s (k + 1) == 91) with
      | true =>
        have HQ : Hid ((bt s (k + 1) == 91) = true) := hq
        clear hq
        have HM : Hid (markLen s k = 2) := by
          have hb := HB.out
          have hqx := eq_of_beq HQ.out
          show markLen s k = 2
          unfold markLen
          simp only
          repeat' split
          all_goals omega
        have HD : Hid (digB (bt s (k + 1)) = false) := digB_no (by have := eq_of_beq HQ.out; omega)
        go_wp2_with (first | (go_at_call_of 14 (Value.int IntKind.u8 91); refine (takesYes (by omega) HI.out hs HQ.out).mono ?_; rintro e1 W1 ⟨rfl, hI1⟩; have HI1 := Lib.hid hI1; clear hI1))
        go_step3
        exact ⟨_, by omega, ⟨_, _, _, _, _, _, _, _, _, _, _, _, _, _, _, _, _, _, _, _, _, _, _, _, _, _, _, _, _, _, _, _, _, _, _, _, _, _, _, _, _, _, _, _, _, _, _, _, _, _, _, _, _, _, _, _, _, _, _, _, _, _, _, _, _, _, _, _, _, _, rfl⟩, rfl, letB_no (by have := HB.out; omega), not_num (by have := HB.out; omega) (Or.inr HD.out), by rw [HM.out]; omega, by rw [HM.out]; exact HI1.out⟩
      | false =>
        have HQ : Hid ((bt s (k + 1) == 91) = false) := hq
        clear hq
        cases hed : digB (bt s (k + 1)) with
        | true =>
          have HY : Hid (digB (bt s (k + 1)) = true) := hed
          have het : k + 1 < s.size := lt_of_class hed digB_end
          have HST : Hid (span digB s (k + 1 + 1) = span digB s (k + 1)) := (span_go het hed).symm
          clear hed
          go_wp2_with (first | (go_at_call_of 14 (Value.int IntKind.u8 91); refine (takesNo HI.out (by omega) HQ.out).mono ?_; rintro e1 W1 ⟨rfl, hI1⟩; have HI1 := Lib.hid hI1; clear hI1) | (go_at_call_of 16 (Value.func (Fn.func (20 : Nat)) #[] #[]); refine (goesDigitYes HI1.out hs HY.out).mono ?_; rintro e2 W2 ⟨rfl, hI2⟩; have HI2 := Lib.hid hI2; clear hI2))
          go_step3
          exact ⟨_, by omega, ⟨_, _, _, _, _, _, _, _, _, _, _, _, _, _, _, _, _, _, _, _, _, _, _, _, _, _, _, _, _, _, _, _, _, _, _, _, _, _, _, _, _, _, _, _, _, _, _, _, _, _, _, _, _, _, _, _, _, _, _, _, _, _, _, _, _, _, _, _, _, _, rfl⟩, k + 1 + 1, by omega, by omega, rfl, HST.out, Or.inr ⟨HB.out, HY.out⟩, letB_no (by have := HB.out; omega), HI2.out⟩
        | false =>
          have HY : Hid (digB (bt s (k + 1)) = false) := hed
          clear hed
          have HONE : Hid (one s k = none) := by
            have hb := HB.out
            have hqx := ne_of_beq_false HQ.out
            refine one_mark_bad (letB_no (by omega)) (not_num (by omega) (Or.inr HY.out)) ?_
            unfold markLen
            simp only
            repeat' split
            all_goals omega
          go_wp2_with (first | (go_at_call_of 14 (Value.int IntKind.u8 91); refine (takesNo HI.out (by omega) HQ.out).mono ?_; rintro e1 W1 ⟨rfl, hI1⟩; have HI1 := Lib.hid hI1; clear hI1) | (go_at_call_of 16 (Value.func (Fn.func (20 : Nat)) #[] #[]); refine (goesDigitNo HI1.out (by omega) HY.out).mono ?_; rintro e2 W2 ⟨rfl, hI2⟩; have HI2 := Lib.hid hI2; clear hI2))
          simp only [ExitJumps]
          go_ret
          exact Or.inr ⟨rfl, HONE.out, HI2.out.below⟩
    | 3, hj =>
      obtain ⟨rfl, hb, hI⟩ := hj
      have HI : Hid (Inv w0 b s (k : Nat) ((k + 1 : Nat) : Int) acc W') := hI
      have HB : Hid (bt s k = 93) := hb
      clear hI hb
      refine ⟨_, rfl, ?_⟩
      cases hq : (bt s (k + 1) == 45) with
      | true =>
        have HQ : Hid ((bt s (k + 1) == 45) = true) := hq
        clear hq
        have het : k + 1 < s.size := bt_lt (by have := eq_of_beq HQ.out; omega)
        cases hr : (bt s (k + 1 + 1) == 62) with
        | true =>
          have HR : Hid ((bt s (k + 1 + 1) == 62) = true) := hr
          clear hr
          have HM : Hid (markLen s k = 3) := by
            have hb := HB.out
            have hqx := eq_of_beq HQ.out
            have hrx : bt s (k + 2) = 62 := eq_of_beq HR.out
            show markLen s k = 3
            unfold markLen
            simp only
            repeat' split
            all_goals omega
          go_wp2_with (first | (go_at_call_of 14 (Value.int IntKind.u8 45); refine (takesYes (by omega) HI.out hs HQ.out).mono ?_; rintro e1 W1 ⟨rfl, hI1⟩; have HI1 := Lib.hid hI1; clear hI1) | (go_at_call_of 14 (Value.int IntKind.u8 62); refine (takesYes (by omega) HI1.out hs HR.out).mono ?_; rintro e2 W2 ⟨rfl, hI2⟩; have HI2 := Lib.hid hI2; clear hI2))
          go_step3
          exact ⟨_, by omega, ⟨_, _, _, _, _, _, _, _, _, _, _, _, _, _, _, _, _, _, _, _, _, _, _, _, _, _, _, _, _, _, _, _, _, _, _, _, _, _, _, _, _, _, _, _, _, _, _, _, _, _, _, _, _, _, _, _, _, _, _, _, _, _, _, _, _, _, _, _, _, _, rfl⟩, rfl, letB_no (by have := HB.out; omega), not_num (by have := HB.out; omega) (Or.inl (by have := HB.out; omega)), by rw [HM.out]; omega, by rw [HM.out]; exact HI2.out⟩
        | false =>
          have HR : Hid ((bt s (k + 1 + 1) == 62) = false) := hr
          clear hr
          have HONE : Hid (one s k = none) := by
            have hb := HB.out
            have hqx := eq_of_beq HQ.out
            have hrx : bt s (k + 2) ≠ 62 := ne_of_beq_false HR.out
            refine one_mark_bad (letB_no (by omega)) (not_num (by omega) (Or.inl (by omega))) ?_
            unfold markLen
            simp only
            repeat' split
            all_goals omega
          go_wp2_with (first | (go_at_call_of 14 (Value.int IntKind.u8 45); refine (takesYes (by omega) HI.out hs HQ.out).mono ?_; rintro e1 W1 ⟨rfl, hI1⟩; have HI1 := Lib.hid hI1; clear hI1) | (go_at_call_of 14 (Value.int IntKind.u8 62); refine (takesNo HI1.out (by omega) HR.out).mono ?_; rintro e2 W2 ⟨rfl, hI2⟩; have HI2 := Lib.hid hI2; clear hI2))
          simp only [ExitJumps]
          go_ret
          exact Or.inr ⟨rfl, HONE.out, HI2.out.below⟩
      | false =>
        have HQ : Hid ((bt s (k + 1) == 45) = false) := hq
        clear hq
        have HONE : Hid (one s k = none) := by
          have hb := HB.out
          have hqx := ne_of_beq_false HQ.out
          refine one_mark_bad (letB_no (by omega)) (not_num (by omega) (Or.inl (by omega))) ?_
          unfold markLen
          simp only
          repeat' split
          all_goals omega
        go_wp2_with (first | (go_at_call_of 14 (Value.int IntKind.u8 45); refine (takesNo HI.out (by omega) HQ.out).mono ?_; rintro e1 W1 ⟨rfl, hI1⟩; have HI1 := Lib.hid hI1; clear hI1))
        simp only [ExitJumps]
        go_ret
        exact Or.inr ⟨rfl, HONE.out, HI1.out.below⟩
    | 4, hj =>
      obtain ⟨rfl, hb, hI⟩ := hj
      have HI : Hid (Inv w0 b s (k : Nat) ((k + 1 : Nat) : Int) acc W') := hI
      have HB : Hid (bt s k = 46) := hb
      clear hI hb
      refine ⟨_, rfl, ?_⟩
      cases hq : (bt s (k + 1) == 46) with
      | true =>
        have HQ : Hid ((bt s (k + 1) == 46) = true) := hq
        clear hq
        have HM : Hid (markLen s k = 2) := by
          have hb := HB.out
          have hqx := eq_of_beq HQ.out
          show markLen s k = 2
          unfold markLen
          simp only
          repeat' split
          all_goals omega
        go_wp2_with (first | (go_at_call_of 14 (Value.int IntKind.u8 46); refine (takesYes (by omega) HI.out hs HQ.out).mono ?_; rintro e1 W1 ⟨rfl, hI1⟩; have HI1 := Lib.hid hI1; clear hI1))
        go_step3
        exact ⟨_, by omega, ⟨_, _, _, _, _, _, _, _, _, _, _, _, _, _, _, _, _, _, _, _, _, _, _, _, _, _, _, _, _, _, _, _, _, _, _, _, _, _, _, _, _, _, _, _, _, _, _, _, _, _, _, _, _, _, _, _, _, _, _, _, _, _, _, _, _, _, _, _, _, _, rfl⟩, rfl, letB_no (by have := HB.out; omega), not_num (by have := HB.out; omega) (Or.inl (by have := HB.out; omega)), by rw [HM.out]; omega, by rw [HM.out]; exact HI1.out⟩
      | false =>
        have HQ : Hid ((bt s (k + 1) == 46) = false) := hq
        clear hq
        have HM : Hid (markLen s k = 1) := by
          have hb := HB.out
          have hqx := ne_of_beq_false HQ.out
          show markLen s k = 1
          unfold markLen
          simp only
          repeat' split
          all_goals omega
        go_wp2_with (first | (go_at_call_of 14 (Value.int IntKind.u8 46); refine (takesNo HI.out (by omega) HQ.out).mono ?_; rintro e1 W1 ⟨rfl, hI1⟩; have HI1 := Lib.hid hI1; clear hI1))
        go_step3
        exact ⟨_, by omega, ⟨_, _, _, _, _, _, _, _, _, _, _, _, _, _, _, _, _, _, _, _, _, _, _, _, _, _, _, _, _, _, _, _, _, _, _, _, _, _, _, _, _, _, _, _, _, _, _, _, _, _, _, _, _, _, _, _, _, _, _, _, _, _, _, _, _, _, _, _, _, _, rfl⟩, rfl, letB_no (by have := HB.out; omega), not_num (by have := HB.out; omega) (Or.inl (by have := HB.out; omega)), by rw [HM.out]; omega, by rw [HM.out]; exact HI1.out⟩
    | 5, hj =>
      obtain ⟨rfl, hb, hI⟩ := hj
      have HI : Hid (Inv w0 b s (k : Nat) ((k + 1 : Nat) : Int) acc W') := hI
      have HB : Hid (bt s k = 60) := hb
      clear hI hb
      refine ⟨_, rfl, ?_⟩
      cases hq : (bt s (k + 1) == 62) with
      | true =>
        have HQ : Hid ((bt s (k + 1) == 62) = true) := hq
        clear hq
        have HM : Hid (markLen s k = 2) := by
          have hb := HB.out
          have hqx := eq_of_beq HQ.out
          show markLen s k = 2
          unfold markLen
          simp only
          repeat' split
          all_goals omega
        go_wp2_with (first | (go_at_call_of 14 (Value.int IntKind.u8 62); refine (takesYes (by omega) HI.out hs HQ.out).mono ?_; rintro e1 W1 ⟨rfl, hI1⟩; have HI1 := Lib.hid hI1; clear hI1))
        go_step3
        exact ⟨_, by omega, ⟨_, _, _, _, _, _, _, _, _, _, _, _, _, _, _, _, _, _, _, _, _, _, _, _, _, _, _, _, _, _, _, _, _, _, _, _, _, _, _, _, _, _, _, _, _, _, _, _, _, _, _, _, _, _, _, _, _, _, _, _, _, _, _, _, _, _, _, _, _, _, rfl⟩, rfl, letB_no (by have := HB.out; omega), not_num (by have := HB.out; omega) (Or.inl (by have := HB.out; omega)), by rw [HM.out]; omega, by rw [HM.out]; exact HI1.out⟩
      | false =>
        have HQ : Hid ((bt s (k + 1) == 62) = false) := hq
        clear hq
        go_wp2_with (first | (go_at_call_of 14 (Value.int IntKind.u8 62); refine (takesNo HI.out (by omega) HQ.out).mono ?_; rintro e1 W1 ⟨rfl, hI1⟩; have HI1 := Lib.hid hI1; clear hI1))
        go_step3
        exact ⟨_, by omega, ⟨_, _, _, _, _, _, _, _, _, _, _, _, _, _, _, _, _, _, _, _, _, _, _, _, _, _, _, _, _, _, _, _, _, _, _, _, _, _, _, _, _, _, _, _, _, _, _, _, _, _, _, _, _, _, _, _, _, _, _, _, _, _, _, _, _, _, _, _, _, _, rfl⟩, rfl, Or.inr ⟨HB.out, ne_of_beq_false HQ.out⟩, HI1.out⟩
    | 6, hj =>
      obtain ⟨rfl, hb, hI⟩ := hj
      have HI : Hid (Inv w0 b s (k : Nat) ((k + 1 : Nat) : Int) acc W') := hI
      have HB : Hid (bt s k = 62 ∨ (bt s k = 60 ∧ bt s (k + 1) ≠ 62)) := hb
      clear hI hb
      refine ⟨_, rfl, ?_⟩
      cases hq : (bt s (k + 1) == 61) with
      | true =>
        have HQ : Hid ((bt s (k + 1) == 61) = true) := hq
        clear hq
        have HM : Hid (markLen s k = 2) := by
          have hb := HB.out
          have hqx := eq_of_beq HQ.out
          show markLen s k = 2
          unfold markLen
          simp only
          repeat' split
          all_goals omega
        go_wp2_with (first | (go_at_call_of 14 (Value.int IntKind.u8 61); refine (takesYes (by omega) HI.out hs HQ.out).mono ?_; rintro e1 W1 ⟨rfl, hI1⟩; have HI1 := Lib.hid hI1; clear hI1))
        go_step3
        exact ⟨_, by omega, ⟨_, _, _, _, _, _, _, _, _, _, _, _, _, _, _, _, _, _, _, _, _, _, _, _, _, _, _, _, _, _, _, _, _, _, _, _, _, _, _, _, _, _, _, _, _, _, _, _, _, _, _, _, _, _, _, _, _, _, _, _, _, _, _, _, _, _, _, _, _, _, rfl⟩, rfl, letB_no (by have := HB.out; omega), not_num (by have := HB.out; omega) (Or.inl (by have := HB.out; omega)), by rw [HM.out]; omega, by rw [HM.out]; exact HI1.out⟩
      | false =>
        have HQ : Hid ((bt s (k + 1) == 61) = false) := hq
        clear hq
        have HM : Hid (markLen s k = 1) := by
          have hb := HB.out
          have hqx := ne_of_beq_false HQ.out
          show markLen s k = 1
          unfold markLen
          simp only
          repeat' split
          all_goals omega
        go_wp2_with (first | (go_at_call_of 14 (Value.int IntKind.u8 61); refine (takesNo HI.out (by omega) HQ.out).mono ?_; rintro e1 W1 ⟨rfl, hI1⟩; have HI1 := Lib.hid hI1; clear hI1))
        go_step3
        exact ⟨_, by omega, ⟨_, _, _, _, _, _, _, _, _, _, _, _, _, _, _, _, _, _, _, _, _, _, _, _, _, _, _, _, _, _, _, _, _, _, _, _, _, _, _, _, _, _, _, _, _, _, _, _, _, _, _, _, _, _, _, _, _, _, _, _, _, _, _, _, _, _, _, _, _, _, rfl⟩, rfl, letB_no (by have := HB.out; omega), not_num (by have := HB.out; omega) (Or.inl (by have := HB.out; omega)), by rw [HM.out]; omega, by rw [HM.out]; exact HI1.out⟩
    | 7, hj =>
      obtain ⟨rfl, h1, h2, hm3, hI⟩ := hj
      have HI : Hid (Inv w0 b s (k : Nat) ((k + markLen s k : Nat) : Int) acc W') := hI
      clear hI
      have hml := markLen_le hk
      refine ⟨_, rfl, ?_⟩
      go_wp2_with (go_at_call 23; refine (add 3 0 HI.out hs (by omega) (by omega) hal).mono ?_; rintro e W3 ⟨rfl, h3⟩)
      simp only [ExitJumps]
      go_ret
      exact Or.inl ⟨rfl, _, _, one_mark h1 h2 hm3, h3⟩
    | x + 8, hj => exact hj.elim

end Go.Proofs.YtobgbmfpicmpcaaDoor
