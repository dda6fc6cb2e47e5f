/- The reference's Tokens answers the plain specification's tokens in memory of its own. -/
import Derived.Test.YtobgbmfpicmpcaaDoorRefNum
import Derived.Test.YtobgbmfpicmpcaaDoorRefMark
import Derived.Test.YtobgbmfpicmpcaaDoorOwn
import Derived.Lib.Hide
namespace Go.Proofs.YtobgbmfpicmpcaaDoor
open Go.RowKit

theorem refNumber (t : ByteArray) (w : World) (hs : t.size ≤ maxLen) (h : Numeral t) :
    Calls Tryd.prog 12 #[.string t] w fun e w' => e = .returned (numEnd (numL t.data.toList)) ∧ w' = w := by
  rcases h with ⟨h0, hd⟩ | ⟨h1, h45, hd⟩
  · exact refNumberPlain t w hs h0 hd
  · exact refNumberSign t w hs (by omega) h1 h45 hd
theorem refNumberSome (t : ByteArray) (w : World) (v : Int) (hs : t.size ≤ maxLen) (h : Numeral t) (hv : numL t.data.toList = some v) :
    Calls Tryd.prog 12 #[.string t] w fun e w' => e = .returned (.tuple #[.int .i64 v, .bool true]) ∧ w' = w := by
  have := refNumber t w hs h
  rw [hv] at this; exact this
theorem refNumberNone (t : ByteArray) (w : World) (hs : t.size ≤ maxLen) (h : Numeral t) (hv : numL t.data.toList = none) :
    Calls Tryd.prog 12 #[.string t] w fun e w' => e = .returned (.tuple #[.int .i64 0, .bool false]) ∧ w' = w := by
  have := refNumber t w hs h
  rw [hv] at this; exact this

theorem refMarkAt (s : ByteArray) (k : Nat) (h : k < s.size) (w : World) :
    Calls Tryd.prog 13 #[.string (s.extract k s.size)] w fun e w' => e = .returned (.string (s.extract k (k + markLen s k))) ∧ Below w.heap.size w w' := by
  have := refMark (s.extract k s.size) w
  rw [mark_text s k h] at this; exact this

set_option maxRecDepth 100000 in
set_option maxHeartbeats 2000000 in
theorem refTokens (s : ByteArray) (w : World) (h2000 : s.size ≤ 2000) :
    Calls Tryd.prog 5 #[.string s] w (TokPost s w) := by
  obtain ⟨i0, hi, hz0, hz1, hz2⟩ := info_parts Tryd.info27
  go_enter Tryd.func5, Tryd.ntmps5
  go_wp2
  go_loopw [4, 5] (fun v i wr => ∃ k acc, k ≤ s.size ∧ i = .int .i64 (k : Nat) ∧ Sofar s k acc ∧ acc.length ≤ k ∧ Below w.heap.size w wr ∧ wr.ownsRow w.heap.size 27 3 v acc.length (tokCells acc)) (fun _ i _ => s.size - (intOf i).toNat)
  case atStart => exact ⟨0, [], by omega, rfl, sofar_start s, by simp, Below.refl _ _, World.ownsRow_nil _ _ _ _⟩
  case round =>
    obtain ⟨k, acc, hk, rfl, hsf, hal, hB, hown⟩ := hrel
    have HSF : Hid (Sofar s k acc) := hsf
    have HB : Hid (Below w.heap.size w wr) := hB
    have hsz := hB.size
    clear hsf hB
    by_cases hlt : k < s.size
    · by_cases h32 : ((s[k]'hlt).toNat : Int) = 32
      · have hb : (((s[k]'hlt).toNat : Int) == 32) = true := by simp [h32]
        have HBL : Hid (bt s k = 32) := by rw [← bt_in hlt]; exact h32
        clear h32
        go_wp2
        go_roundw
        case rel => exact ⟨k + 1, acc, by omega, by go_num, HSF.out.blank hlt HBL.out, by omega, HB.out, hown⟩
        case measure => simp [intOf]; omega
      · have hb : (((s[k]'hlt).toNat : Int) == 32) = false := by simp [h32]
        have HNB : Hid (bt s k ≠ 32) := by rw [← bt_in hlt]; exact h32
        clear h32
        by_cases hl : letB ((s[k]'hlt).toNat : Int) = true
        · go_wp2_with (go_at_call 10; refine (refLetter _ _).mono ?_; rintro e w' ⟨rfl, rfl⟩)
          rename_i w1
          go_loop [7] (fun i => ∃ e : Nat, k ≤ e ∧ e ≤ s.size ∧ i = .int .i64 e ∧ span alnB s e = span alnB s k) (fun i => s.size - (intOf i).toNat)
          case atStart => exact ⟨k, Nat.le_refl _, by omega, rfl, rfl⟩
          case round =>
            obtain ⟨e, he1, he2, rfl, hsp⟩ := hrel
            have HSP : Hid (span alnB s e = span alnB s k) := hsp
            clear hsp
            by_cases hgo : ∃ h : e < s.size, letB ((s[e]'h).toNat : Int) = true ∨ digB ((s[e]'h).toNat : Int) = true
            · obtain ⟨het, hgo⟩ := hgo
              have HST : Hid (span alnB s (e + 1) = span alnB s k) := span_step het (by unfold alnB; rcases hgo with h | h <;> rw [h] <;> simp) HSP.out
              by_cases hel : letB ((s[e]'het).toNat : Int) = true
              · clear hgo
                go_wp2_with (go_at_call 10; refine (refLetter _ _).mono ?_; rintro e w' ⟨rfl, rfl⟩)
                go_round
                case rel => exact ⟨e + 1, by omega, by omega, by go_num, HST.out⟩
                case measure => simp [intOf]; omega
              · have hed : digB ((s[e]'het).toNat : Int) = true := by rcases hgo with h | h; exact absurd h hel; exact h
                have hel' : letB ((s[e]'het).toNat : Int) = false := by simpa using hel
                clear hgo hel
                go_wp2_with (first | (go_at_call 10; refine (refLetter _ _).mono ?_; rintro e w' ⟨rfl, rfl⟩) | (go_at_call 11; refine (refDigit _ _).mono ?_; rintro e w' ⟨rfl, rfl⟩))
                go_round
                case rel => exact ⟨e + 1, by omega, by omega, by go_num, HST.out⟩
                case measure => simp [intOf]; omega
            · have HE : Hid (span alnB s k = e) := span_here (fun h => by
                unfold alnB
                cases h1 : letB ((s[e]'h).toNat : Int) with
                | true => exact absurd ⟨h, Or.inl h1⟩ hgo
                | false => cases h2 : digB ((s[e]'h).toNat : Int) with
                  | true => exact absurd ⟨h, Or.inr h2⟩ hgo
                  | false => rfl) HSP.out
              have hend : ∀ h : e < s.size, letB ((s[e]'h).toNat : Int) = false ∧ digB ((s[e]'h).toNat : Int) = false := by
                intro h
                refine ⟨?_, ?_⟩
                · cases h1 : letB ((s[e]'h).toNat : Int) with
                  | true => exact absurd ⟨_, Or.inl h1⟩ hgo
                  | false => rfl
                · cases h1 : digB ((s[e]'h).toNat : Int) with
                  | true => exact absurd ⟨_, Or.inr h1⟩ hgo
                  | false => rfl
              have HEND : Hid (∀ h : e < s.size, letB ((s[e]'h).toNat : Int) = false ∧ digB ((s[e]'h).toNat : Int) = false) := hend
              clear hgo hend
              have hdone : (∃ h : e < s.size, letB ((s[e]'h).toNat : Int) = false ∧ digB ((s[e]'h).toNat : Int) = false) ∨ ¬ e < s.size := by
                by_cases h : e < s.size
                · exact Or.inl ⟨h, HEND.out h⟩
                · exact Or.inr h
              by_cases h8 : 8 < e - k
              · have HONE : Hid (one s k = none) := one_word_bad hlt hl HE.out h8
                rcases hdone with ⟨het, hx1, hx2⟩ | het
                all_goals
                  go_wp2_with (first | (go_at_call 10; refine (refLetter _ _).mono ?_; rintro e w' ⟨rfl, rfl⟩) | (go_at_call 11; refine (refDigit _ _).mono ?_; rintro e w' ⟨rfl, rfl⟩))
                  go_ret2
                  exact ⟨HB.out, Or.inl ⟨toks_none h2000 (HSF.out.bad hlt HNB.out HONE.out), rfl⟩⟩
              · have HONE : Hid (one s k = some (e, ⟨1, s.extract k e, 0⟩)) := one_word hlt hl HE.out (by omega)
                have hne : k < e := (one_next HONE.out hlt).1
                rcases hdone with ⟨het, hx1, hx2⟩ | het
                all_goals
                  go_wp2_with (first | (go_at_call 10; refine (refLetter _ _).mono ?_; rintro e w' ⟨rfl, rfl⟩) | (go_at_call 11; refine (refDigit _ _).mono ?_; rintro e w' ⟨rfl, rfl⟩) | (at_builtin; refine wpList_append_own _ rfl _ _ 22 rfl w.heap.size 27 i0 (.agg #[.int .i64 0, .string ⟨#[]⟩, .int .i64 0]) 3 32 Tryd.underlying22 hi hz0 hz1 hz2 rfl (by decide) _ _ _ rfl (hown.alloc _) _ 1 1 [.int .i64 1, .string (s.extract k e), .int .i64 0] rfl rfl three_cells three_one (by unfold maxLen; omega) (by omega) (by simp; omega) ?_; intro v' w2 hown' hgrow _))
                  have R := rel_append HB.out (Nat.le_refl _) hown hown' hgrow
                  clear hown' hgrow hown
                  go_wp2
                  go_roundw
                  case rel => exact ⟨e, _, by omega, by go_num, HSF.out.tok hlt HNB.out HONE.out, by simp; omega, R.1, R.2⟩
                  case measure => simp [intOf]; omega
        · have hl0 : letB ((s[k]'hlt).toNat : Int) = false := by simpa using hl
          have HL : Hid (letB (bt s k) = false) := by rw [← bt_in hlt]; exact hl0
          clear hl
          by_cases hnb : NumBegin s k
          · have HNB2 : Hid (NumBegin s k) := hnb
            have hsplit : digB ((s[k]'hlt).toNat : Int) = true ∨ (digB ((s[k]'hlt).toNat : Int) = false ∧ (((s[k]'hlt).toNat : Int) == 45) = true ∧ ∃ h : k + 1 < s.size, digB ((s[k + 1]'h).toNat : Int) = true) := by
              rw [bt_in hlt]
              rcases hnb with h | ⟨h1, h2⟩
              · exact Or.inl h
              · have h3 : k + 1 < s.size := bt_lt (by have := of_digB h2; omega)
                refine Or.inr ⟨digB_no (by omega), by rw [h1]; rfl, h3, ?_⟩
                rw [bt_in h3]; exact h2
            clear hnb
            rcases hsplit with hd | ⟨hd, h45, hk1, hd1⟩
            all_goals
              go_wp2_with (first | (go_at_call 10; refine (refLetter _ _).mono ?_; rintro e w' ⟨rfl, rfl⟩) | (go_at_call 11; refine (refDigit _ _).mono ?_; rintro e w' ⟨rfl, rfl⟩))
              go_loop [7] (fun i => ∃ e : Nat, k + 1 ≤ e ∧ e ≤ s.size ∧ i = .int .i64 e ∧ span digB s e = span digB s (k + 1)) (fun i => s.size - (intOf i).toNat)
              case atStart => exact ⟨k + 1, Nat.le_refl _, by omega, by go_num, rfl⟩
              case round =>
                obtain ⟨e, he1, he2, rfl, hsp⟩ := hrel
                have HSP : Hid (span digB s e = span digB s (k + 1)) := hsp
                clear hsp
                by_cases hgo : ∃ h : e < s.size, digB ((s[e]'h).toNat : Int) = true
                · obtain ⟨het, hgo⟩ := hgo
                  have HST : Hid (span digB s (e + 1) = span digB s (k + 1)) := span_step het hgo HSP.out
                  go_wp2_with (first | (go_at_call 10; refine (refLetter _ _).mono ?_; rintro e w' ⟨rfl, rfl⟩) | (go_at_call 11; refine (refDigit _ _).mono ?_; rintro e w' ⟨rfl, rfl⟩))
                  go_round
                  case rel => exact ⟨e + 1, by omega, by omega, by go_num, HST.out⟩
                  case measure => simp [intOf]; omega
                · have HE : Hid (span digB s (k + 1) = e) := span_here (fun h => by
                    cases h1 : digB ((s[e]'h).toNat : Int) with
                    | true => exact absurd ⟨h, h1⟩ hgo
                    | false => rfl) HSP.out
                  have hdone : (∃ h : e < s.size, digB ((s[e]'h).toNat : Int) = false) ∨ ¬ e < s.size := by
                    by_cases h : e < s.size
                    · left; refine ⟨h, ?_⟩
                      cases h1 : digB ((s[e]'h).toNat : Int) with
                      | true => exact absurd ⟨h, h1⟩ hgo
                      | false => rfl
                    · exact Or.inr h
                  clear hgo
                  have HNUM : Hid (Numeral (s.extract k e)) := numeral_of hlt HNB2.out HE.out
                  have hxz := size_extract' s k e he2
                  have HXZ : Hid ((s.extract k e).size ≤ maxLen) := by show _ ≤ maxLen; rw [hxz]; unfold maxLen; omega
                  clear hxz
                  cases hv : numL (s.extract k e).data.toList with
                  | none =>
                    have HV : Hid (numL (s.extract k e).data.toList = none) := hv
                    clear hv
                    have HONE : Hid (one s k = none) := one_num_bad HL.out HNB2.out HE.out HV.out
                    rcases hdone with ⟨het, hx1⟩ | het
                    all_goals
                      go_wp2_with (first | (go_at_call 10; refine (refLetter _ _).mono ?_; rintro e w' ⟨rfl, rfl⟩) | (go_at_call 11; refine (refDigit _ _).mono ?_; rintro e w' ⟨rfl, rfl⟩) | (go_at_call 12; refine (refNumberNone _ _ HXZ.out HNUM.out HV.out).mono ?_; rintro e w' ⟨rfl, rfl⟩))
                      go_ret2
                      exact ⟨HB.out, Or.inl ⟨toks_none h2000 (HSF.out.bad hlt HNB.out HONE.out), rfl⟩⟩
                  | some v =>
                    have HV : Hid (numL (s.extract k e).data.toList = some v) := hv
                    clear hv
                    have HONE : Hid (one s k = some (e, ⟨2, s.extract k e, v⟩)) := one_num HL.out HNB2.out HE.out HV.out
                    rcases hdone with ⟨het, hx1⟩ | het
                    all_goals
                      go_wp2_with (first | (go_at_call 10; refine (refLetter _ _).mono ?_; rintro e w' ⟨rfl, rfl⟩) | (go_at_call 11; refine (refDigit _ _).mono ?_; rintro e w' ⟨rfl, rfl⟩) | (go_at_call 12; refine (refNumberSome _ _ v HXZ.out HNUM.out HV.out).mono ?_; rintro e w' ⟨rfl, rfl⟩) | (at_builtin; refine wpList_append_own _ rfl _ _ 22 rfl w.heap.size 27 i0 (.agg #[.int .i64 0, .string ⟨#[]⟩, .int .i64 0]) 3 32 Tryd.underlying22 hi hz0 hz1 hz2 rfl (by decide) _ _ _ rfl (hown.alloc _) _ 1 1 [.int .i64 2, .string (s.extract k e), .int .i64 v] rfl rfl three_cells three_one (by unfold maxLen; omega) (by omega) (by simp; omega) ?_; intro v' w2 hown' hgrow _))
                      have R := rel_append HB.out (Nat.le_refl _) hown hown' hgrow
                      clear hown' hgrow hown
                      go_wp2
                      go_roundw
                      case rel => exact ⟨e, _, by omega, by go_num, HSF.out.tok hlt HNB.out HONE.out, by simp; omega, R.1, R.2⟩
                      case measure => simp [intOf]; omega
          · have HNB2 : Hid (¬ NumBegin s k) := hnb
            have hsplit : digB ((s[k]'hlt).toNat : Int) = false ∧ ((((s[k]'hlt).toNat : Int) == 45) = false ∨ ((((s[k]'hlt).toNat : Int) == 45) = true ∧ ((∃ h : k + 1 < s.size, digB ((s[k + 1]'h).toNat : Int) = false) ∨ ¬ k + 1 < s.size))) := by
              have h0 : digB ((s[k]'hlt).toNat : Int) = false := by
                cases h1 : digB ((s[k]'hlt).toNat : Int) with
                | true => exact absurd (Or.inl (by rw [← bt_in hlt]; exact h1)) hnb
                | false => rfl
              refine ⟨h0, ?_⟩
              by_cases h45 : ((s[k]'hlt).toNat : Int) = 45
              · refine Or.inr ⟨by rw [h45]; rfl, ?_⟩
                by_cases h1 : k + 1 < s.size
                · left; refine ⟨h1, ?_⟩
                  cases h2 : digB ((s[k + 1]'h1).toNat : Int) with
                  | true => exact absurd (Or.inr ⟨by rw [← bt_in hlt]; exact h45, by rw [← bt_in h1]; exact h2⟩) hnb
                  | false => rfl
                · exact Or.inr h1
              · exact Or.inl (by simpa using h45)
            clear hnb
            have hml := markLen_le hlt
            have HZM : Hid ((s.extract k (k + markLen s k)).size = markLen s k) := by show _ = _; rw [size_extract' s k _ hml]; omega
            obtain ⟨hd, hsplit⟩ := hsplit
            by_cases hm0 : markLen s k = 0
            · have HONE : Hid (one s k = none) := one_mark_bad HL.out HNB2.out hm0
              rcases hsplit with h45 | ⟨h45, ⟨h1, hd1⟩ | h1⟩
              all_goals
                go_wp2_with (first | (go_at_call 10; refine (refLetter _ _).mono ?_; rintro e w' ⟨rfl, rfl⟩) | (go_at_call 11; refine (refDigit _ _).mono ?_; rintro e w' ⟨rfl, rfl⟩) | (go_at_call 13; refine (refMarkAt s k hlt _).mono ?_; rintro e w2 ⟨rfl, hb2⟩))
                go_ret2
                exact ⟨HB.out.trans (hb2.mono hsz), Or.inl ⟨toks_none h2000 (HSF.out.bad hlt HNB.out HONE.out), rfl⟩⟩
            · have HONE : Hid (one s k = some (k + markLen s k, ⟨3, s.extract k (k + markLen s k), 0⟩)) := one_mark HL.out HNB2.out (by omega)
              obtain ⟨n, hn⟩ : ∃ n, n = markLen s k := ⟨_, rfl⟩
              rw [← hn] at hml HZM HONE hm0
              obtain ⟨m, hm⟩ : ∃ m, m = s.extract k (k + n) := ⟨_, rfl⟩
              rw [← hm] at HZM HONE
              have hmz : m.size ≤ n ∧ n ≤ m.size := by have := HZM.out; omega
              have hme : m.toList.isEmpty = false := by
                rw [ByteArray.toList_eq]
                cases hx : m.data.toList with
                | nil =>
                  have := len_toList m
                  rw [hx, List.length_nil] at this
                  omega
                | cons _ _ => rfl
              have hM : ∀ W : World, Calls Tryd.prog 13 #[.string (s.extract k s.size)] W fun e w' => e = .returned (.string m) ∧ Below W.heap.size W w' := fun W => by rw [hm, hn]; exact refMarkAt s k hlt W
              have HMC := Lib.hid hM
              clear hM hm hn
              rcases hsplit with h45 | ⟨h45, ⟨h1, hd1⟩ | h1⟩
              all_goals
                go_wp2_with (first | (go_at_call 10; refine (refLetter _ _).mono ?_; rintro e w' ⟨rfl, rfl⟩) | (go_at_call 11; refine (refDigit _ _).mono ?_; rintro e w' ⟨rfl, rfl⟩) | (go_at_call 13; refine (HMC.out _).mono ?_; rintro e w2 ⟨rfl, hb2⟩; have hb2s := hb2.size) | (at_builtin; refine wpList_append_own _ rfl _ _ 22 rfl w.heap.size 27 i0 (.agg #[.int .i64 0, .string ⟨#[]⟩, .int .i64 0]) 3 32 Tryd.underlying22 hi hz0 hz1 hz2 rfl (by decide) _ _ _ rfl ((own_below hown hb2).alloc _) _ 1 1 [.int .i64 3, .string m, .int .i64 0] rfl rfl three_cells three_one (by unfold maxLen; omega) (by omega) (by simp; omega) ?_; intro v' w3 hown' hgrow _))
                have R := rel_append (HB.out.trans (hb2.mono hsz)) (Nat.le_refl _) (own_below hown hb2) hown' hgrow
                clear hown' hgrow hown hb2
                go_wp2
                go_roundw
                case rel => exact ⟨k + n, _, by omega, by go_num, HSF.out.tok hlt HNB.out HONE.out, by simp; omega, R.1, R.2⟩
                case measure => simp [intOf]; omega
    · go_wp2
      go_ret2
      exact ⟨HB.out, Or.inr ⟨acc, _, toks_some h2000 (HSF.out.fin hlt), rfl, hown⟩⟩

set_option maxRecDepth 100000 in
set_option maxHeartbeats 1000000 in
theorem refTokensLong (s : ByteArray) (w : World) (hs : s.size ≤ maxLen) (h2000 : 2000 < s.size) :
    Calls Tryd.prog 5 #[.string s] w (TokPost s w) := by
  unfold maxLen at hs
  go_enter Tryd.func5, Tryd.ntmps5
  go_wp2
  go_ret2
  exact ⟨Below.refl _ _, Or.inl ⟨by unfold toks; rw [if_pos h2000], rfl⟩⟩

/-- The reference's Tokens, of every text. -/
theorem refTokensAny (s : ByteArray) (w : World) (hs : s.size ≤ maxLen) : Calls Tryd.prog 5 #[.string s] w (TokPost s w) := by
  by_cases h : s.size ≤ 2000
  · exact refTokens s w h
  · exact refTokensLong s w hs (by omega)

end Go.Proofs.YtobgbmfpicmpcaaDoor
