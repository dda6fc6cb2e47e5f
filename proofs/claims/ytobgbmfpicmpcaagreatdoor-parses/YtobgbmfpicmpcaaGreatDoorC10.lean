/- The program's parser: a whole query that calls a view. -/
import Derived.Laws.Strings
import Derived.Lib.Join
import Derived.Lib.ItoaNum
import Derived.Test.YtobgbmfpicmpcaaGreatDoorC09
namespace Go.Proofs.YtobgbmfpicmpcaaGreatDoor
open Go.RowKit

set_option maxRecDepth 100000 in
/-- A query of a kind and a name is built. -/
theorem wpList_callQuery {ops : Array Oper} {rest : List Oper} {op : Oper} {a : Act} {w : World} {Q : Exit → Act → World → Prop} {t : Nat} {n0 : ByteArray} (hgd : op.guard = none) (ho : op.op = .build 29 #[(0, .const (.int .i64 6)), (8, .tmp t)]) (hx : a.tmps[t]? = some (.string n0)) (h : wpList Tryz.prog ops Q rest (a.put op.dst (.agg #[.int .i64 6, .slice none 0 0, .slice none 0 0, .slice none 0 0, .int .i64 0, .bool false, .int .i64 0, .int .i64 0, .string n0, .string ⟨#[]⟩, .string ⟨#[]⟩, .string ⟨#[]⟩, .int .i64 0, .string ⟨#[]⟩, .string ⟨#[]⟩, .string ⟨#[]⟩, .slice none 0 0])) w) : wpList Tryz.prog ops Q (op :: rest) a w :=
  wpList_plain hgd fun _ hK => by
    unfold Oper.wp execOp
    simp only [ho]
    obtain ⟨ts, ds⟩ := a
    go_simp
    exact hK _ _ h

set_option maxRecDepth 100000 in
set_option maxHeartbeats 4000000 in
theorem queryCall {b G : Nat} {st : RS} {W : World} (h : PI b G st W) (hc : peekP kCALL st = true) :
    Calls Tryz.prog 45 #[.pointer (some ⟨b, 0, none⟩)] W (QueryPost b G W (queryP st)) := by
  have g0 := grown_alloc W (.cells #[.int .i64 0, .slice none 0 0, .slice none 0 0, .slice none 0 0, .int .i64 0, .bool false, .int .i64 0, .int .i64 0, .string ⟨#[]⟩, .string ⟨#[]⟩, .string ⟨#[]⟩, .string ⟨#[]⟩, .int .i64 0, .string ⟨#[]⟩, .string ⟨#[]⟩, .string ⟨#[]⟩, .slice none 0 0] 29) none
  have HP := Lib.hid (h.quiet g0)
  have HL0 := Lib.hid (Loc.new W #[.int .i64 0, .slice none 0 0, .slice none 0 0, .slice none 0 0, .int .i64 0, .bool false, .int .i64 0, .int .i64 0, .string ⟨#[]⟩, .string ⟨#[]⟩, .string ⟨#[]⟩, .string ⟨#[]⟩, .int .i64 0, .string ⟨#[]⟩, .string ⟨#[]⟩, .string ⟨#[]⟩, .slice none 0 0] 29)
  have HG0 := Lib.hid (grown_alloc W (.cells #[.int .i64 0, .slice none 0 0, .slice none 0 0, .slice none 0 0, .int .i64 0, .bool false, .int .i64 0, .int .i64 0, .string ⟨#[]⟩, .string ⟨#[]⟩, .string ⟨#[]⟩, .string ⟨#[]⟩, .int .i64 0, .string ⟨#[]⟩, .string ⟨#[]⟩, .string ⟨#[]⟩, .slice none 0 0] 29) (some b))
  have hsz := size_alloc W (.cells #[.int .i64 0, .slice none 0 0, .slice none 0 0, .slice none 0 0, .int .i64 0, .bool false, .int .i64 0, .int .i64 0, .string ⟨#[]⟩, .string ⟨#[]⟩, .string ⟨#[]⟩, .string ⟨#[]⟩, .int .i64 0, .string ⟨#[]⟩, .string ⟨#[]⟩, .string ⟨#[]⟩, .slice none 0 0] 29)
  have hbw : b < W.heap.size := by obtain ⟨_, _, hb, _⟩ := h.box; exact hb.lt
  have hgw := h.far.2
  clear g0 h
  go_enter Tryz.func45, Tryz.ntmps45
  go_wp2_with fail
  obtain ⟨X0, hX0⟩ : ∃ X0, X0 = W.heap.size := ⟨_, rfl⟩
  rw [← hX0] at HL0 ⊢
  have hXW : W.heap.size ≤ X0 := by omega
  have HX0 : Hid (X0 ≠ b ∧ X0 ≠ G) := by show _ ∧ _; omega
  have hXZ : X0 < (W.alloc (.cells #[.int .i64 0, .slice none 0 0, .slice none 0 0, .slice none 0 0, .int .i64 0, .bool false, .int .i64 0, .int .i64 0, .string ⟨#[]⟩, .string ⟨#[]⟩, .string ⟨#[]⟩, .string ⟨#[]⟩, .int .i64 0, .string ⟨#[]⟩, .string ⟨#[]⟩, .string ⟨#[]⟩, .slice none 0 0] 29)).heap.size := by omega
  clear hX0
  generalize W.alloc (.cells #[.int .i64 0, .slice none 0 0, .slice none 0 0, .slice none 0 0, .int .i64 0, .bool false, .int .i64 0, .int .i64 0, .string ⟨#[]⟩, .string ⟨#[]⟩, .string ⟨#[]⟩, .string ⟨#[]⟩, .int .i64 0, .string ⟨#[]⟩, .string ⟨#[]⟩, .string ⟨#[]⟩, .slice none 0 0] 29) = Wz at HP HL0 HG0 hsz hXZ ⊢
  obtain ⟨n0, s2, hn⟩ : ∃ n az, nameP (acceptP kCALL st) = (n, az) := ⟨_, _, rfl⟩
  have HN := Lib.hid hn
  have HC : Hid (queryP st = ({ query0 with kind := 6, name := n0 }, s2)) := by show _ = _; unfold queryP; rw [hc]; simp only [hn]; rfl
  clear hn
  refine (accept_ HP.out kCALL true hc).mono ?_
  rintro e W1 ⟨rfl, h1, g1⟩
  have H1 := Lib.hid h1
  have G1 := Lib.hid (grown_trans HG0.out g1)
  have HL1 := Lib.hid (HL0.out.grown g1 (by intro e; injection e with e; exact HX0.out.1 e))
  clear h1 g1 HP HG0 HL0
  go_wp2_with fail
  refine (name_ H1.out HN.out).mono ?_
  rintro e W2 ⟨rfl, h2, g2⟩
  have H2 := Lib.hid h2
  have G2 := Lib.hid (grown_trans G1.out g2)
  have HL2 := Lib.hid (HL1.out.grown g2 (by intro e; injection e with e; exact HX0.out.1 e))
  clear h2 g2 H1 G1 HL1
  rename_i KK hKK
  refine hKK _ _ ?_
  refine wpList_callQuery (n0 := n0) rfl rfl rfl ?_
  refine wpList_store_mid rfl 29 _ _ rfl X0 0 (qC { query0 with kind := 6, name := n0 } (.slice none 0 0) (.slice none 0 0) (.slice none 0 0) (.slice none 0 0)) rfl rfl HL2.out.there Tryz.sizeQuery (qC_one _) ?_
  have hF : Loc (W2.setCells X0 0 (qC { query0 with kind := 6, name := n0 } (.slice none 0 0) (.slice none 0 0) (.slice none 0 0) (.slice none 0 0)).toList) X0 (qC { query0 with kind := 6, name := n0 } (.slice none 0 0) (.slice none 0 0) (.slice none 0 0) (.slice none 0 0)) 29 := HL2.out.setAll rfl
  have hG := grown_setMany X0 (qC { query0 with kind := 6, name := n0 } (.slice none 0 0) (.slice none 0 0) (.slice none 0 0) (.slice none 0 0)).toList 0 W2
  have hP : PI b G s2 (W2.setCells X0 0 (qC { query0 with kind := 6, name := n0 } (.slice none 0 0) (.slice none 0 0) (.slice none 0 0) (.slice none 0 0)).toList) := H2.out.kept hG (by intro e; injection e with e; exact HX0.out.1 e.symm) (by intro e; injection e with e; exact HX0.out.2 e.symm)
  have hGG : W.grownBy (W2.setCells X0 0 (qC { query0 with kind := 6, name := n0 } (.slice none 0 0) (.slice none 0 0) (.slice none 0 0) (.slice none 0 0)).toList) (some b) := grown_far G2.out hG hXW
  obtain ⟨WF, hWF⟩ : ∃ WF, W2.setCells X0 0 (qC { query0 with kind := 6, name := n0 } (.slice none 0 0) (.slice none 0 0) (.slice none 0 0) (.slice none 0 0)).toList = WF := ⟨_, rfl⟩
  rw [hWF] at hF hP hGG ⊢
  clear hWF hG
  go_wp2_with fail
  refine bodyPost_ret (v := .agg (qC { query0 with kind := 6, name := n0 } (.slice none 0 0) (.slice none 0 0) (.slice none 0 0) (.slice none 0 0))) ?_ rfl ?_
  · exact retOne Tryz.results45 rfl hF rfl
  · rw [HC.out]
    exact ⟨_, _, _, _, rfl, ⟨World.ownsRow_nil _ _ _ _, World.ownsRow_nil _ _ _ _, World.ownsRow_nil _ _ _ _, World.ownsRow_nil _ _ _ _⟩, hP, hGG⟩

end Go.Proofs.YtobgbmfpicmpcaaGreatDoor

/- The program's parser: no part of it leaves more tokens than it found. -/
namespace Go.Proofs.YtobgbmfpicmpcaaGreatDoor
open Go.RowKit

theorem hopP_len (st : RS) : (hopP st).2.rest.length ≤ st.rest.length :=
  Nat.le_trans (Pure.spotP_len _ _) (stepP_len st)
theorem spotsLoop_len (n : Nat) : ∀ (out : List PSpot) (st : RS), (spotsLoop n out st).2.rest.length ≤ st.rest.length := by
  induction n with
  | zero => intro out st; exact Nat.le_refl _
  | succ n ih =>
    intro out st
    simp only [spotsLoop]
    split
    · exact Nat.le_trans (ih _ _) (Nat.le_trans (Pure.spotP_len _ _) (Pure.acceptP_len _ _))
    · split
      · exact Nat.le_trans (ih _ _) (Nat.le_trans (hopP_len _) (Pure.acceptP_len _ _))
      · exact Nat.le_refl _
theorem spotsP_len (st : RS) : (spotsP st).2.rest.length ≤ st.rest.length := by
  unfold spotsP
  simp only
  split
  · exact Nat.zero_le _
  · exact Nat.le_trans (spotsLoop_len _ _ _) (Pure.spotP_len _ _)
theorem listLoop_len {α : Type} {one : RS → α × RS} {sep : ByteArray} (h : ∀ st, (one st).2.rest.length ≤ st.rest.length) (n : Nat) : ∀ (out : List α) (st : RS), (listLoop one sep n out st).2.rest.length ≤ st.rest.length := by
  induction n with
  | zero => intro out st; exact Nat.le_refl _
  | succ n ih =>
    intro out st
    simp only [listLoop]
    split
    · exact Nat.le_trans (ih _ _) (Nat.le_trans (h _) (Pure.acceptP_len _ _))
    · exact Nat.le_refl _
theorem whereP_len (st : RS) : (whereP st).2.rest.length ≤ st.rest.length := by
  unfold whereP
  split
  · unfold listP
    simp only
    split
    · exact Nat.zero_le _
    · exact Nat.le_trans (listLoop_len Pure.condP_len _ _ _) (Nat.le_trans (Pure.condP_len _) (Pure.acceptP_len _ _))
  · exact Nat.le_refl _

end Go.Proofs.YtobgbmfpicmpcaaGreatDoor

/- The program's parser: a whole query that matches. -/
namespace Go.Proofs.YtobgbmfpicmpcaaGreatDoor
open Go.RowKit

set_option maxRecDepth 100000 in
set_option maxHeartbeats 4000000 in
theorem queryMatch {b G : Nat} {st : RS} {W : World} (h : PI b G st W) (hl : st.rest.length ≤ 2000) (hc : peekP kCALL st = false) (hm : peekP kCREATE st = false) :
    Calls Tryz.prog 45 #[.pointer (some ⟨b, 0, none⟩)] W (QueryPost b G W (queryP st)) := by
  have g0 := grown_alloc W (.cells #[.int .i64 0, .slice none 0 0, .slice none 0 0, .slice none 0 0, .int .i64 0, .bool false, .int .i64 0, .int .i64 0, .string ⟨#[]⟩, .string ⟨#[]⟩, .string ⟨#[]⟩, .string ⟨#[]⟩, .int .i64 0, .string ⟨#[]⟩, .string ⟨#[]⟩, .string ⟨#[]⟩, .slice none 0 0] 29) none
  have HP := Lib.hid (h.quiet g0)
  have HL0 := Lib.hid (Loc.new W #[.int .i64 0, .slice none 0 0, .slice none 0 0, .slice none 0 0, .int .i64 0, .bool false, .int .i64 0, .int .i64 0, .string ⟨#[]⟩, .string ⟨#[]⟩, .string ⟨#[]⟩, .string ⟨#[]⟩, .int .i64 0, .string ⟨#[]⟩, .string ⟨#[]⟩, .string ⟨#[]⟩, .slice none 0 0] 29)
  have HG0 := Lib.hid (grown_alloc W (.cells #[.int .i64 0, .slice none 0 0, .slice none 0 0, .slice none 0 0, .int .i64 0, .bool false, .int .i64 0, .int .i64 0, .string ⟨#[]⟩, .string ⟨#[]⟩, .string ⟨#[]⟩, .string ⟨#[]⟩, .int .i64 0, .string ⟨#[]⟩, .string ⟨#[]⟩, .string ⟨#[]⟩, .slice none 0 0] 29) (some b))
  have hsz := size_alloc W (.cells #[.int .i64 0, .slice none 0 0, .slice none 0 0, .slice none 0 0, .int .i64 0, .bool false, .int .i64 0, .int .i64 0, .string ⟨#[]⟩, .string ⟨#[]⟩, .string ⟨#[]⟩, .string ⟨#[]⟩, .int .i64 0, .string ⟨#[]⟩, .string ⟨#[]⟩, .string ⟨#[]⟩, .slice none 0 0] 29)
  have hbw : b < W.heap.size := by obtain ⟨_, _, hb, _⟩ := h.box; exact hb.lt
  have hgw := h.far.2
  clear g0 h
  go_enter Tryz.func45, Tryz.ntmps45
  go_wp2_with fail
  obtain ⟨X0, hX0⟩ : ∃ X0, X0 = W.heap.size := ⟨_, rfl⟩
  rw [← hX0] at HL0 ⊢
  have hXW : W.heap.size ≤ X0 := by omega
  have HX0 : Hid (X0 ≠ b ∧ X0 ≠ G) := by show _ ∧ _; omega
  have hXZ : X0 < (W.alloc (.cells #[.int .i64 0, .slice none 0 0, .slice none 0 0, .slice none 0 0, .int .i64 0, .bool false, .int .i64 0, .int .i64 0, .string ⟨#[]⟩, .string ⟨#[]⟩, .string ⟨#[]⟩, .string ⟨#[]⟩, .int .i64 0, .string ⟨#[]⟩, .string ⟨#[]⟩, .string ⟨#[]⟩, .slice none 0 0] 29)).heap.size := by omega
  clear hX0
  generalize W.alloc (.cells #[.int .i64 0, .slice none 0 0, .slice none 0 0, .slice none 0 0, .int .i64 0, .bool false, .int .i64 0, .int .i64 0, .string ⟨#[]⟩, .string ⟨#[]⟩, .string ⟨#[]⟩, .string ⟨#[]⟩, .int .i64 0, .string ⟨#[]⟩, .string ⟨#[]⟩, .string ⟨#[]⟩, .slice none 0 0] 29) = Wz at HP HL0 HG0 hsz hXZ ⊢
  have ea : acceptP kCALL st = st := by unfold acceptP; rw [hc]; rfl
  have eb : acceptP kCREATE st = st := by unfold acceptP; rw [hm]; rfl
  refine (accept_ HP.out kCALL false hc).mono ?_
  rintro e W1 ⟨rfl, h1, g1⟩
  rw [ea] at h1
  have H1 := Lib.hid h1
  have G1 := Lib.hid g1
  clear h1 g1 HP ea
  go_wp2_with fail
  refine (accept_ H1.out kCREATE false hm).mono ?_
  rintro e W2 ⟨rfl, h2, g2⟩
  rw [eb] at h2
  have H2 := Lib.hid h2
  have G2 := Lib.hid (grown_trans G1.out g2)
  clear h2 g2 H1 G1 eb
  go_wp2_with fail
  refine (expect_ H2.out kMATCH).mono ?_
  rintro e W3 ⟨rfl, h3, g3⟩
  have H3 := Lib.hid h3
  have G3 := Lib.hid (grown_trans G2.out g3)
  have hl3 := Pure.expectP_len kMATCH st
  clear h3 g3 H2 G2
  obtain ⟨l, s4, hsp⟩ : ∃ l az, spotsP (expectP kMATCH st) = (l, az) := ⟨_, _, rfl⟩
  have HS := Lib.hid hsp
  have HC0 : Hid (queryP st = actionP { query0 with spots := l, conds := (whereP s4).1 } (whereP s4).2) := by show _ = _; unfold queryP; rw [hc, hm]; simp only [hsp]; rfl
  have hl4 : s4.rest.length ≤ 2000 := by have := spotsP_len (expectP kMATCH st); rw [hsp] at this; simp only at this; omega
  clear hsp
  go_wp2_with fail
  refine (spots_ H3.out (by omega) HS.out).mono ?_
  rintro e W4 ⟨v0, rfl, ho, h4, g4⟩
  obtain ⟨sa, sc, rfl, hsc⟩ := row_slice (l := l) ho
  have g14 := grown_trans G3.out g4
  have hs4 := g14.size
  have H4 : Hid (PQ Wz b G s4 W4.heap.size { query0 with spots := l, conds := [] } (.slice sa l.length sc) (.slice none 0 0) (.slice none 0 0) (.slice none 0 0) (W4.alloc (.cells #[.int .i64 0, .slice sa l.length sc, .slice none 0 0, .slice none 0 0, .int .i64 0, .bool false, .int .i64 0, .int .i64 0, .string ⟨#[]⟩, .string ⟨#[]⟩, .string ⟨#[]⟩, .string ⟨#[]⟩, .int .i64 0, .string ⟨#[]⟩, .string ⟨#[]⟩, .string ⟨#[]⟩, .slice none 0 0] 29))) :=
    ⟨h4.quiet (grown_alloc W4 _ none), Loc.new W4 _ _, hs4, grown_trans g14 (grown_alloc W4 _ _), ⟨kept_none (row_weaken ho G3.out.size) (grown_alloc W4 _ none), World.ownsRow_nil _ _ _ _, World.ownsRow_nil _ _ _ _, World.ownsRow_nil _ _ _ _⟩, by omega, by omega⟩
  clear h4 g4 g14 H3 G3 ho
  go_wp2_with fail
  obtain ⟨x, hx⟩ : ∃ x, x = W4.heap.size := ⟨_, rfl⟩
  rw [← hx] at H4 ⊢
  clear hx
  generalize W4.alloc (.cells #[.int .i64 0, .slice sa l.length sc, .slice none 0 0, .slice none 0 0, .int .i64 0, .bool false, .int .i64 0, .int .i64 0, .string ⟨#[]⟩, .string ⟨#[]⟩, .string ⟨#[]⟩, .string ⟨#[]⟩, .int .i64 0, .string ⟨#[]⟩, .string ⟨#[]⟩, .string ⟨#[]⟩, .slice none 0 0] 29) = W5 at H4 ⊢
  obtain ⟨m, hmm⟩ : ∃ m, peekP kWHERE s4 = m := ⟨_, rfl⟩
  have HM := Lib.hid hmm
  clear hmm hs4
  refine (accept_ H4.out.p kWHERE m HM.out).mono ?_
  rintro e W6 ⟨rfl, h6, g6⟩
  have H6 := Lib.hid (H4.out.call h6 g6)
  clear h6 g6 H4
  go_upto_if 21 with fail
  go_cut [] (fun w => ∃ vc, PQ Wz b G (whereP s4).2 x { query0 with spots := l, conds := (whereP s4).1 } (.slice sa l.length sc) vc (.slice none 0 0) (.slice none 0 0) w)
  case first =>
    cases m with
    | false =>
      go_wp2_with fail
      go_meet
      case rel => exact ⟨(.slice none 0 0), by have h := H6.out; rw [show acceptP kWHERE s4 = s4 by unfold acceptP; rw [HM.out]; rfl] at h; rw [show whereP s4 = ([], s4) by unfold whereP; rw [HM.out]; rfl]; exact h⟩
    | true =>
      obtain ⟨cl, s7, hn⟩ : ∃ l az, listP condP kAND 6 (acceptP kWHERE s4) = (l, az) := ⟨_, _, rfl⟩
      have HN := Lib.hid hn
      have hl7 := Pure.acceptP_len kWHERE s4
      clear hn
      go_wp2_with fail
      refine (listCond H6.out.p (by omega) HN.out).mono ?_
      rintro e W7 ⟨v0, rfl, ho, h7, g7⟩
      obtain ⟨ao, ca, rfl, hca⟩ := row_slice (l := cl) ho
      have Ha := H6.out.call h7 g7
      have c2 : W7.cell? ⟨x, 2, none⟩ = some (.slice none 0 0) := (Ha.lx.cell 2).trans rfl
      have f2 : W7.frozen? ⟨x, 2, none⟩ = false := Ha.lx.free 2
      have H7 := Lib.hid (H6.out.conds h7 g7 ho)
      clear Ha ho h7 g7 H6
      go_wp2_with fail
      go_meet
      case rel => exact ⟨_, by rw [show whereP s4 = (cl, s7) by unfold whereP; rw [HM.out]; exact HN.out]; exact H7.out⟩
  case rest =>
    obtain ⟨vc, hq⟩ := hcut
    have hl5 := whereP_len s4
    obtain ⟨⟨l2, s5⟩, hw⟩ : ∃ c, whereP s4 = c := ⟨_, rfl⟩
    rw [hw] at hq HC0 hl5
    simp only at hq HC0 hl5
    have H7 := Lib.hid hq
    clear hq hw H6
    go_wp2_with fail
    refine (action_ H7.out (by omega)).mono ?_
    rintro e W8 ⟨rfl, vi, hq⟩
    obtain ⟨⟨q9, s9⟩, ha⟩ : ∃ c, actionP { query0 with spots := l, conds := l2 } s5 = c := ⟨_, rfl⟩
    rw [ha] at hq HC0
    simp only at hq
    obtain ⟨na, nc, evs, _⟩ := row_slice (l := q9.spots) hq.rows.rs
    obtain ⟨ca, cc, rfl, _⟩ := row_slice (l := q9.conds) hq.rows.rc
    obtain ⟨ia, ic, rfl, _⟩ := row_slice (l := q9.items) hq.rows.rt
    have H8 := Lib.hid hq
    have HL8 := Lib.hid (HL0.out.grown H8.out.grown (by intro e; injection e with e; exact HX0.out.1 e))
    clear hq ha H7 evs
    go_upto_region 10 with fail
    refine wp_region_lit ?_
    refine wpList_load_mid rfl 29 _ rfl x 0 rfl (qC q9 (.slice sa l.length sc) (.slice ca q9.conds.length cc) (.slice ia q9.items.length ic) (.slice none 0 0)).toList _ H8.out.lx.range Tryz.underlying29 rfl (by rw [Tryz.sizeQuery]; rfl) ?_
    refine wpList_store_mid rfl 29 _ _ rfl X0 0 (qC q9 (.slice sa l.length sc) (.slice ca q9.conds.length cc) (.slice ia q9.items.length ic) (.slice none 0 0)) rfl rfl HL8.out.there Tryz.sizeQuery (qC_one _) ?_
    have hF : Loc (W8.setCells X0 0 (qC q9 (.slice sa l.length sc) (.slice ca q9.conds.length cc) (.slice ia q9.items.length ic) (.slice none 0 0)).toList) X0 (qC q9 (.slice sa l.length sc) (.slice ca q9.conds.length cc) (.slice ia q9.items.length ic) (.slice none 0 0)) 29 := HL8.out.setAll rfl
    have hG := grown_setMany X0 (qC q9 (.slice sa l.length sc) (.slice ca q9.conds.length cc) (.slice ia q9.items.length ic) (.slice none 0 0)).toList 0 W8
    have hP : PI b G s9 (W8.setCells X0 0 (qC q9 (.slice sa l.length sc) (.slice ca q9.conds.length cc) (.slice ia q9.items.length ic) (.slice none 0 0)).toList) := H8.out.p.kept hG (by intro e; injection e with e; exact HX0.out.1 e.symm) (by intro e; injection e with e; exact HX0.out.2 e.symm)
    have hR := rows_loc H8.out.rows HL8.out hG
    have hGG : W.grownBy (W8.setCells X0 0 (qC q9 (.slice sa l.length sc) (.slice ca q9.conds.length cc) (.slice ia q9.items.length ic) (.slice none 0 0)).toList) (some b) := grown_far (grown_trans HG0.out H8.out.grown) hG hXW
    obtain ⟨WF, hWF⟩ : ∃ WF, W8.setCells X0 0 (qC q9 (.slice sa l.length sc) (.slice ca q9.conds.length cc) (.slice ia q9.items.length ic) (.slice none 0 0)).toList = WF := ⟨_, rfl⟩
    rw [hWF] at hF hP hR hGG ⊢
    clear hWF hG
    go_wp2_with fail
    refine bodyPost_ret (v := .agg (qC q9 (.slice sa l.length sc) (.slice ca q9.conds.length cc) (.slice ia q9.items.length ic) (.slice none 0 0))) ?_ rfl ?_
    · exact retOne Tryz.results45 rfl hF rfl
    · rw [HC0.out]
      exact ⟨_, _, _, _, rfl, ⟨row_weaken hR.rs (by omega), row_weaken hR.rc (by omega), row_weaken hR.rt (by omega), row_weaken hR.rp (by omega)⟩, hP, hGG⟩

end Go.Proofs.YtobgbmfpicmpcaaGreatDoor

/- The two readers of queries, as plain functions: a make's pairs, what stands behind a match, whole queries; so the two agree on all tokens. No program in this text. -/
namespace Go.Proofs.YtobgbmfpicmpcaaGreatDoor.Pure
variable {st : RS}

/-- A pair of the reference, without a look at the pairs ahead of it. -/
def pair0 (st : RS) : PPair × RS := (⟨(nameR st).1, (countR (-1000000000) 1000000000 (mustR mColon (nameR st).2)).1⟩, (countR (-1000000000) 1000000000 (mustR mColon (nameR st).2)).2)
theorem pair_ag (h : Ok st) : Ag (pairP st) (pair0 st) := by
  unfold pairP pair0
  try simp only
  rcases name_ag h with ⟨a, b⟩ | ⟨e, h1⟩
  · exact Or.inl ⟨numberP_bad (expectP_bad a), countR_bad (mustR_bad b)⟩
  · rw [← e]
    rcases expect_ag h1 (s := mColon) (by simp [lits, keywords]) with ⟨a, b⟩ | ⟨e2, h2⟩
    · exact Or.inl ⟨numberP_bad a, countR_bad b⟩
    · rw [← e2]
      rcases number_ag h2 (-1000000000) 1000000000 with ⟨a, b⟩ | ⟨e3, h3⟩
      · exact Or.inl ⟨a, b⟩
      · exact Or.inr ⟨by rw [e3], h3⟩
theorem pairR_eq (l : List PPair) (st : RS) : pairR l st = ((pair0 st).1, (pair0 st).2.orBad (l.any fun x => eqB x.key (pair0 st).1.key)) := rfl
theorem twiceP_append (b : List PPair) : ∀ (a pre : List PPair), twiceP pre (a ++ b) = (twiceP pre a || twiceP (pre ++ a) b) := by
  intro a
  induction a with
  | nil => intro pre; simp [twiceP]
  | cons x a ih => intro pre; simp only [List.cons_append, twiceP, ih]; simp [Bool.or_assoc]
theorem loopR_more {α : Type} {one : RS → α × RS} {sep : ByteArray} (n : Nat) : ∀ (out : List α) (st : RS), ∃ l, (loopR one sep n out st).1 = out ++ l := by
  induction n with
  | zero => intro out st; exact ⟨[], by simp [loopR]⟩
  | succ n ih =>
    intro out st
    simp only [loopR]
    split
    · obtain ⟨l, hl⟩ := ih (out ++ [(one st).1]) (hasR sep (one st).2)
      exact ⟨(one st).1 :: l, by rw [hl]; simp⟩
    · exact ⟨[(one st).1], rfl⟩
theorem loopR_next {α : Type} {one : RS → α × RS} {sep : ByteArray} (n : Nat) (out : List α) (st : RS) : ∃ l, (loopR one sep (n + 1) out st).1 = (out ++ [(one st).1]) ++ l := by
  simp only [loopR]
  split
  · exact loopR_more n _ _
  · exact ⟨[], by simp⟩
theorem pairs_eq (n : Nat) : ∀ (out : List PPair) (st : RS), st.bad = false → twiceP [] out = false →
    (pairLoop n out st = loopR pair0 mComma n out st ∧ ((loopR pair0 mComma n out st).2.bad = false → twiceP [] (loopR pair0 mComma n out st).1 = false)) ∨
    ((pairLoop n out st).2.bad = true ∧ ((loopR pair0 mComma n out st).2.bad = true ∨ twiceP [] (loopR pair0 mComma n out st).1 = true)) := by
  induction n with
  | zero => intro out st _ ht; exact Or.inl ⟨rfl, fun _ => ht⟩
  | succ n ih =>
    intro out st h ht
    by_cases hb : (pair0 st).2.bad = true
    · refine Or.inl ⟨?_, fun e => ?_⟩
      · have e1 : (pair0 st).2.orBad (out.any fun x => eqB x.key (pair0 st).1.key) = (pair0 st).2 := by
          unfold RS.orBad
          rw [hb]
          cases hq : (pair0 st).2 with
          | mk r b => rw [hq] at hb; simp only at hb; simp [hb]
        simp only [pairLoop, loopR, h, pairR_eq, e1, hb]
        simp
      · simp only [loopR, hb] at e
        simp [hb] at e
    · have hb2 : (pair0 st).2.bad = false := by simpa using hb
      by_cases hd : (out.any fun x => eqB x.key (pair0 st).1.key) = true
      · refine Or.inr ⟨?_, Or.inr ?_⟩
        · simp only [pairLoop, h, pairR_eq, hd, RS.orBad]
          simp
        · obtain ⟨l, hl⟩ := loopR_next (one := pair0) (sep := mComma) n out st
          rw [hl, twiceP_append, twiceP_append]
          simp [twiceP, hd]
      · have hd2 : (out.any fun x => eqB x.key (pair0 st).1.key) = false := by simpa using hd
        have e1 : pairR out st = pair0 st := by rw [pairR_eq, hd2, orBad_false]
        have ht2 : twiceP [] (out ++ [(pair0 st).1]) = false := by rw [twiceP_append, ht]; simp [twiceP, hd2]
        simp only [pairLoop, loopR, h, e1, hb2]
        by_cases hp : peekR mComma (pair0 st).2 = true
        · simp only [hp]
          simpa using ih (out ++ [(pair0 st).1]) (hasR mComma (pair0 st).2) (by rw [hasR_keeps]; exact hb2) ht2
        · simp only [hp]
          exact Or.inl ⟨rfl, fun _ => ht2⟩
theorem creationP_bad {st : RS} (h : (titleP (expectP mOpen st)).2.bad = true) : (creationP st).2.bad = true := by
  unfold creationP; simp only
  by_cases hp : peekP mBrace (titleP (expectP mOpen st)).2 = true
  · simp only [hp, if_true]; split; rfl; exact expectP_bad (expectP_bad (listP_bad pairP_bad (acceptP_bad h)))
  · simp only [hp]; simp only [Bool.false_eq_true, if_false, twiceP]; exact expectP_bad h
theorem makeR_bad {st : RS} (h : (titleR (mustR mOpen st)).2.bad = true) : (makeR st).2.bad = true := by
  unfold makeR; simp only
  refine orBad_bad (mustR_bad ?_)
  have hb : (hasR mBrace (titleR (mustR mOpen st)).2).bad = true := hasR_bad h
  by_cases hp : peekR mBrace (titleR (mustR mOpen st)).2 = true
  · simp only [hp, if_true]; refine mustR_bad ?_; simp [pairLoop, hb]
  · simp only [hp]; exact h
theorem make_ag (h : Ok st) : Ag (creationP st) (makeR st) := by
  have l1 := mustR_len mOpen st
  have l2 := titleR_len (mustR mOpen st)
  rcases expect_ag h (s := mOpen) (by simp [lits, keywords]) with ⟨a, b⟩ | ⟨e, h1⟩
  · exact Or.inl ⟨creationP_bad (titleP_bad a), makeR_bad (titleR_bad b)⟩
  · rcases title_ag h1 with ⟨a, b⟩ | ⟨e2, h2⟩
    · exact Or.inl ⟨creationP_bad a, makeR_bad (by rw [← e]; exact b)⟩
    · unfold creationP makeR
      try simp only
      rw [← e] at l1 l2 ⊢
      rw [← e2] at l2 ⊢
      rw [peek_eq h2 (s := mBrace) (by simp [lits, keywords]), accept_eq h2 (s := mBrace) (by simp [lits, keywords])]
      by_cases hp : peekR mBrace (titleP (expectP mOpen st)).2 = true
      · simp only [hp, if_true]
        have h3 := h2.has mBrace
        have l3 := hasR_len mBrace (titleP (expectP mOpen st)).2
        have hn : (hasR mBrace (titleP (expectP mOpen st)).2).rest.length < st.rest.length + 1 := by omega
        have hpa := list_ag (sep := mComma) (by simp [lits, keywords]) pair_ag pairP_bad (fun {st} _ => pairP_len st) h3 hn
        rcases pairs_eq (st.rest.length + 1) [] (hasR mBrace (titleP (expectP mOpen st)).2) h3.good rfl with ⟨q1, q2⟩ | ⟨q1, q2⟩
        · rw [q1]
          generalize loopR pair0 mComma (st.rest.length + 1) [] (hasR mBrace (titleP (expectP mOpen st)).2) = L at hpa q2 ⊢
          rcases hpa with ⟨a, b⟩ | ⟨e3, h4⟩
          · refine Or.inl ⟨?_, ?_⟩
            · split
              · rfl
              · exact expectP_bad (expectP_bad a)
            · unfold RS.orBad at b ⊢
              simp only [Bool.or_eq_true] at b ⊢
              rcases b with b | b
              · exact Or.inl (mustR_bad (mustR_bad b))
              · exact Or.inr b
          · have hg := h4.good
            rw [e3] at hg h4
            simp only [RS.orBad, Bool.or_eq_false_iff] at hg
            rw [e3]
            simp only at h4 ⊢
            rw [q2 hg.1]
            have e5 : L.2.orBad (decide (6 < L.1.length)) = L.2 := by rw [hg.2, orBad_false]
            rw [e5] at h4 ⊢
            rw [hg.2]
            simp only [Bool.false_eq_true, if_false, orBad_false]
            rcases expect_ag h4 (s := mUnbrace) (by simp [lits, keywords]) with ⟨a, b⟩ | ⟨e6, h6⟩
            · exact Or.inl ⟨expectP_bad a, mustR_bad b⟩
            · rw [← e6]
              rcases expect_ag h6 (s := mClose) (by simp [lits, keywords]) with ⟨a, b⟩ | ⟨e7, h7⟩
              · exact Or.inl ⟨a, b⟩
              · exact Or.inr ⟨by rw [e7], h7⟩
        · refine Or.inl ⟨?_, orBad_bad (mustR_bad (mustR_bad q1))⟩
          rcases hpa with ⟨a, b⟩ | ⟨e3, h4⟩
          · split
            · rfl
            · exact expectP_bad (expectP_bad a)
          · have hg := h4.good
            rw [e3] at hg
            simp only [RS.orBad, Bool.or_eq_false_iff] at hg
            rw [e3]
            simp only
            rcases q2 with q2 | q2
            · rw [hg.1] at q2; cases q2
            · rw [q2]; rfl
      · simp only [hp]
        simp only [Bool.false_eq_true, if_false, twiceP, List.length_nil]
        rcases expect_ag h2 (s := mClose) (by simp [lits, keywords]) with ⟨a, b⟩ | ⟨e7, h7⟩
        · exact Or.inl ⟨a, orBad_bad b⟩
        · refine Or.inr ⟨?_, h7⟩
          rw [e7]
          simp [orBad_false]

end Go.Proofs.YtobgbmfpicmpcaaGreatDoor.Pure

/- The two readers of queries agree, on all tokens that a text can have. No program in this text. -/
namespace Go.Proofs.YtobgbmfpicmpcaaGreatDoor.Pure
variable {st : RS}

theorem order_ag (h : Ok st) (k : Int) : Ag (orderP k st) (orderR k st) := by
  unfold orderP orderR
  rw [peek_eq h (s := kORDER) (by simp [lits, keywords]), accept_eq h (s := kORDER) (by simp [lits, keywords]), h.good]
  by_cases hp : peekR kORDER st = true
  · simp only [hp, Bool.not_false, Bool.and_self, if_true]
    rcases expect_ag (h.has kORDER) (s := kBY) (by simp [lits, keywords]) with ⟨a, b⟩ | ⟨e, h1⟩
    · exact Or.inl ⟨acceptP_bad (numberP_bad a), hasR_bad (countR_bad b)⟩
    · rw [← e]
      rcases number_ag h1 1 k with ⟨a, b⟩ | ⟨e2, h2⟩
      · exact Or.inl ⟨acceptP_bad a, hasR_bad b⟩
      · rw [← e2, peek_eq h2 (s := kDESC) (by simp [lits, keywords]), accept_eq h2 (s := kDESC) (by simp [lits, keywords])]
        exact Or.inr ⟨rfl, h2.has kDESC⟩
  · simp only [hp]
    exact Or.inr ⟨rfl, h⟩
theorem part_ag (h : Ok st) {s : ByteArray} (hs : s ∈ lits) (k : Int) : Ag (partP s k st) (partR s k st) := by
  unfold partP partR
  rw [peek_eq h hs, accept_eq h hs, h.good]
  by_cases hp : peekR s st = true
  · simp only [hp, Bool.not_false, Bool.and_self, if_true]
    exact number_ag (h.has s) 0 1000000000
  · simp only [hp]
    exact Or.inr ⟨rfl, h⟩
theorem read_ag (h : Ok st) : Ag (readP st) (itemsR st) := by
  have hpa := list_ag (sep := mComma) (n := st.rest.length + 1) (by simp [lits, keywords]) item_ag itemP_bad (fun {st} _ => itemP_len st) h (by omega)
  unfold readP itemsR
  try simp only
  rw [itemLoop_eq _ _ _ h.good]
  generalize loopR itemR mComma (st.rest.length + 1) [] st = L at hpa ⊢
  rcases hpa with ⟨a, b⟩ | ⟨e3, h4⟩
  · refine Or.inl ⟨partP_bad (partP_bad (orderP_bad a)), ?_⟩
    unfold RS.orBad at b ⊢
    simp only [Bool.or_eq_true] at b ⊢
    rcases b with b | b
    · exact Or.inl (partR_bad (partR_bad (orderR_bad b)))
    · exact Or.inr b
  · have hg := h4.good
    rw [e3] at hg h4
    simp only [RS.orBad, Bool.or_eq_false_iff] at hg
    rw [e3]
    have e5 : L.2.orBad (decide (6 < L.1.length)) = L.2 := by rw [hg.2, orBad_false]
    simp only at h4 ⊢
    rw [e5] at h4 ⊢
    rw [hg.2]
    simp only [orBad_false]
    rcases order_ag h4 L.1.length with ⟨a, b⟩ | ⟨e, h1⟩
    · exact Or.inl ⟨partP_bad (partP_bad a), partR_bad (partR_bad b)⟩
    · rw [← e]
      rcases part_ag h1 (s := kSKIP) (by simp [lits, keywords]) 0 with ⟨a, b⟩ | ⟨e2, h2⟩
      · exact Or.inl ⟨partP_bad a, partR_bad b⟩
      · rw [← e2]
        rcases part_ag h2 (s := kLIMIT) (by simp [lits, keywords]) (-1) with ⟨a, b⟩ | ⟨e6, h6⟩
        · exact Or.inl ⟨a, b⟩
        · exact Or.inr ⟨by rw [e6], h6⟩
theorem link_ag (h : Ok st) (hp : peekR kCREATE st = true) : Ag (linkP (hasR kCREATE st)) (linkR st) := by
  unfold linkP linkR
  have e0 : mustR kCREATE st = hasR kCREATE st := by unfold mustR; rw [hp]; exact orBad_false _
  rw [e0]
  try simp only
  rcases expect_ag (h.has kCREATE) (s := mOpen) (by simp [lits, keywords]) with ⟨a, b⟩ | ⟨e, h1⟩
  · exact Or.inl ⟨expectP_bad (nameP_bad (expectP_bad (expectP_bad (titleP_bad (expectP_bad (expectP_bad (nameP_bad a))))))), mustR_bad (nameR_bad (mustR_bad (mustR_bad (titleR_bad (mustR_bad (mustR_bad (nameR_bad b)))))))⟩
  rw [← e]
  rcases name_ag h1 with ⟨a, b⟩ | ⟨e, h2⟩
  · exact Or.inl ⟨expectP_bad (nameP_bad (expectP_bad (expectP_bad (titleP_bad (expectP_bad (expectP_bad a)))))), mustR_bad (nameR_bad (mustR_bad (mustR_bad (titleR_bad (mustR_bad (mustR_bad b))))))⟩
  rw [← e]
  rcases expect_ag h2 (s := mClose) (by simp [lits, keywords]) with ⟨a, b⟩ | ⟨e, h3⟩
  · exact Or.inl ⟨expectP_bad (nameP_bad (expectP_bad (expectP_bad (titleP_bad (expectP_bad a))))), mustR_bad (nameR_bad (mustR_bad (mustR_bad (titleR_bad (mustR_bad b)))))⟩
  rw [← e]
  rcases expect_ag h3 (s := mTo) (by simp [lits, keywords]) with ⟨a, b⟩ | ⟨e, h4⟩
  · exact Or.inl ⟨expectP_bad (nameP_bad (expectP_bad (expectP_bad (titleP_bad a)))), mustR_bad (nameR_bad (mustR_bad (mustR_bad (titleR_bad b))))⟩
  rw [← e]
  rcases title_ag h4 with ⟨a, b⟩ | ⟨e, h5⟩
  · exact Or.inl ⟨expectP_bad (nameP_bad (expectP_bad (expectP_bad a))), mustR_bad (nameR_bad (mustR_bad (mustR_bad b)))⟩
  rw [← e]
  rcases expect_ag h5 (s := mArrow) (by simp [lits, keywords]) with ⟨a, b⟩ | ⟨e, h6⟩
  · exact Or.inl ⟨expectP_bad (nameP_bad (expectP_bad a)), mustR_bad (nameR_bad (mustR_bad b))⟩
  rw [← e]
  rcases expect_ag h6 (s := mOpen) (by simp [lits, keywords]) with ⟨a, b⟩ | ⟨e, h7⟩
  · exact Or.inl ⟨expectP_bad (nameP_bad a), mustR_bad (nameR_bad b)⟩
  rw [← e]
  rcases name_ag h7 with ⟨a, b⟩ | ⟨e, h8⟩
  · exact Or.inl ⟨expectP_bad a, mustR_bad b⟩
  rw [← e]
  rcases expect_ag h8 (s := mClose) (by simp [lits, keywords]) with ⟨a, b⟩ | ⟨e, h9⟩
  · exact Or.inl ⟨a, b⟩
  exact Or.inr ⟨by rw [e], h9⟩
theorem set_ag (h : Ok st) : Ag (setP st) (setR st) := by
  unfold setP setR
  try simp only
  rcases prop_ag h with ⟨a, b⟩ | ⟨e, h1⟩
  · exact Or.inl ⟨termP_bad (expectP_bad a), termR_bad (mustR_bad b)⟩
  · have e1 : (propP st).1.1 = (nameR st).1 := by rw [e]
    have e2 : (propP st).1.2 = (nameR (mustR mDot (nameR st).2)).1 := by rw [e]
    have e3 : (propP st).2 = (nameR (mustR mDot (nameR st).2)).2 := by rw [e]
    rw [← e1, ← e2, ← e3]
    rcases expect_ag h1 (s := mEq) (by simp [lits, keywords]) with ⟨a, b⟩ | ⟨e4, h4⟩
    · exact Or.inl ⟨termP_bad a, termR_bad b⟩
    · rw [← e4]
      rcases term_ag h4 with ⟨a, b⟩ | ⟨e5, h5⟩
      · exact Or.inl ⟨a, b⟩
      · exact Or.inr ⟨by rw [e5], h5⟩
theorem action_ag (h : Ok st) (q : PQuery) : Ag (actionP q st) (behindR q st) := by
  unfold actionP behindR
  simp only [peek_eq h (s := kRETURN) (by simp [lits, keywords]), peek_eq h (s := kSET) (by simp [lits, keywords]), peek_eq h (s := kDELETE) (by simp [lits, keywords]), peek_eq h (s := kCREATE) (by simp [lits, keywords]), accept_eq h (s := kRETURN) (by simp [lits, keywords]), accept_eq h (s := kSET) (by simp [lits, keywords]), accept_eq h (s := kDELETE) (by simp [lits, keywords]), accept_eq h (s := kCREATE) (by simp [lits, keywords])]
  by_cases h1 : peekR kRETURN st = true
  · simp only [h1, if_true]
    rcases read_ag (h.has kRETURN) with ⟨a, b⟩ | ⟨e, k⟩
    · exact Or.inl ⟨a, b⟩
    · exact Or.inr ⟨by rw [e], k⟩
  · simp only [h1]
    by_cases h2 : peekR kSET st = true
    · simp only [h2, if_true]
      rcases set_ag (h.has kSET) with ⟨a, b⟩ | ⟨e, k⟩
      · exact Or.inl ⟨a, b⟩
      · exact Or.inr ⟨by rw [e]; rfl, k⟩
    · simp only [h2]
      by_cases h3 : peekR kDELETE st = true
      · simp only [h3, if_true]
        rcases name_ag (h.has kDELETE) with ⟨a, b⟩ | ⟨e, k⟩
        · exact Or.inl ⟨a, b⟩
        · exact Or.inr ⟨by rw [e]; rfl, k⟩
      · simp only [h3]
        by_cases h4 : peekR kCREATE st = true
        · simp only [h4, if_true]
          rcases link_ag h h4 with ⟨a, b⟩ | ⟨e, k⟩
          · exact Or.inl ⟨a, b⟩
          · exact Or.inr ⟨by rw [e]; rfl, k⟩
        · simp only [h4]
          have h5 : peekR kCREATE st = false := by simpa using h4
          exact Or.inl ⟨rfl, linkR_bad (by unfold mustR; rw [h5]; exact orBad_true _)⟩

theorem matchLoop_len (n : Nat) : ∀ (out : List PSpot) (st : RS), (matchLoop n out st).2.rest.length ≤ st.rest.length := by
  induction n with
  | zero => intro out st; exact Nat.le_refl _
  | succ n ih =>
    intro out st
    simp only [matchLoop]
    have h1 := pathR_len st
    split
    · exact Nat.le_refl _
    · split
      · have h2 := ih (out ++ (pathR st).1) (hasR mComma (pathR st).2)
        have h3 := hasR_len mComma (pathR st).2
        omega
      · exact h1
def matP (st : RS) : (List PSpot × List PCond) × RS := (((spotsP (expectP kMATCH st)).1, (whereP (spotsP (expectP kMATCH st)).2).1), (whereP (spotsP (expectP kMATCH st)).2).2)
theorem match_ag (h : Ok st) : Ag (matP st) (matchR st) := by
  unfold matP matchR
  try simp only
  have l1 := mustR_len kMATCH st
  rcases expect_ag h (s := kMATCH) (by simp [lits, keywords]) with ⟨a, b⟩ | ⟨e, h1⟩
  · refine Or.inl ⟨whereP_bad (spotsP_bad a), orBad_bad ?_⟩
    simp [matchLoop, b]
  · rw [← e] at l1 ⊢
    have hpa := paths_ag h1 (n := st.rest.length + 1) (by omega)
    have lm : ∀ (L : List PSpot × RS), (spotsLoop (spotP spot0 (expectP kMATCH st)).2.rest.length [(spotP spot0 (expectP kMATCH st)).1] (spotP spot0 (expectP kMATCH st)).2) = L → spotsP (expectP kMATCH st) = (L.1, if 6 < L.1.length then failP else L.2) := by
      intro L hL
      unfold spotsP
      rw [hL]
    rcases hpa with ⟨a, b⟩ | ⟨e2, h2⟩
    · refine Or.inl ⟨?_, orBad_bad ?_⟩
      · refine whereP_bad ?_
        rw [lm _ rfl]
        simp only
        split; rfl; exact a
      · simp [b]
    · rw [lm _ rfl, ← e2]
      generalize spotsLoop (spotP spot0 (expectP kMATCH st)).2.rest.length [(spotP spot0 (expectP kMATCH st)).1] (spotP spot0 (expectP kMATCH st)).2 = L at e2 h2
      have l2 : L.2.rest.length ≤ st.rest.length := by
        rw [e2]
        exact Nat.le_trans (matchLoop_len _ _ _) l1
      by_cases h6 : 6 < L.1.length
      · simp only [h6, if_true, decide_true, Bool.true_or]
        exact Or.inl ⟨whereP_bad rfl, orBad_true _⟩
      · simp only [h6, if_false, decide_false, Bool.false_or]
        unfold whereP
        rw [peek_eq h2 (s := kWHERE) (by simp [lits, keywords]), accept_eq h2 (s := kWHERE) (by simp [lits, keywords]), h2.good]
        by_cases hw : peekR kWHERE L.2 = true
        · simp only [hw, Bool.not_false, Bool.and_self, if_true]
          have l3 := hasR_len kWHERE L.2
          have hpa := list_ag (sep := kAND) (n := st.rest.length + 1) (by simp [lits, keywords]) cond_ag condP_bad (fun {st} _ => condP_len st) (h2.has kWHERE) (by omega)
          rw [condLoop_eq]
          rcases hpa with ⟨a, b⟩ | ⟨e3, h3⟩
          · exact Or.inl ⟨a, b⟩
          · exact Or.inr ⟨by rw [e3], h3⟩
        · simp only [hw]
          simp only [Bool.and_false, Bool.false_eq_true, if_false, List.length_nil]
          exact Or.inr ⟨by simp [orBad_false], h2⟩
theorem query_ag (h : Ok st) : Ag (queryP st) (queryR st) := by
  unfold queryP queryR
  simp only [peek_eq h (s := kCALL) (by simp [lits, keywords]), peek_eq h (s := kCREATE) (by simp [lits, keywords]), accept_eq h (s := kCALL) (by simp [lits, keywords]), accept_eq h (s := kCREATE) (by simp [lits, keywords])]
  by_cases h1 : peekR kCALL st = true
  · have h2 : peekR kCREATE st = false := peekR_two h1 (by decide +kernel)
    simp only [h1, h2, if_true, Bool.false_eq_true, if_false]
    rcases name_ag (h.has kCALL) with ⟨a, b⟩ | ⟨e, k⟩
    · exact Or.inl ⟨a, b⟩
    · exact Or.inr ⟨by rw [e], k⟩
  · simp only [h1]
    by_cases h2 : peekR kCREATE st = true
    · simp only [h2, if_true, Bool.false_eq_true, if_false]
      rcases make_ag (h.has kCREATE) with ⟨a, b⟩ | ⟨e, k⟩
      · exact Or.inl ⟨a, b⟩
      · exact Or.inr ⟨by rw [e], k⟩
    · simp only [h2, Bool.false_eq_true, if_false]
      have hm := match_ag h
      unfold matP at hm
      rcases hm with ⟨a, b⟩ | ⟨e, k⟩
      · refine Or.inl ⟨actionP_bad a, ?_⟩
        rw [b]; exact b
      · have e1 : (spotsP (expectP kMATCH st)).1 = (matchR st).1.1 := by rw [← e]
        have e2 : (whereP (spotsP (expectP kMATCH st)).2).1 = (matchR st).1.2 := by rw [← e]
        have e3 : (whereP (spotsP (expectP kMATCH st)).2).2 = (matchR st).2 := by rw [← e]
        simp only at k
        rw [e1, e2, e3]
        rw [e3] at k
        rw [k.good]
        exact action_ag k _

/-- What a query of its kind has not, is empty. -/
structure Shape (q : PQuery) : Prop where
  val : q.kind ≠ 2 → q.value.name = e0
  nam : q.kind = 1 ∨ q.kind = 5 → q.name = e0 ∧ q.to = e0
  kin : q.kind = 1 ∨ q.kind = 2 ∨ q.kind = 3 ∨ q.kind = 4 ∨ q.kind = 5 ∨ q.kind = 6
theorem shape (st : RS) (h : (queryR st).2.bad = false) : Shape (queryR st).1 := by
  unfold queryR at h ⊢
  split
  · exact ⟨fun _ => rfl, fun _ => ⟨rfl, rfl⟩, by simp⟩
  · rename_i hc
    rw [if_neg hc] at h
    split
    · exact ⟨fun _ => rfl, fun e => by simp at e, by simp⟩
    · rename_i hd
      rw [if_neg hd] at h
      simp only at h ⊢
      split
      · rename_i hb
        rw [if_pos hb] at h
        simp only at h
        rw [hb] at h
        cases h
      · unfold behindR
        split
        · exact ⟨fun _ => rfl, fun _ => ⟨rfl, rfl⟩, by simp⟩
        · split
          · exact ⟨fun e => by simp at e, fun e => by simp at e, by simp⟩
          · split
            · exact ⟨fun _ => rfl, fun e => by simp at e, by simp⟩
            · exact ⟨fun _ => rfl, fun e => by simp at e, by simp⟩
theorem e0_empty : e0.toList.isEmpty = true := by decide +kernel
theorem bound_eq {l : List PSpot} {a b : ByteArray} (h : eqB a b = true) : boundR l a = boundR l b := by
  unfold boundR eqB at *
  have : a.toList = b.toList := by simpa using h
  rw [this]
theorem scope_eq {q : PQuery} (h : Shape q) : inScopeP q = scopedR q := by
  unfold inScopeP scopedR usedP namesR
  simp only [List.all_append]
  by_cases h2 : q.kind = 2
  · simp only [h2]
    simp only [ne_eq, Int.reduceEq, not_false_eq_true, if_true, not_true_eq_false, decide_false, Bool.false_or, List.all_cons, List.all_nil, Bool.and_true, Int.le_refl, Int.reduceLE, and_self]
    cases hv : q.value.name.toList.isEmpty with
    | true => simp
    | false =>
      cases he : eqB q.value.name q.name with
      | false => simp
      | true =>
        have hn : q.name.toList.isEmpty = false := by
          have : q.value.name.toList = q.name.toList := by unfold eqB at he; simpa using he
          rw [← this]; exact hv
        rw [bound_eq he]
        simp only [hn, Bool.false_or, Bool.or_true, Bool.and_true]
        cases boundR q.spots q.name <;> simp
  · rw [h.val h2]
    simp only [e0_empty, Bool.true_or, Bool.and_true, Bool.or_true, ne_eq, h2, not_false_eq_true, decide_true]
    rcases h.kin with k | k | k | k | k | k
    · obtain ⟨a, b⟩ := h.nam (Or.inl k)
      rw [a, b]
      simp [k, e0_empty]
    · exact absurd k h2
    · simp [k, e0_empty]
    · simp [k, e0_empty]
    · obtain ⟨a, b⟩ := h.nam (Or.inr k)
      rw [a, b]
      simp [k, e0_empty]
    · simp [k]
/-- The two readers agree. -/
theorem parse_eq {ts : List Tok} (h : ∀ t ∈ ts, VT t) : parseP ts = parseR ts := by
  unfold parseP parseR
  simp only
  rcases query_ag (st := ⟨ts, false⟩) ⟨rfl, h⟩ with ⟨a, b⟩ | ⟨e, k⟩
  · simp [a, b]
  · have hs := shape ⟨ts, false⟩ (by rw [← e]; exact k.good)
    rw [← e, scope_eq (by rw [e]; exact hs)]

end Go.Proofs.YtobgbmfpicmpcaaGreatDoor.Pure

/- What is known of the tokens that come out of a text. No program in this text. -/
namespace Go.Proofs.YtobgbmfpicmpcaaGreatDoor.Pure

theorem eqB_eq {a b : ByteArray} (h : eqB a b = true) : a = b := by
  unfold eqB at h
  have : a.toList = b.toList := by simpa using h
  rw [ByteArray.toList_eq, ByteArray.toList_eq] at this
  exact Go.WideShapes.bytes_inj this
def litOk (s : ByteArray) : Bool := !digB (bt s 0) && (!(decide (bt s 0 = 45)) || !digB (bt s 1))
theorem lits_ok : lits.all litOk = true := by decide +kernel
theorem num_bounds {l : List UInt8} {v : Int} (h : numL l = some v) : -1000000000 ≤ v ∧ v ≤ 1000000000 := by
  cases l with
  | nil => simp [numL] at h
  | cons c r =>
    simp only [numL] at h
    split at h
    · split at h
      · cases h
      · rename_i hn
        injection h with h
        have h1 : ¬ 1000000000 < digs 0 r := fun e => hn (Or.inr e)
        omega
    · split at h
      · cases h
      · rename_i hn
        injection h with h
        have h1 : ¬ 1000000000 < digs 0 (c :: r) := fun e => hn (Or.inr e)
        omega
theorem one_valid {s : ByteArray} {k e : Nat} {t : Tok} (h : one s k = some (e, t)) (hk : k < s.size) : VT t := by
  unfold one at h
  split at h
  · split at h
    · cases h
    · injection h with h; injection h with _ h; subst h
      exact ⟨fun e => (by cases e), fun e => (by cases e), fun e => (by cases e)⟩
  · split at h
    · rename_i hd
      split at h
      · cases h
      · rename_i v hv
        injection h with h; injection h with h1 h; subst h
        have hb := num_bounds hv
        refine ⟨fun _ => hb.1, fun _ => hb.2, fun _ l hl => ?_⟩
        simp only
        have ok := List.all_eq_true.1 lits_ok l hl
        unfold litOk at ok
        simp only [Bool.and_eq_true, Bool.or_eq_true, Bool.not_eq_true', decide_eq_false_iff_not] at ok
        have hsp := span_le (p := digB) (s := s) (k := k + 1) hk
        cases he : eqB (s.extract k (span digB s (k + 1))) l with
        | false => rfl
        | true =>
          exfalso
          have e1 := eqB_eq he
          have b0 : bt l 0 = bt s k := by rw [← e1, bt_extract s k _ 0 hsp.2 (by omega)]; rfl
          rw [b0] at ok
          simp only [Bool.or_eq_true, Bool.and_eq_true, decide_eq_true_eq] at hd
          rcases hd with hd | ⟨hd, hd2⟩
          · rw [hd] at ok; exact absurd ok.1 (by simp)
          · have hk1 : k + 1 < s.size := bt_lt (by have := of_digB hd2; omega)
            have hgo := span_go (p := digB) hk1 hd2
            have hsp2 := span_le (p := digB) (s := s) (k := k + 1 + 1) hk1
            have b1 : bt l 1 = bt s (k + 1) := by rw [← e1, bt_extract s k _ 1 hsp.2 (by omega)]
            rw [b1, hd2] at ok
            rcases ok.2 with o | o
            · exact o hd
            · cases o
    · split at h
      · cases h
      · injection h with h; injection h with _ h; subst h
        exact ⟨fun e => (by cases e), fun e => (by cases e), fun e => (by cases e)⟩
theorem run_valid (s : ByteArray) : ∀ n k ts, s.size - k ≤ n → run s k = some ts → ∀ t ∈ ts, VT t := by
  intro n
  induction n with
  | zero =>
    intro k ts h0 h
    rw [run_end (by omega)] at h
    injection h with h; subst h
    intro t ht; cases ht
  | succ n ih =>
    intro k ts h0 h
    by_cases hk : k < s.size
    · by_cases hb : bt s k = 32
      · rw [run_blank hk hb] at h
        exact ih (k + 1) ts (by omega) h
      · cases ho : one s k with
        | none => rw [run_bad hk hb ho] at h; cases h
        | some x =>
          obtain ⟨e, t⟩ := x
          rw [run_tok hk hb ho] at h
          have hn := one_next ho hk
          cases hr : run s e with
          | none => rw [hr] at h; cases h
          | some us =>
            rw [hr] at h
            simp only [Option.map_some] at h
            injection h with h; subst h
            intro u hu
            rcases List.mem_cons.1 hu with rfl | hu
            · exact one_valid ho hk
            · exact ih e us (by omega) hr u hu
    · rw [run_end hk] at h
      injection h with h; subst h
      intro t ht; cases ht

end Go.Proofs.YtobgbmfpicmpcaaGreatDoor.Pure

/- The two ways to write a query, the program's and the reference's, as plain functions: the words that the program joins, the text that the reference makes. No program in this text. -/
namespace Go.Proofs.YtobgbmfpicmpcaaGreatDoor

def bl (s : ByteArray) : List UInt8 := s.data.toList
def decB (n : Int) : ByteArray := ⟨(Lib.itoa n).toArray⟩
/-- A list, gone through: the first is told apart. -/
def gather {α β : Type} (f : Bool → α → List β) : Bool → List α → List β
  | _, [] => []
  | b, x :: r => f b x ++ gather f false r
theorem gather_snoc {α β : Type} (f : Bool → α → List β) (x : α) : ∀ (l : List α) (b : Bool), gather f b (l ++ [x]) = gather f b l ++ f (b && l.isEmpty) x
  | [], b => by simp [gather]
  | y :: r, b => by simp [gather, gather_snoc f x r false]

/-- The program's words. -/
def termW (t : PTerm) : List ByteArray := if t.name.toList.isEmpty then [decB t.val] else [t.name, mDot, t.key]
def stepW (s : PSpot) : List ByteArray := [mTo, s.type] ++ ((if s.least = 1 ∧ s.most = 1 then [] else [mStar, decB s.least, mDots, decB s.most]) ++ [mArrow])
def nodeW (s : PSpot) : List ByteArray := [mOpen, s.name] ++ ((if s.label.toList.isEmpty then [] else [mColon, s.label]) ++ [mClose])
def spotW (first : Bool) (s : PSpot) : List ByteArray := (if s.type.toList.isEmpty then (if first then [] else [mComma]) else stepW s) ++ nodeW s
def markW (op : Int) : ByteArray := if op = 1 then mEq else if op = 2 then mNe else if op = 3 then mLt else if op = 4 then mLe else if op = 5 then mGt else if op = 6 then mGe else e0
def opW (c : PCond) : List ByteArray := if c.op = 7 then [kIS, kNULL] else if c.op = 8 then [kIS, kNOT, kNULL] else markW c.op :: termW c.b
def condW (first : Bool) (c : PCond) : List ByteArray := (if first then kWHERE else kAND) :: (termW c.a ++ opW c)
def matchW (q : PQuery) : List ByteArray := kMATCH :: (gather spotW true q.spots ++ gather condW true q.conds)
def oneW (x : PItem) : List ByteArray := if x.name.toList.isEmpty then [kCOUNT] else if x.key.toList.isEmpty then [x.name] else [x.name, mDot, x.key]
def itemW (first : Bool) (x : PItem) : List ByteArray := (if first then [] else [mComma]) ++ oneW x
def orderW (q : PQuery) : List ByteArray := if q.order = 0 then [] else [kORDER, kBY, decB q.order] ++ (if q.down then [kDESC] else [])
def skipW (q : PQuery) : List ByteArray := if q.skip = 0 then [] else [kSKIP, decB q.skip]
def limitW (q : PQuery) : List ByteArray := if q.limit = -1 then [] else [kLIMIT, decB q.limit]
def partW (q : PQuery) : List ByteArray := orderW q ++ (skipW q ++ limitW q)
def readW (q : PQuery) : List ByteArray := kRETURN :: (gather itemW true q.items ++ partW q)
def pairW (first : Bool) (p : PPair) : List ByteArray := (if first then [] else [mComma]) ++ [p.key, mColon, decB p.val]
def makeW (q : PQuery) : List ByteArray := [kCREATE, mOpen, q.label] ++ ((if q.pairs.isEmpty then [] else mBrace :: (gather pairW true q.pairs ++ [mUnbrace])) ++ [mClose])
def actW (q : PQuery) : List ByteArray :=
  if q.kind = 1 then readW q else if q.kind = 2 then [kSET, q.name, mDot, q.key, mEq] ++ termW q.value else if q.kind = 3 then [kDELETE, q.name]
  else if q.kind = 4 then [kCREATE, mOpen, q.name, mClose, mTo, q.type, mArrow, mOpen, q.to, mClose] else []
def queryW (q : PQuery) : List ByteArray := if q.kind = 6 then [kCALL, q.name] else if q.kind = 5 then makeW q else matchW q ++ actW q
def joined (ws : List ByteArray) : List UInt8 := Lib.join (ws.map bl) [32]

/-- The reference's text. -/
def termT (t : PTerm) : List UInt8 := if t.name.toList.isEmpty then Lib.itoa t.val else bl t.name ++ [32, 46, 32] ++ bl t.key
def stepT (s : PSpot) : List UInt8 :=
  if s.least = 1 ∧ s.most = 1 then [32, 45, 91, 32] ++ bl s.type ++ [32, 93, 45, 62]
  else [32, 45, 91, 32] ++ bl s.type ++ [32, 42, 32] ++ Lib.itoa s.least ++ [32, 46, 46, 32] ++ Lib.itoa s.most ++ [32, 93, 45, 62]
def nodeT (s : PSpot) : List UInt8 := [32, 40, 32] ++ bl s.name ++ (if s.label.toList.isEmpty then [] else [32, 58, 32] ++ bl s.label) ++ [32, 41]
def spotT (first : Bool) (s : PSpot) : List UInt8 := (if s.type.toList.isEmpty then (if first then [] else [32, 44]) else stepT s) ++ nodeT s
def opT (c : PCond) : List UInt8 :=
  if c.op = 7 then [32, 73, 83, 32, 78, 85, 76, 76] else if c.op = 8 then [32, 73, 83, 32, 78, 79, 84, 32, 78, 85, 76, 76]
  else if 1 ≤ c.op ∧ c.op ≤ 6 then [32] ++ bl (markW c.op) ++ [32] ++ termT c.b else []
def condT (first : Bool) (c : PCond) : List UInt8 := (if first then [32, 87, 72, 69, 82, 69, 32] else [32, 65, 78, 68, 32]) ++ termT c.a ++ opT c
def matchT (q : PQuery) : List UInt8 := bl kMATCH ++ gather spotT true q.spots ++ gather condT true q.conds
def oneT (x : PItem) : List UInt8 := if x.name.toList.isEmpty then bl kCOUNT else if x.key.toList.isEmpty then bl x.name else bl x.name ++ [32, 46, 32] ++ bl x.key
def itemT (first : Bool) (x : PItem) : List UInt8 := (if first then [] else [32, 44, 32]) ++ oneT x
def orderT (q : PQuery) : List UInt8 := if q.order = 0 then [] else [32, 79, 82, 68, 69, 82, 32, 66, 89, 32] ++ Lib.itoa q.order ++ (if q.down then [32, 68, 69, 83, 67] else [])
def skipT (q : PQuery) : List UInt8 := if q.skip = 0 then [] else [32, 83, 75, 73, 80, 32] ++ Lib.itoa q.skip
def limitT (q : PQuery) : List UInt8 := if q.limit = -1 then [] else [32, 76, 73, 77, 73, 84, 32] ++ Lib.itoa q.limit
def pairT (first : Bool) (p : PPair) : List UInt8 := (if first then [32, 123, 32] else [32, 44, 32]) ++ bl p.key ++ [32, 58, 32] ++ Lib.itoa p.val
def queryT (q : PQuery) : List UInt8 :=
  if q.kind = 2 then matchT q ++ [32, 83, 69, 84, 32] ++ bl q.name ++ [32, 46, 32] ++ bl q.key ++ [32, 61, 32] ++ termT q.value
  else if q.kind = 3 then matchT q ++ [32, 68, 69, 76, 69, 84, 69, 32] ++ bl q.name
  else if q.kind = 4 then matchT q ++ [32, 67, 82, 69, 65, 84, 69, 32, 40, 32] ++ bl q.name ++ [32, 41, 32, 45, 91, 32] ++ bl q.type ++ [32, 93, 45, 62, 32, 40, 32] ++ bl q.to ++ [32, 41]
  else if q.kind = 5 then [67, 82, 69, 65, 84, 69, 32, 40, 32] ++ bl q.label ++ gather pairT true q.pairs ++ (if q.pairs.isEmpty then [] else [32, 125]) ++ [32, 41]
  else if q.kind = 6 then [67, 65, 76, 76, 32] ++ bl q.name
  else matchT q ++ [32, 82, 69, 84, 85, 82, 78, 32] ++ gather itemT true q.items ++ orderT q ++ skipT q ++ limitT q

/-- A query that is the answer of reading. -/
structure Writable (q : PQuery) : Prop where
  kin : q.kind = 1 ∨ q.kind = 2 ∨ q.kind = 3 ∨ q.kind = 4 ∨ q.kind = 5 ∨ q.kind = 6
  ops : ∀ c ∈ q.conds, 1 ≤ c.op ∧ c.op ≤ 8
  its : q.kind = 1 → q.items ≠ []

end Go.Proofs.YtobgbmfpicmpcaaGreatDoor
namespace Go.Proofs.YtobgbmfpicmpcaaGreatDoor.Pure

def spaced (ws : List ByteArray) : List UInt8 := Lib.joinTail [32] (ws.map bl)
theorem spaced_nil : spaced [] = [] := rfl
theorem spaced_cons (a : ByteArray) (r : List ByteArray) : spaced (a :: r) = 32 :: (bl a ++ spaced r) := by simp [spaced, Lib.joinTail]
theorem spaced_append (a b : List ByteArray) : spaced (a ++ b) = spaced a ++ spaced b := by simp [spaced, Lib.joinTail]
theorem joined_cons (a : ByteArray) (r : List ByteArray) : joined (a :: r) = bl a ++ spaced r := by unfold joined spaced; rw [List.map_cons, Lib.join_cons]
theorem bl_dec (n : Int) : bl (decB n) = Lib.itoa n := by simp [bl, decB]
theorem term_sp (t : PTerm) : spaced (termW t) = 32 :: termT t := by
  unfold termW termT
  split
  · simp [spaced_cons, spaced_nil, bl_dec]
  · simp [spaced_cons, spaced_nil, mDot, bl]
theorem step_sp (s : PSpot) : spaced (stepW s) = stepT s := by
  unfold stepW stepT
  split <;> simp [spaced_cons, spaced_nil, bl_dec, mTo, mStar, mDots, mArrow] <;> simp [bl]
theorem node_sp (s : PSpot) : spaced (nodeW s) = nodeT s := by
  unfold nodeW nodeT
  split <;> simp [spaced_cons, spaced_nil, mOpen, mColon, mClose] <;> simp [bl]
theorem spot_sp (b : Bool) (s : PSpot) : spaced (spotW b s) = spotT b s := by
  unfold spotW spotT
  rw [spaced_append, node_sp]
  split
  · cases b <;> simp [spaced_cons, spaced_nil, mComma, bl]
  · rw [step_sp]
theorem op_sp (c : PCond) (h : 1 ≤ c.op ∧ c.op ≤ 8) : spaced (opW c) = opT c := by
  unfold opW opT
  split
  · simp [spaced_cons, spaced_nil, kIS, kNULL, bl]
  · split
    · simp [spaced_cons, spaced_nil, kIS, kNOT, kNULL, bl]
    · rw [if_pos (by omega), spaced_cons, term_sp]; simp
theorem cond_sp (b : Bool) (c : PCond) (h : 1 ≤ c.op ∧ c.op ≤ 8) : spaced (condW b c) = condT b c := by
  unfold condW condT
  rw [spaced_cons, spaced_append, term_sp, op_sp c h]
  cases b <;> simp [kWHERE, kAND, bl]
theorem gather_sp {α : Type} (f : Bool → α → List ByteArray) (g : Bool → α → List UInt8) : ∀ (l : List α) (b : Bool), (∀ b, ∀ x ∈ l, spaced (f b x) = g b x) → spaced (gather f b l) = gather g b l
  | [], b, _ => rfl
  | x :: r, b, h => by
    unfold gather
    rw [spaced_append, h b x (by simp), gather_sp f g r false (fun b y hy => h b y (by simp [hy]))]
theorem match_sp (q : PQuery) (h : ∀ c ∈ q.conds, 1 ≤ c.op ∧ c.op ≤ 8) (r : List ByteArray) : joined (matchW q ++ r) = matchT q ++ spaced r := by
  unfold matchW matchT
  rw [List.cons_append, joined_cons, spaced_append, spaced_append, gather_sp spotW spotT _ _ (fun b x _ => spot_sp b x), gather_sp condW condT _ _ (fun b x hx => cond_sp b x (h x hx))]
  simp
theorem one_sp (x : PItem) : spaced (oneW x) = 32 :: oneT x := by
  unfold oneW oneT
  split
  · simp [spaced_cons, spaced_nil]
  · split <;> simp [spaced_cons, spaced_nil, mDot] <;> simp [bl]
theorem item_sp (b : Bool) (x : PItem) : spaced (itemW b x) = (if b then [32] else []) ++ itemT b x := by
  unfold itemW itemT
  rw [spaced_append, one_sp]
  cases b <;> simp [spaced_cons, spaced_nil, mComma, bl]
theorem items_sp : ∀ (l : List PItem) (b : Bool), l ≠ [] → spaced (gather itemW b l) = (if b then [32] else []) ++ gather itemT b l
  | [], _, h => absurd rfl h
  | [x], b, _ => by simp [gather, item_sp]
  | x :: y :: r, b, _ => by
    rw [gather, spaced_append, item_sp, items_sp (y :: r) false (by simp)]
    simp [gather]
theorem order_sp (q : PQuery) : spaced (orderW q) = orderT q := by
  unfold orderW orderT
  split
  · rfl
  · cases hd : q.down
    · simp [spaced_cons, spaced_nil, kORDER, kBY, bl_dec]; simp [bl]
    · simp [spaced_cons, spaced_nil, kORDER, kBY, kDESC, bl_dec]; simp [bl]
theorem skip_sp (q : PQuery) : spaced (skipW q) = skipT q := by
  unfold skipW skipT
  split
  · rfl
  · simp [spaced_cons, spaced_nil, kSKIP, bl_dec]; simp [bl]
theorem limit_sp (q : PQuery) : spaced (limitW q) = limitT q := by
  unfold limitW limitT
  split
  · rfl
  · simp [spaced_cons, spaced_nil, kLIMIT, bl_dec]; simp [bl]
theorem part_sp (q : PQuery) : spaced (partW q) = orderT q ++ skipT q ++ limitT q := by
  unfold partW
  rw [spaced_append, spaced_append, order_sp, skip_sp, limit_sp, List.append_assoc]
theorem pair_sp (b : Bool) (p : PPair) : (if b then [32, 123] else []) ++ spaced (pairW b p) = pairT b p := by
  unfold pairW pairT
  cases b <;> simp [spaced_cons, spaced_nil, mComma, mColon, bl_dec] <;> simp [bl]
theorem pairs_sp : ∀ (l : List PPair) (b : Bool), l ≠ [] → (if b then [32, 123] else []) ++ spaced (gather pairW b l) = gather pairT b l
  | [], _, h => absurd rfl h
  | [x], b, _ => by simp only [gather, List.append_nil]; exact pair_sp b x
  | x :: y :: r, b, _ => by
    have := pairs_sp (y :: r) false (by simp)
    simp only [Bool.false_eq_true, if_false, List.nil_append] at this
    rw [gather, spaced_append, this, ← List.append_assoc, pair_sp]
    rfl
theorem make_sp (q : PQuery) : joined (makeW q) = [67, 82, 69, 65, 84, 69, 32, 40, 32] ++ bl q.label ++ gather pairT true q.pairs ++ (if q.pairs.isEmpty then [] else [32, 125]) ++ [32, 41] := by
  unfold makeW
  rw [List.cons_append, joined_cons]
  cases hp : q.pairs with
  | nil => simp [spaced_cons, spaced_nil, gather, kCREATE, mOpen, mClose] <;> simp [bl]
  | cons x r =>
    have h := pairs_sp (x :: r) true (by simp)
    simp only [if_true] at h
    rw [← h]
    simp [spaced_cons, spaced_append, spaced_nil, kCREATE, mOpen, mClose, mBrace, mUnbrace] <;> simp [bl]
theorem read_sp (q : PQuery) (h : q.items ≠ []) : spaced (readW q) = [32, 82, 69, 84, 85, 82, 78, 32] ++ gather itemT true q.items ++ orderT q ++ skipT q ++ limitT q := by
  unfold readW
  rw [spaced_cons, spaced_append, items_sp _ _ h, part_sp]
  simp [kRETURN, bl]
/-- The two write the same, of what can be read. -/
theorem text_eq {q : PQuery} (h : Writable q) : joined (queryW q) = queryT q := by
  unfold queryW queryT
  by_cases h6 : q.kind = 6
  · simp [h6, joined_cons, spaced_cons, spaced_nil, kCALL, bl]
  · by_cases h5 : q.kind = 5
    · rw [if_neg h6, if_pos h5, if_neg (by omega), if_neg (by omega), if_neg (by omega), if_pos h5]
      exact make_sp q
    · rw [if_neg h6, if_neg h5, match_sp q h.ops, if_neg h5, if_neg h6]
      unfold actW
      by_cases h1 : q.kind = 1
      · rw [if_pos h1, if_neg (by omega), if_neg (by omega), if_neg (by omega), read_sp q (h.its h1)]
        simp
      · by_cases h2 : q.kind = 2
        · rw [if_neg h1, if_pos h2, if_pos h2, spaced_append, term_sp]
          simp [spaced_cons, spaced_nil, kSET, mDot, mEq] <;> simp [bl]
        · by_cases h3 : q.kind = 3
          · rw [if_neg h1, if_neg h2, if_pos h3, if_neg h2, if_pos h3]
            simp [spaced_cons, spaced_nil, kDELETE] <;> simp [bl]
          · have h4 : q.kind = 4 := by have := h.kin; omega
            rw [if_neg h1, if_neg h2, if_neg h3, if_pos h4, if_neg h2, if_neg h3, if_pos h4]
            simp [spaced_cons, spaced_nil, kCREATE, mOpen, mClose, mTo, mArrow] <;> simp [bl]

end Go.Proofs.YtobgbmfpicmpcaaGreatDoor.Pure

/- What is read can be written; two queries that are the same; what Format answers, by either text. No program in this text. -/
namespace Go.Proofs.YtobgbmfpicmpcaaGreatDoor

def eqTerm (a b : PTerm) : Bool := eqB a.name b.name && eqB a.key b.key && decide (a.val = b.val)
def eqSpot (a b : PSpot) : Bool := eqB a.name b.name && eqB a.label b.label && eqB a.type b.type && decide (a.least = b.least) && decide (a.most = b.most)
def eqCond (a b : PCond) : Bool := decide (a.op = b.op) && eqTerm a.a b.a && eqTerm a.b b.b
def eqItem (a b : PItem) : Bool := eqB a.name b.name && eqB a.key b.key
def eqPair (a b : PPair) : Bool := eqB a.key b.key && decide (a.val = b.val)
def eqL {α : Type} (f : α → α → Bool) : List α → List α → Bool
  | [], [] => true
  | a :: r, b :: s => f a b && eqL f r s
  | _, _ => false
def eqRest (a b : PQuery) : Bool :=
  decide (a.kind = b.kind) && decide (a.order = b.order) && decide (a.down = b.down) && decide (a.skip = b.skip) && decide (a.limit = b.limit) && eqB a.name b.name && eqB a.key b.key && eqTerm a.value b.value && eqB a.type b.type && eqB a.to b.to && eqB a.label b.label
def eqQ (a b : PQuery) : Bool := eqL eqSpot a.spots b.spots && eqL eqCond a.conds b.conds && eqL eqItem a.items b.items && eqL eqPair a.pairs b.pairs && eqRest a b
def tooMany (q : PQuery) : Bool := decide (6 < q.spots.length) || decide (6 < q.conds.length) || decide (6 < q.items.length) || decide (6 < q.pairs.length)
/-- What Format answers, where t is what it writes. -/
def fmtOf (tk : ByteArray → Option (List Tok)) (t : List UInt8) (q : PQuery) : ByteArray × Int :=
  if tooMany q then (e0, 3)
  else if decide ((parseText (tk ⟨t.toArray⟩)).2 ≠ 0) || !eqQ (parseText (tk ⟨t.toArray⟩)).1 q then (e0, 3) else (⟨t.toArray⟩, 0)

end Go.Proofs.YtobgbmfpicmpcaaGreatDoor
namespace Go.Proofs.YtobgbmfpicmpcaaGreatDoor.Pure

theorem eqB_refl (a : ByteArray) : eqB a a = true := by unfold eqB; simp
theorem eqB_iff {a b : ByteArray} : eqB a b = true ↔ a = b := ⟨eqB_eq, fun h => h ▸ eqB_refl a⟩
theorem eqTerm_iff {a b : PTerm} : eqTerm a b = true ↔ a = b := by
  cases a; cases b; simp [eqTerm, eqB_iff, and_assoc]
theorem eqSpot_iff {a b : PSpot} : eqSpot a b = true ↔ a = b := by
  cases a; cases b; simp [eqSpot, eqB_iff, and_assoc]
theorem eqCond_iff {a b : PCond} : eqCond a b = true ↔ a = b := by
  cases a; cases b; simp [eqCond, eqTerm_iff, and_assoc]
theorem eqItem_iff {a b : PItem} : eqItem a b = true ↔ a = b := by
  cases a; cases b; simp [eqItem, eqB_iff]
theorem eqPair_iff {a b : PPair} : eqPair a b = true ↔ a = b := by
  cases a; cases b; simp [eqPair, eqB_iff]
theorem eqL_iff {α : Type} {f : α → α → Bool} (hf : ∀ {a b}, f a b = true ↔ a = b) : ∀ {l m : List α}, eqL f l m = true ↔ l = m
  | [], [] => by simp [eqL]
  | [], _ :: _ => by simp [eqL]
  | _ :: _, [] => by simp [eqL]
  | a :: r, b :: s => by simp [eqL, hf, eqL_iff hf]
theorem eqQ_iff {a b : PQuery} : eqQ a b = true ↔ a = b := by
  cases a; cases b
  simp only [eqQ, eqRest, Bool.and_eq_true, eqL_iff eqSpot_iff, eqL_iff eqCond_iff, eqL_iff eqItem_iff, eqL_iff eqPair_iff, eqB_iff, eqTerm_iff, decide_eq_true_eq, PQuery.mk.injEq]
  constructor
  · rintro ⟨⟨⟨⟨h1, h2⟩, h3⟩, h4⟩, ⟨⟨⟨⟨⟨⟨⟨⟨⟨⟨h5, h6⟩, h7⟩, h8⟩, h9⟩, h10⟩, h11⟩, h12⟩, h13⟩, h14⟩, h15⟩⟩
    exact ⟨h5, h1, h2, h3, h6, h7, h8, h9, h10, h11, h12, h13, h14, h15, h4⟩
  · rintro ⟨h5, h1, h2, h3, h6, h7, h8, h9, h10, h11, h12, h13, h14, h15, h4⟩
    exact ⟨⟨⟨⟨h1, h2⟩, h3⟩, h4⟩, ⟨⟨⟨⟨⟨⟨⟨⟨⟨⟨h5, h6⟩, h7⟩, h8⟩, h9⟩, h10⟩, h11⟩, h12⟩, h13⟩, h14⟩, h15⟩⟩

theorem good_of {a b : Bool} (h : a = true → b = true) (hb : b = false) : a = false := by
  cases a
  · rfl
  · rw [h rfl] at hb; cases hb
theorem opLoop_range : ∀ (l : List ByteArray) (i : Int) (st : RS), 1 ≤ i → (opLoop l i st).1 = 0 ∨ (1 ≤ (opLoop l i st).1 ∧ (opLoop l i st).1 < i + l.length)
  | [], i, st, _ => by simp [opLoop]
  | m :: r, i, st, h => by
    unfold opLoop
    split
    · right; simp; omega
    · rcases opLoop_range r (i + 1) st (by omega) with e | ⟨a, b⟩
      · exact Or.inl e
      · right; refine ⟨a, ?_⟩; simp only [List.length_cons]; omega
theorem cond_op {st : RS} (h : (condR st).2.bad = false) : 1 ≤ (condR st).1.op ∧ (condR st).1.op ≤ 8 := by
  unfold condR at h ⊢
  simp only at h ⊢
  split
  · simp only
    split <;> omega
  · rename_i hp
    rw [if_neg hp] at h
    simp only at h ⊢
    have h1 := good_of (termR_bad (st := (opLoop opsR 1 (termR st).2).2.orBad (decide ((opLoop opsR 1 (termR st).2).1 = 0)))) h
    have hr := opLoop_range opsR 1 (termR st).2 (by omega)
    have hl : opsR.length = 6 := rfl
    rw [hl] at hr
    unfold RS.orBad at h1
    simp only [Bool.or_eq_false_iff, decide_eq_false_iff_not] at h1
    omega
theorem condLoop_op (n : Nat) : ∀ (out : List PCond) (st : RS), (condLoop n out st).2.bad = false → (∀ c ∈ out, 1 ≤ c.op ∧ c.op ≤ 8) → ∀ c ∈ (condLoop n out st).1, 1 ≤ c.op ∧ c.op ≤ 8 := by
  induction n with
  | zero => intro out st _ h; exact h
  | succ n ih =>
    intro out st hb h
    unfold condLoop at hb ⊢
    simp only at hb ⊢
    split
    · rename_i hp
      rw [if_pos hp] at hb
      refine ih _ _ hb ?_
      intro c hc
      rcases List.mem_append.1 hc with hc | hc
      · exact h c hc
      · rw [List.mem_singleton.1 hc]
        exact cond_op (by simpa using (Bool.and_eq_true_iff.1 hp).1)
    · rename_i hp
      rw [if_neg hp] at hb
      intro c hc
      rcases List.mem_append.1 hc with hc | hc
      · exact h c hc
      · rw [List.mem_singleton.1 hc]
        exact cond_op hb
theorem match_op {st : RS} (h : (matchR st).2.bad = false) : ∀ c ∈ (matchR st).1.2, 1 ≤ c.op ∧ c.op ≤ 8 := by
  unfold matchR at h ⊢
  simp only [RS.orBad, Bool.or_eq_false_iff] at h ⊢
  by_cases hp : (!(matchLoop (st.rest.length + 1) [] (mustR kMATCH st)).2.bad && peekR kWHERE (matchLoop (st.rest.length + 1) [] (mustR kMATCH st)).2) = true
  · simp only [hp, if_true] at h ⊢
    exact condLoop_op _ _ _ h.1 (fun c hc => by cases hc)
  · simp only [hp] at h ⊢
    intro c hc; cases hc
theorem itemLoop_ge (n : Nat) : ∀ (out : List PItem) (st : RS), out.length ≤ (itemLoop n out st).1.length := by
  induction n with
  | zero => intro out st; exact Nat.le_refl _
  | succ n ih =>
    intro out st
    unfold itemLoop
    simp only
    split
    · exact Nat.le_refl _
    · split
      · exact Nat.le_trans (by simp) (ih _ _)
      · simp
theorem items_ne {st : RS} (h : (itemsR st).2.bad = false) : (itemsR st).1.items ≠ [] := by
  have hb : st.bad = false := by
    refine good_of (fun e => ?_) h
    unfold itemsR
    refine orBad_bad (partR_bad (partR_bad (orderR_bad ?_)))
    unfold itemLoop
    simp [e]
  have : 1 ≤ (itemsR st).1.items.length := by
    unfold itemsR
    simp only
    unfold itemLoop
    simp only [hb, Bool.false_eq_true, if_false]
    split
    · exact Nat.le_trans (by simp) (itemLoop_ge _ _ _)
    · simp
  intro e
  rw [e] at this
  simp at this
theorem query_writable {st : RS} (h : (queryR st).2.bad = false) : Writable (queryR st).1 := by
  have hk := (shape st h).kin
  refine ⟨hk, ?_, ?_⟩
  · unfold queryR at h ⊢
    by_cases h1 : peekR kCREATE st = true
    · simp [h1, query0]
    · by_cases h2 : peekR kCALL st = true
      · simp [h1, h2, query0]
      · simp only [h1, h2, if_false, Bool.false_eq_true] at h ⊢
        by_cases hb : (matchR st).2.bad = true
        · simp [hb] at h
        · have hb2 : (matchR st).2.bad = false := by simpa using hb
          simp only [hb2, Bool.false_eq_true, if_false] at h ⊢
          have hc : (behindR { query0 with spots := (matchR st).1.1, conds := (matchR st).1.2 } (matchR st).2).1.conds = (matchR st).1.2 := by
            unfold behindR
            split
            · rfl
            · split
              · rfl
              · split <;> rfl
          rw [hc]
          exact match_op hb2
  · unfold queryR at h ⊢
    by_cases h1 : peekR kCREATE st = true
    · simp [h1]
    · by_cases h2 : peekR kCALL st = true
      · simp [h1, h2]
      · simp only [h1, h2, if_false, Bool.false_eq_true] at h ⊢
        by_cases hb : (matchR st).2.bad = true
        · simp [hb] at h
        · have hb2 : (matchR st).2.bad = false := by simpa using hb
          simp only [hb2, Bool.false_eq_true, if_false] at h ⊢
          unfold behindR at h ⊢
          by_cases h3 : peekR kRETURN (matchR st).2 = true
          · simp only [h3, if_true] at h ⊢
            intro _
            exact items_ne h
          · by_cases h4 : peekR kSET (matchR st).2 = true
            · simp [h3, h4]
            · by_cases h5 : peekR kDELETE (matchR st).2 = true
              · simp [h3, h4, h5]
              · simp [h3, h4, h5]
theorem parse_writable (t : Option (List Tok)) (h : (parseText t).2 = 0) : Writable (parseText t).1 := by
  cases t with
  | none => simp [parseText] at h
  | some ts =>
    unfold parseText parseR at h ⊢
    simp only at h ⊢
    split
    · rename_i hb; rw [if_pos hb] at h; simp at h
    · rename_i hb
      rw [if_neg hb] at h
      split
      · refine query_writable ?_
        simp only [Bool.or_eq_true, not_or] at hb
        simpa using hb.1
      · rename_i hs; rw [if_neg hs] at h; simp at h
/-- Format answers the same by either text. -/
theorem fmt_eq (tk : ByteArray → Option (List Tok)) (q : PQuery) : fmtOf tk (joined (queryW q)) q = fmtOf tk (queryT q) q := by
  by_cases hw : Writable q
  · rw [text_eq hw]
  · have key : ∀ t : List UInt8, fmtOf tk t q = (e0, 3) := by
      intro t
      unfold fmtOf
      split
      · rfl
      · by_cases he : (parseText (tk ⟨t.toArray⟩)).2 = 0
        · have hn : eqQ (parseText (tk ⟨t.toArray⟩)).1 q = false := by
            cases h : eqQ (parseText (tk ⟨t.toArray⟩)).1 q
            · rfl
            · rw [← eqQ_iff.1 h] at hw
              exact absurd (parse_writable _ he) hw
          rw [hn]; simp
        · rw [if_pos (by simp [he])]
    rw [key, key]

end Go.Proofs.YtobgbmfpicmpcaaGreatDoor.Pure

/- Words that are joined by blanks are cut into these words again. No program in this text. -/
namespace Go.Proofs.YtobgbmfpicmpcaaGreatDoor.Pure

/-- A word that, wherever it stands ahead of a blank or of the end, is the token t. -/
structure WordOk (w : ByteArray) (t : Tok) : Prop where
  ne : 0 < w.size
  nb : bt w 0 ≠ 32
  cut : ∀ (s : ByteArray) (k : Nat), (∀ j, j < w.size → bt s (k + j) = bt w j) → k + w.size ≤ s.size → (bt s (k + w.size) = 32 ∨ k + w.size = s.size) → one s k = some (k + w.size, t)
theorem extract_word {w s : ByteArray} {k : Nat} (h : ∀ j, j < w.size → bt s (k + j) = bt w j) (hk : k + w.size ≤ s.size) : s.extract k (k + w.size) = w := by
  have hz := size_extract' s k (k + w.size) hk
  refine ext_bt (by omega) fun j hj => ?_
  rw [bt_extract s k (k + w.size) j hk (by omega), h j (by omega)]
theorem span_to {p : Int → Bool} {s : ByteArray} {e : Nat} : ∀ (n k : Nat), k + n = e → e ≤ s.size → (∀ j, k ≤ j → j < e → p (bt s j) = true) → (e < s.size → p (bt s e) = false) → span p s k = e
  | 0, k, h, he, _, hs => by
    obtain rfl : k = e := by omega
    exact span_stop hs
  | n + 1, k, h, he, hp, hs => by
    rw [span_go (by omega) (hp k (Nat.le_refl _) (by omega))]
    exact span_to n (k + 1) (by omega) he (fun j hj h2 => hp j (by omega) h2) hs
theorem end_stop {p : Int → Bool} {s : ByteArray} {e : Nat} (h32 : p 32 = false) (h : bt s e = 32 ∨ e = s.size) : e < s.size → p (bt s e) = false := by
  intro hl
  rcases h with h | h
  · rw [h]; exact h32
  · omega
theorem isWord_parts {w : ByteArray} (h : isWord w = true) : 1 ≤ w.size ∧ w.size ≤ 8 ∧ letB (bt w 0) = true ∧ ∀ j, j < w.size → alnB (bt w j) = true := by
  unfold isWord at h
  simp only [Bool.and_eq_true, decide_eq_true_eq] at h
  exact ⟨h.1.1.1, h.1.1.2, h.1.2, h.2⟩
theorem word_ok {w : ByteArray} (h : isWord w = true) : WordOk w ⟨1, w, 0⟩ := by
  obtain ⟨h1, h8, hl, ha⟩ := isWord_parts h
  refine ⟨h1, ?_, ?_⟩
  · intro e; rw [e] at hl; exact absurd hl (by decide)
  · intro s k hw hk he
    have hl' : letB (bt s k) = true := by have := hw 0 (by omega); rw [Nat.add_zero] at this; rw [this]; exact hl
    have hsp : span alnB s k = k + w.size := span_to w.size k rfl hk (fun j hj h2 => by
      have := hw (j - k) (by omega)
      rw [show k + (j - k) = j by omega] at this
      rw [this]; exact ha _ (by omega)) (end_stop (by decide) he)
    unfold one
    rw [if_pos hl', hsp, if_neg (by omega), extract_word hw hk]
theorem keyword_word : keywords.all isWord = true := by decide +kernel
theorem key_ok {w : ByteArray} (h : w ∈ keywords) : WordOk w ⟨1, w, 0⟩ := word_ok (List.all_eq_true.1 keyword_word w h)
def marks : List ByteArray := [mOpen, mClose, mColon, mComma, mDot, mDots, mStar, mTo, mArrow, mBrace, mUnbrace, mEq, mNe, mLt, mLe, mGt, mGe]
theorem mark1 {c : UInt8} (h : c.toNat = 46 ∨ c.toNat = 60 ∨ c.toNat = 62 ∨ c.toNat = 40 ∨ c.toNat = 41 ∨ c.toNat = 58 ∨ c.toNat = 44 ∨ c.toNat = 61 ∨ c.toNat = 42 ∨ c.toNat = 123 ∨ c.toNat = 125) : WordOk ⟨#[c]⟩ ⟨3, ⟨#[c]⟩, 0⟩ := by
  have hz : (⟨#[c]⟩ : ByteArray).size = 1 := rfl
  have h0 : bt (⟨#[c]⟩ : ByteArray) 0 = (c.toNat : Int) := rfl
  refine ⟨by omega, by omega, ?_⟩
  intro s k hw hk he
  have ex := extract_word hw hk
  rw [hz] at hw hk he ex ⊢
  have hc := hw 0 (by omega)
  rw [Nat.add_zero, h0] at hc
  have hd : bt s (k + 1) = 32 ∨ bt s (k + 1) = -1 := by
    rcases he with e | e
    · exact Or.inl e
    · exact Or.inr (bt_out (by omega))
  have hm : markLen s k = 1 := by
    unfold markLen
    simp only
    repeat' split
    all_goals omega
  have hl : letB (bt s k) = false := letB_no (by omega)
  have hg : digB (bt s k) = false := digB_no (by omega)
  unfold one
  rw [hl, hg, hm, ex]
  simp
  omega
theorem mark2 {c d : UInt8} (h : (c.toNat = 45 ∧ d.toNat = 91) ∨ (c.toNat = 46 ∧ d.toNat = 46) ∨ (c.toNat = 60 ∧ d.toNat = 61) ∨ (c.toNat = 60 ∧ d.toNat = 62) ∨ (c.toNat = 62 ∧ d.toNat = 61)) : WordOk ⟨#[c, d]⟩ ⟨3, ⟨#[c, d]⟩, 0⟩ := by
  have hz : (⟨#[c, d]⟩ : ByteArray).size = 2 := rfl
  have h0 : bt (⟨#[c, d]⟩ : ByteArray) 0 = (c.toNat : Int) := rfl
  have h1 : bt (⟨#[c, d]⟩ : ByteArray) 1 = (d.toNat : Int) := rfl
  refine ⟨by omega, by omega, ?_⟩
  intro s k hw hk he
  have ex := extract_word hw hk
  rw [hz] at hw hk he ex ⊢
  have hc := hw 0 (by omega)
  have hd := hw 1 (by omega)
  rw [Nat.add_zero, h0] at hc
  rw [h1] at hd
  have hm : markLen s k = 2 := by
    unfold markLen
    simp only
    repeat' split
    all_goals omega
  have hl : letB (bt s k) = false := letB_no (by omega)
  have hg : digB (bt s k) = false := digB_no (by omega)
  have hg2 : digB (bt s (k + 1)) = false := digB_no (by omega)
  unfold one
  rw [hl, hg, hg2, hm, ex]
  simp
theorem mark3 : WordOk mArrow ⟨3, mArrow, 0⟩ := by
  have hz : mArrow.size = 3 := rfl
  have h0 : bt mArrow 0 = 93 := rfl
  have h1 : bt mArrow 1 = 45 := rfl
  have h2 : bt mArrow 2 = 62 := rfl
  refine ⟨by omega, by omega, ?_⟩
  intro s k hw hk he
  have ex := extract_word hw hk
  rw [hz] at hw hk he ex ⊢
  have hc := hw 0 (by omega)
  have hd := hw 1 (by omega)
  have hf := hw 2 (by omega)
  rw [Nat.add_zero, h0] at hc
  rw [h1] at hd
  rw [h2] at hf
  have hm : markLen s k = 3 := by
    unfold markLen
    simp only
    repeat' split
    all_goals omega
  have hl : letB (bt s k) = false := letB_no (by omega)
  have hg : digB (bt s k) = false := digB_no (by omega)
  have hg2 : digB (bt s (k + 1)) = false := digB_no (by omega)
  unfold one
  rw [hl, hg, hg2, hm, ex]
  simp
theorem mark_ok {w : ByteArray} (h : w ∈ marks) : WordOk w ⟨3, w, 0⟩ := by
  simp only [marks, List.mem_cons, List.not_mem_nil, or_false] at h
  rcases h with rfl | rfl | rfl | rfl | rfl | rfl | rfl | rfl | rfl | rfl | rfl | rfl | rfl | rfl | rfl | rfl | rfl
  · exact mark1 (by decide)
  · exact mark1 (by decide)
  · exact mark1 (by decide)
  · exact mark1 (by decide)
  · exact mark1 (by decide)
  · exact mark2 (by decide)
  · exact mark1 (by decide)
  · exact mark2 (by decide)
  · exact mark3
  · exact mark1 (by decide)
  · exact mark1 (by decide)
  · exact mark1 (by decide)
  · exact mark2 (by decide)
  · exact mark1 (by decide)
  · exact mark2 (by decide)
  · exact mark1 (by decide)
  · exact mark2 (by decide)
/-- A numeral. -/
theorem dec_rec {u : Nat} (h : ¬ u < 10) : Lib.decDigits u = Lib.decDigits (u / 10) ++ [UInt8.ofNat (48 + u % 10)] := by rw [Lib.decDigits, dif_neg h]
theorem u8_small (n : Nat) (h : n < 256) : (UInt8.ofNat n).toNat = n := by simp; omega
theorem dec_digits (n : Nat) : ∀ u, u ≤ n → (∀ c ∈ Lib.decDigits u, 48 ≤ c.toNat ∧ c.toNat ≤ 57) ∧ digs 0 (Lib.decDigits u) = u ∧ (∃ c r, Lib.decDigits u = c :: r ∧ (c.toNat = 48 → u = 0 ∧ r = [])) := by
  induction n with
  | zero =>
    intro u hu
    obtain rfl : u = 0 := by omega
    rw [Lib.decDigits_one (by omega)]
    refine ⟨?_, ?_, _, _, rfl, fun _ => ⟨rfl, rfl⟩⟩
    · intro c hc
      rw [List.mem_singleton.1 hc, u8_small _ (by omega)]; omega
    · rw [digs_cons, digs_nil, dgt_eq, u8_small _ (by omega)]
  | succ n ih =>
    intro u hu
    by_cases h : u < 10
    · rw [Lib.decDigits_one h]
      refine ⟨?_, ?_, _, _, rfl, fun e => ⟨?_, rfl⟩⟩
      · intro c hc
        rw [List.mem_singleton.1 hc, u8_small _ (by omega)]; omega
      · rw [digs_cons, digs_nil, dgt_eq, u8_small _ (by omega)]; omega
      · rw [u8_small _ (by omega)] at e; omega
    · rw [dec_rec h]
      obtain ⟨ha, hd, c, r, hcr, hc⟩ := ih (u / 10) (by omega)
      refine ⟨?_, ?_, ?_⟩
      · intro x hx
        rcases List.mem_append.1 hx with hx | hx
        · exact ha x hx
        · rw [List.mem_singleton.1 hx, u8_small _ (by omega)]; omega
      · rw [digs_snoc, hd, dgt_eq, u8_small _ (by omega)]; omega
      · rw [hcr]
        exact ⟨c, r ++ [UInt8.ofNat (48 + u % 10)], rfl, fun e => absurd (hc e).1 (by omega)⟩

end Go.Proofs.YtobgbmfpicmpcaaGreatDoor.Pure

/- Numerals are cut as numbers; a joined text is cut into its words. No program in this text. -/
namespace Go.Proofs.YtobgbmfpicmpcaaGreatDoor.Pure

theorem all_bt {w : ByteArray} {P : Int → Prop} (h : ∀ c ∈ w.data.toList, P (c.toNat : Int)) : ∀ j, j < w.size → P (bt w j) := by
  intro j hj
  have hl : j < w.data.toList.length := by rw [len_toList]; exact hj
  rw [bt_get hl]
  exact h _ (List.getElem_mem hl)
theorem number_ok {n : Int} (h0 : -1000000000 ≤ n) (h1 : n ≤ 1000000000) : WordOk (decB n) ⟨2, decB n, n⟩ := by
  have hd : (decB n).data.toList = Lib.itoa n := by simp [decB]
  by_cases hn : n < 0
  · obtain ⟨u, rfl⟩ : ∃ u : Nat, n = -(u : Int) := ⟨n.natAbs, by omega⟩
    have hi : Lib.itoa (-(u : Int)) = 45 :: Lib.decDigits u := by unfold Lib.itoa; rw [if_pos (by omega)]; simp
    obtain ⟨ha, hg, c, r, hcr, hc⟩ := dec_digits u u (Nat.le_refl _)
    rw [hi] at hd
    have hz : (decB (-(u : Int))).size = (c :: r).length + 1 := by rw [← len_toList, hd, hcr]; rfl
    have hcut : ∀ j, j < (decB (-(u : Int))).size → bt (decB (-(u : Int))) j = (((45 :: Lib.decDigits u)[j]?.getD 0).toNat : Int) := by
      intro j hj
      have hl : j < (decB (-(u : Int))).data.toList.length := by rw [len_toList]; exact hj
      rw [bt_get hl]
      have e : (45 :: Lib.decDigits u)[j]? = some ((decB (-(u : Int))).data.toList[j]) := by rw [← hd]; exact List.getElem?_eq_getElem hl
      rw [e]; rfl
    have b0 : bt (decB (-(u : Int))) 0 = 45 := by rw [hcut 0 (by omega)]; rfl
    have bd : ∀ j, 1 ≤ j → j < (decB (-(u : Int))).size → 48 ≤ bt (decB (-(u : Int))) j ∧ bt (decB (-(u : Int))) j ≤ 57 := by
      intro j h1 hj
      obtain ⟨i, rfl⟩ : ∃ i, j = i + 1 := ⟨j - 1, by omega⟩
      rw [hcut _ hj, List.getElem?_cons_succ]
      have hi : i < (Lib.decDigits u).length := by rw [hcr]; omega
      rw [List.getElem?_eq_getElem hi]
      have := ha _ (List.getElem_mem hi)
      simp only [Option.getD_some]
      omega
    refine ⟨by omega, by omega, ?_⟩
    intro s k hw hk he
    have s0 : bt s k = 45 := by have := hw 0 (by omega); rw [Nat.add_zero, b0] at this; exact this
    have s1 : digB (bt s (k + 1)) = true := by rw [hw 1 (by rw [hz]; simp)]; exact digB_yes (bd 1 (by omega) (by rw [hz]; simp))
    have hsp : span digB s (k + 1) = k + (decB (-(u : Int))).size := span_to ((decB (-(u : Int))).size - 1) (k + 1) (by omega) hk (fun j hj h2 => by
      have := hw (j - k) (by omega)
      rw [show k + (j - k) = j by omega] at this
      rw [this]; exact digB_yes (bd _ (by omega) (by omega))) (end_stop (by decide) he)
    have hv : numL (decB (-(u : Int))).data.toList = some (-(u : Int)) := by
      rw [hd]
      have h45 : (45 : UInt8).toNat = 45 := rfl
      unfold numL
      simp only
      rw [if_pos h45, if_neg, hg]
      rintro (e | e)
      · rw [hcr] at e
        simp only [List.head?_cons, Option.map_some, Option.some.injEq] at e
        have := (hc e).1
        omega
      · rw [hg] at e; omega
    unfold one
    rw [s0, s1, hsp, extract_word hw hk, hv]
    rfl
  · obtain ⟨u, rfl⟩ : ∃ u : Nat, n = (u : Int) := ⟨n.toNat, by omega⟩
    have hi : Lib.itoa (u : Int) = Lib.decDigits u := by unfold Lib.itoa; rw [if_neg (by omega)]; simp
    obtain ⟨ha, hg, c, r, hcr, hc⟩ := dec_digits u u (Nat.le_refl _)
    rw [hi] at hd
    have hz : (decB (u : Int)).size = (c :: r).length := by rw [← len_toList, hd, hcr]
    have hpos : 0 < (decB (u : Int)).size := by rw [hz]; simp
    have bd : ∀ j, j < (decB (u : Int)).size → 48 ≤ bt (decB (u : Int)) j ∧ bt (decB (u : Int)) j ≤ 57 :=
      all_bt (P := fun x => 48 ≤ x ∧ x ≤ 57) (by rw [hd]; intro c hc; have := ha c hc; omega)
    have b0 := bd 0 hpos
    refine ⟨hpos, by omega, ?_⟩
    intro s k hw hk he
    have s0 : bt s k = bt (decB (u : Int)) 0 := by have := hw 0 hpos; rw [Nat.add_zero] at this; exact this
    have hsp : span digB s (k + 1) = k + (decB (u : Int)).size := span_to ((decB (u : Int)).size - 1) (k + 1) (by omega) hk (fun j hj h2 => by
      have := hw (j - k) (by omega)
      rw [show k + (j - k) = j by omega] at this
      rw [this]; exact digB_yes (bd _ (by omega))) (end_stop (by decide) he)
    have hv : numL (decB (u : Int)).data.toList = some (u : Int) := by
      rw [hd, hcr]
      have hc48 := ha c (by rw [hcr]; simp)
      unfold numL
      simp only
      rw [if_neg (by omega), if_neg, ← hcr, hg]
      rintro (⟨e, e2⟩ | e)
      · exact e2 (hc e).2
      · rw [← hcr, hg] at e; omega
    unfold one
    rw [s0, letB_no (by omega), digB_yes b0, hsp, extract_word hw hk, hv]
    rfl
theorem bt_drop {s : ByteArray} {k : Nat} {l : List UInt8} (h : s.data.toList.drop k = l) (j : Nat) (hj : j < l.length) : bt s (k + j) = ((l[j]'hj).toNat : Int) := by
  have hl : k + j < s.data.toList.length := by
    have := congrArg List.length h
    rw [List.length_drop] at this
    omega
  rw [bt_get hl]
  subst h
  rw [List.getElem_drop]
theorem run_word {s : ByteArray} {k : Nat} {w : ByteArray} {t : Tok} {r : List ByteArray} (hw : WordOk w t) (h : s.data.toList.drop k = bl w ++ spaced r) : run s k = (run s (k + w.size)).map (t :: ·) ∧ s.data.toList.drop (k + w.size) = spaced r := by
  have hlen : (bl w).length = w.size := len_toList w
  have hz := congrArg List.length h
  rw [List.length_drop, List.length_append, hlen, len_toList] at hz
  have hd : s.data.toList.drop (k + w.size) = spaced r := by
    rw [← List.drop_drop, h, List.drop_append, hlen]
    simp [← hlen]
  have h1 : ∀ j, j < w.size → bt s (k + j) = bt w j := by
    intro j hj
    rw [bt_drop h j (by rw [List.length_append, hlen]; omega), bt_get (by rw [len_toList]; exact hj), List.getElem_append_left (by rw [hlen]; exact hj)]
    rfl
  have hne := hw.ne
  have he : bt s (k + w.size) = 32 ∨ k + w.size = s.size := by
    cases r with
    | nil =>
      right
      rw [spaced_nil] at hz
      simp only [List.length_nil] at hz
      omega
    | cons a r =>
      left
      rw [spaced_cons] at hd
      have := bt_drop hd 0 (by simp)
      rw [Nat.add_zero] at this
      rw [this]; rfl
  have ho := hw.cut s k h1 (by omega) he
  refine ⟨run_tok (by omega) ?_ ho, hd⟩
  have := h1 0 hne
  rw [Nat.add_zero] at this
  rw [this]; exact hw.nb
theorem run_spaced : ∀ (ps : List (ByteArray × Tok)), (∀ p ∈ ps, WordOk p.1 p.2) → ∀ (s : ByteArray) (k : Nat), s.data.toList.drop k = spaced (ps.map (·.1)) → run s k = some (ps.map (·.2))
  | [], _, s, k, h => by
    rw [List.map_nil, spaced_nil] at h
    have := congrArg List.length h
    rw [List.length_drop, len_toList] at this
    simp only [List.length_nil] at this
    rw [run_end (by omega)]; rfl
  | (w, t) :: r, hp, s, k, h => by
    simp only [List.map_cons] at h ⊢
    rw [spaced_cons] at h
    have h32 := bt_drop h 0 (by simp)
    rw [Nat.add_zero] at h32
    have hz := congrArg List.length h
    rw [List.length_drop, len_toList] at hz
    simp only [List.length_cons] at hz
    have hd : s.data.toList.drop (k + 1) = bl w ++ spaced (r.map (·.1)) := by rw [← List.drop_drop, h]; rfl
    obtain ⟨e1, e2⟩ := run_word (hp (w, t) (by simp)) hd
    rw [run_blank (by omega) (by rw [h32]; rfl), e1, run_spaced r (fun p h => hp p (by simp [h])) s _ e2]
    rfl
/-- A text of words is cut into these. -/
theorem run_joined {ps : List (ByteArray × Tok)} (hp : ∀ p ∈ ps, WordOk p.1 p.2) : run ⟨(joined (ps.map (·.1))).toArray⟩ 0 = some (ps.map (·.2)) := by
  cases ps with
  | nil => rw [run_end]; rfl; simp [joined, Lib.join, List.intercalate, ByteArray.size]
  | cons p r =>
    obtain ⟨w, t⟩ := p
    have h : (⟨(joined (((w, t) :: r).map (·.1))).toArray⟩ : ByteArray).data.toList.drop 0 = bl w ++ spaced (r.map (·.1)) := by
      simp only [List.map_cons, List.drop_zero]
      rw [joined_cons]
    obtain ⟨e1, e2⟩ := run_word (hp (w, t) (by simp)) h
    rw [e1, run_spaced r (fun p h => hp p (by simp [h])) _ _ e2]
    rfl

end Go.Proofs.YtobgbmfpicmpcaaGreatDoor.Pure

