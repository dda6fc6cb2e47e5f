/- The two readers of queries agree, on all tokens that a text can have. No program in this text. -/
import Derived.Laws.Strings
import Derived.Lib.Join
import Derived.Lib.ItoaNum
import Derived.Deep.DeepMust
import Derived.Sort.Grow
import Derived.Lib.SmallJoins
import Derived.Lib.AtoiErrMem
import Derived.Deep.QuietTactic
import Derived.BigQuiet
import Derived.Deep.LoopGhost
import Derived.Deep.CutBlock
import Derived.Deep.DeepCutAuto
import Derived.Test.YtobgbmfpicmpcaaGreatDoorC03
namespace Go.Proofs.YtobgbmfpicmpcaaGreatDoor.Pure
variable {st : RS}

theorem order_ag (h : Ok st) (k : Int) : Ag (orderP k st) (orderR k st) := by
  unfold orderP orderR
  rw [peek_eq h (s := kORDER) (by simp [lits, keywords]), accept_eq h (s := kORDER) (by simp [lits, keywords]), h.good]
  by_cases hp : peekR kORDER st = true
  · simp only [hp, Bool.not_false, Bool.and_self, if_true]
    rcases expect_ag (h.has kORDER) (s := kBY) (by simp [lits, keywords]) with ⟨a, b⟩ | ⟨e, h1⟩
    · exact Or.inl ⟨acceptP_bad (numberP_bad a), hasR_bad (countR_bad b)⟩
    · rw [← e]
      rcases number_ag h1 1 k with ⟨a, b⟩ | ⟨e2, h2⟩
      · exact Or.inl ⟨acceptP_bad a, hasR_bad b⟩
      · rw [← e2, peek_eq h2 (s := kDESC) (by simp [lits, keywords]), accept_eq h2 (s := kDESC) (by simp [lits, keywords])]
        exact Or.inr ⟨rfl, h2.has kDESC⟩
  · simp only [hp]
    exact Or.inr ⟨rfl, h⟩
theorem part_ag (h : Ok st) {s : ByteArray} (hs : s ∈ lits) (k : Int) : Ag (partP s k st) (partR s k st) := by
  unfold partP partR
  rw [peek_eq h hs, accept_eq h hs, h.good]
  by_cases hp : peekR s st = true
  · simp only [hp, Bool.not_false, Bool.and_self, if_true]
    exact number_ag (h.has s) 0 1000000000
  · simp only [hp]
    exact Or.inr ⟨rfl, h⟩
theorem read_ag (h : Ok st) : Ag (readP st) (itemsR st) := by
  have hpa := list_ag (sep := mComma) (n := st.rest.length + 1) (by simp [lits, keywords]) item_ag itemP_bad (fun {st} _ => itemP_len st) h (by omega)
  unfold readP itemsR
  try simp only
  rw [itemLoop_eq _ _ _ h.good]
  generalize loopR itemR mComma (st.rest.length + 1) [] st = L at hpa ⊢
  rcases hpa with ⟨a, b⟩ | ⟨e3, h4⟩
  · refine Or.inl ⟨partP_bad (partP_bad (orderP_bad a)), ?_⟩
    unfold RS.orBad at b ⊢
    simp only [Bool.or_eq_true] at b ⊢
    rcases b with b | b
    · exact Or.inl (partR_bad (partR_bad (orderR_bad b)))
    · exact Or.inr b
  · have hg := h4.good
    rw [e3] at hg h4
    simp only [RS.orBad, Bool.or_eq_false_iff] at hg
    rw [e3]
    have e5 : L.2.orBad (decide (6 < L.1.length)) = L.2 := by rw [hg.2, orBad_false]
    simp only at h4 ⊢
    rw [e5] at h4 ⊢
    rw [hg.2]
    simp only [orBad_false]
    rcases order_ag h4 L.1.length with ⟨a, b⟩ | ⟨e, h1⟩
    · exact Or.inl ⟨partP_bad (partP_bad a), partR_bad (partR_bad b)⟩
    · rw [← e]
      rcases part_ag h1 (s := kSKIP) (by simp [lits, keywords]) 0 with ⟨a, b⟩ | ⟨e2, h2⟩
      · exact Or.inl ⟨partP_bad a, partR_bad b⟩
      · rw [← e2]
        rcases part_ag h2 (s := kLIMIT) (by simp [lits, keywords]) (-1) with ⟨a, b⟩ | ⟨e6, h6⟩
        · exact Or.inl ⟨a, b⟩
        · exact Or.inr ⟨by rw [e6], h6⟩
theorem link_ag (h : Ok st) (hp : peekR kCREATE st = true) : Ag (linkP (hasR kCREATE st)) (linkR st) := by
  unfold linkP linkR
  have e0 : mustR kCREATE st = hasR kCREATE st := by unfold mustR; rw [hp]; exact orBad_false _
  rw [e0]
  try simp only
  rcases expect_ag (h.has kCREATE) (s := mOpen) (by simp [lits, keywords]) with ⟨a, b⟩ | ⟨e, h1⟩
  · exact Or.inl ⟨expectP_bad (nameP_bad (expectP_bad (expectP_bad (titleP_bad (expectP_bad (expectP_bad (nameP_bad a))))))), mustR_bad (nameR_bad (mustR_bad (mustR_bad (titleR_bad (mustR_bad (mustR_bad (nameR_bad b)))))))⟩
  rw [← e]
  rcases name_ag h1 with ⟨a, b⟩ | ⟨e, h2⟩
  · exact Or.inl ⟨expectP_bad (nameP_bad (expectP_bad (expectP_bad (titleP_bad (expectP_bad (expectP_bad a)))))), mustR_bad (nameR_bad (mustR_bad (mustR_bad (titleR_bad (mustR_bad (mustR_bad b))))))⟩
  rw [← e]
  rcases expect_ag h2 (s := mClose) (by simp [lits, keywords]) with ⟨a, b⟩ | ⟨e, h3⟩
  · exact Or.inl ⟨expectP_bad (nameP_bad (expectP_bad (expectP_bad (titleP_bad (expectP_bad a))))), mustR_bad (nameR_bad (mustR_bad (mustR_bad (titleR_bad (mustR_bad b)))))⟩
  rw [← e]
  rcases expect_ag h3 (s := mTo) (by simp [lits, keywords]) with ⟨a, b⟩ | ⟨e, h4⟩
  · exact Or.inl ⟨expectP_bad (nameP_bad (expectP_bad (expectP_bad (titleP_bad a)))), mustR_bad (nameR_bad (mustR_bad (mustR_bad (titleR_bad b))))⟩
  rw [← e]
  rcases title_ag h4 with ⟨a, b⟩ | ⟨e, h5⟩
  · exact Or.inl ⟨expectP_bad (nameP_bad (expectP_bad (expectP_bad a))), mustR_bad (nameR_bad (mustR_bad (mustR_bad b)))⟩
  rw [← e]
  rcases expect_ag h5 (s := mArrow) (by simp [lits, keywords]) with ⟨a, b⟩ | ⟨e, h6⟩
  · exact Or.inl ⟨expectP_bad (nameP_bad (expectP_bad a)), mustR_bad (nameR_bad (mustR_bad b))⟩
  rw [← e]
  rcases expect_ag h6 (s := mOpen) (by simp [lits, keywords]) with ⟨a, b⟩ | ⟨e, h7⟩
  · exact Or.inl ⟨expectP_bad (nameP_bad a), mustR_bad (nameR_bad b)⟩
  rw [← e]
  rcases name_ag h7 with ⟨a, b⟩ | ⟨e, h8⟩
  · exact Or.inl ⟨expectP_bad a, mustR_bad b⟩
  rw [← e]
  rcases expect_ag h8 (s := mClose) (by simp [lits, keywords]) with ⟨a, b⟩ | ⟨e, h9⟩
  · exact Or.inl ⟨a, b⟩
  exact Or.inr ⟨by rw [e], h9⟩
theorem set_ag (h : Ok st) : Ag (setP st) (setR st) := by
  unfold setP setR
  try simp only
  rcases prop_ag h with ⟨a, b⟩ | ⟨e, h1⟩
  · exact Or.inl ⟨termP_bad (expectP_bad a), termR_bad (mustR_bad b)⟩
  · have e1 : (propP st).1.1 = (nameR st).1 := by rw [e]
    have e2 : (propP st).1.2 = (nameR (mustR mDot (nameR st).2)).1 := by rw [e]
    have e3 : (propP st).2 = (nameR (mustR mDot (nameR st).2)).2 := by rw [e]
    rw [← e1, ← e2, ← e3]
    rcases expect_ag h1 (s := mEq) (by simp [lits, keywords]) with ⟨a, b⟩ | ⟨e4, h4⟩
    · exact Or.inl ⟨termP_bad a, termR_bad b⟩
    · rw [← e4]
      rcases term_ag h4 with ⟨a, b⟩ | ⟨e5, h5⟩
      · exact Or.inl ⟨a, b⟩
      · exact Or.inr ⟨by rw [e5], h5⟩
theorem action_ag (h : Ok st) (q : PQuery) : Ag (actionP q st) (behindR q st) := by
  unfold actionP behindR
  simp only [peek_eq h (s := kRETURN) (by simp [lits, keywords]), peek_eq h (s := kSET) (by simp [lits, keywords]), peek_eq h (s := kDELETE) (by simp [lits, keywords]), peek_eq h (s := kCREATE) (by simp [lits, keywords]), accept_eq h (s := kRETURN) (by simp [lits, keywords]), accept_eq h (s := kSET) (by simp [lits, keywords]), accept_eq h (s := kDELETE) (by simp [lits, keywords]), accept_eq h (s := kCREATE) (by simp [lits, keywords])]
  by_cases h1 : peekR kRETURN st = true
  · simp only [h1, if_true]
    rcases read_ag (h.has kRETURN) with ⟨a, b⟩ | ⟨e, k⟩
    · exact Or.inl ⟨a, b⟩
    · exact Or.inr ⟨by rw [e], k⟩
  · simp only [h1]
    by_cases h2 : peekR kSET st = true
    · simp only [h2, if_true]
      rcases set_ag (h.has kSET) with ⟨a, b⟩ | ⟨e, k⟩
      · exact Or.inl ⟨a, b⟩
      · exact Or.inr ⟨by rw [e]; rfl, k⟩
    · simp only [h2]
      by_cases h3 : peekR kDELETE st = true
      · simp only [h3, if_true]
        rcases name_ag (h.has kDELETE) with ⟨a, b⟩ | ⟨e, k⟩
        · exact Or.inl ⟨a, b⟩
        · exact Or.inr ⟨by rw [e]; rfl, k⟩
      · simp only [h3]
        by_cases h4 : peekR kCREATE st = true
        · simp only [h4, if_true]
          rcases link_ag h h4 with ⟨a, b⟩ | ⟨e, k⟩
          · exact Or.inl ⟨a, b⟩
          · exact Or.inr ⟨by rw [e]; rfl, k⟩
        · simp only [h4]
          have h5 : peekR kCREATE st = false := by simpa using h4
          exact Or.inl ⟨rfl, linkR_bad (by unfold mustR; rw [h5]; exact orBad_true _)⟩

theorem matchLoop_len (n : Nat) : ∀ (out : List PSpot) (st : RS), (matchLoop n out st).2.rest.length ≤ st.rest.length := by
  induction n with
  | zero => intro out st; exact Nat.le_refl _
  | succ n ih =>
    intro out st
    simp only [matchLoop]
    have h1 := pathR_len st
    split
    · exact Nat.le_refl _
    · split
      · have h2 := ih (out ++ (pathR st).1) (hasR mComma (pathR st).2)
        have h3 := hasR_len mComma (pathR st).2
        omega
      · exact h1
def matP (st : RS) : (List PSpot × List PCond) × RS := (((spotsP (expectP kMATCH st)).1, (whereP (spotsP (expectP kMATCH st)).2).1), (whereP (spotsP (expectP kMATCH st)).2).2)
theorem match_ag (h : Ok st) : Ag (matP st) (matchR st) := by
  unfold matP matchR
  try simp only
  have l1 := mustR_len kMATCH st
  rcases expect_ag h (s := kMATCH) (by simp [lits, keywords]) with ⟨a, b⟩ | ⟨e, h1⟩
  · refine Or.inl ⟨whereP_bad (spotsP_bad a), orBad_bad ?_⟩
    simp [matchLoop, b]
  · rw [← e] at l1 ⊢
    have hpa := paths_ag h1 (n := st.rest.length + 1) (by omega)
    have lm : ∀ (L : List PSpot × RS), (spotsLoop (spotP spot0 (expectP kMATCH st)).2.rest.length [(spotP spot0 (expectP kMATCH st)).1] (spotP spot0 (expectP kMATCH st)).2) = L → spotsP (expectP kMATCH st) = (L.1, if 6 < L.1.length then failP else L.2) := by
      intro L hL
      unfold spotsP
      rw [hL]
    rcases hpa with ⟨a, b⟩ | ⟨e2, h2⟩
    · refine Or.inl ⟨?_, orBad_bad ?_⟩
      · refine whereP_bad ?_
        rw [lm _ rfl]
        simp only
        split; rfl; exact a
      · simp [b]
    · rw [lm _ rfl, ← e2]
      generalize spotsLoop (spotP spot0 (expectP kMATCH st)).2.rest.length [(spotP spot0 (expectP kMATCH st)).1] (spotP spot0 (expectP kMATCH st)).2 = L at e2 h2
      have l2 : L.2.rest.length ≤ st.rest.length := by
        rw [e2]
        exact Nat.le_trans (matchLoop_len _ _ _) l1
      by_cases h6 : 6 < L.1.length
      · simp only [h6, if_true, decide_true, Bool.true_or]
        exact Or.inl ⟨whereP_bad rfl, orBad_true _⟩
      · simp only [h6, if_false, decide_false, Bool.false_or]
        unfold whereP
        rw [peek_eq h2 (s := kWHERE) (by simp [lits, keywords]), accept_eq h2 (s := kWHERE) (by simp [lits, keywords]), h2.good]
        by_cases hw : peekR kWHERE L.2 = true
        · simp only [hw, Bool.not_false, Bool.and_self, if_true]
          have l3 := hasR_len kWHERE L.2
          have hpa := list_ag (sep := kAND) (n := st.rest.length + 1) (by simp [lits, keywords]) cond_ag condP_bad (fun {st} _ => condP_len st) (h2.has kWHERE) (by omega)
          rw [condLoop_eq]
          rcases hpa with ⟨a, b⟩ | ⟨e3, h3⟩
          · exact Or.inl ⟨a, b⟩
          · exact Or.inr ⟨by rw [e3], h3⟩
        · simp only [hw]
          simp only [Bool.and_false, Bool.false_eq_true, if_false, List.length_nil]
          exact Or.inr ⟨by simp [orBad_false], h2⟩
theorem query_ag (h : Ok st) : Ag (queryP st) (queryR st) := by
  unfold queryP queryR
  simp only [peek_eq h (s := kCALL) (by simp [lits, keywords]), peek_eq h (s := kCREATE) (by simp [lits, keywords]), accept_eq h (s := kCALL) (by simp [lits, keywords]), accept_eq h (s := kCREATE) (by simp [lits, keywords])]
  by_cases h1 : peekR kCALL st = true
  · have h2 : peekR kCREATE st = false := peekR_two h1 (by decide +kernel)
    simp only [h1, h2, if_true, Bool.false_eq_true, if_false]
    rcases name_ag (h.has kCALL) with ⟨a, b⟩ | ⟨e, k⟩
    · exact Or.inl ⟨a, b⟩
    · exact Or.inr ⟨by rw [e], k⟩
  · simp only [h1]
    by_cases h2 : peekR kCREATE st = true
    · simp only [h2, if_true, Bool.false_eq_true, if_false]
      rcases make_ag (h.has kCREATE) with ⟨a, b⟩ | ⟨e, k⟩
      · exact Or.inl ⟨a, b⟩
      · exact Or.inr ⟨by rw [e], k⟩
    · simp only [h2, Bool.false_eq_true, if_false]
      have hm := match_ag h
      unfold matP at hm
      rcases hm with ⟨a, b⟩ | ⟨e, k⟩
      · refine Or.inl ⟨actionP_bad a, ?_⟩
        rw [b]; exact b
      · have e1 : (spotsP (expectP kMATCH st)).1 = (matchR st).1.1 := by rw [← e]
        have e2 : (whereP (spotsP (expectP kMATCH st)).2).1 = (matchR st).1.2 := by rw [← e]
        have e3 : (whereP (spotsP (expectP kMATCH st)).2).2 = (matchR st).2 := by rw [← e]
        simp only at k
        rw [e1, e2, e3]
        rw [e3] at k
        rw [k.good]
        exact action_ag k _

/-- What a query of its kind has not, is empty. -/
structure Shape (q : PQuery) : Prop where
  val : q.kind ≠ 2 → q.value.name = e0
  nam : q.kind = 1 ∨ q.kind = 5 → q.name = e0 ∧ q.to = e0
  kin : q.kind = 1 ∨ q.kind = 2 ∨ q.kind = 3 ∨ q.kind = 4 ∨ q.kind = 5 ∨ q.kind = 6
theorem shape (st : RS) (h : (queryR st).2.bad = false) : Shape (queryR st).1 := by
  unfold queryR at h ⊢
  split
  · exact ⟨fun _ => rfl, fun _ => ⟨rfl, rfl⟩, by simp⟩
  · rename_i hc
    rw [if_neg hc] at h
    split
    · exact ⟨fun _ => rfl, fun e => by simp at e, by simp⟩
    · rename_i hd
      rw [if_neg hd] at h
      simp only at h ⊢
      split
      · rename_i hb
        rw [if_pos hb] at h
        simp only at h
        rw [hb] at h
        cases h
      · unfold behindR
        split
        · exact ⟨fun _ => rfl, fun _ => ⟨rfl, rfl⟩, by simp⟩
        · split
          · exact ⟨fun e => by simp at e, fun e => by simp at e, by simp⟩
          · split
            · exact ⟨fun _ => rfl, fun e => by simp at e, by simp⟩
            · exact ⟨fun _ => rfl, fun e => by simp at e, by simp⟩
theorem e0_empty : e0.toList.isEmpty = true := by decide +kernel
theorem bound_eq {l : List PSpot} {a b : ByteArray} (h : eqB a b = true) : boundR l a = boundR l b := by
  unfold boundR eqB at *
  have : a.toList = b.toList := by simpa using h
  rw [this]
theorem scope_eq {q : PQuery} (h : Shape q) : inScopeP q = scopedR q := by
  unfold inScopeP scopedR usedP namesR
  simp only [List.all_append]
  by_cases h2 : q.kind = 2
  · simp only [h2]
    simp only [ne_eq, Int.reduceEq, not_false_eq_true, if_true, not_true_eq_false, decide_false, Bool.false_or, List.all_cons, List.all_nil, Bool.and_true, Int.le_refl, Int.reduceLE, and_self]
    cases hv : q.value.name.toList.isEmpty with
    | true => simp
    | false =>
      cases he : eqB q.value.name q.name with
      | false => simp
      | true =>
        have hn : q.name.toList.isEmpty = false := by
          have : q.value.name.toList = q.name.toList := by unfold eqB at he; simpa using he
          rw [← this]; exact hv
        rw [bound_eq he]
        simp only [hn, Bool.false_or, Bool.or_true, Bool.and_true]
        cases boundR q.spots q.name <;> simp
  · rw [h.val h2]
    simp only [e0_empty, Bool.true_or, Bool.and_true, Bool.or_true, ne_eq, h2, not_false_eq_true, decide_true]
    rcases h.kin with k | k | k | k | k | k
    · obtain ⟨a, b⟩ := h.nam (Or.inl k)
      rw [a, b]
      simp [k, e0_empty]
    · exact absurd k h2
    · simp [k, e0_empty]
    · simp [k, e0_empty]
    · obtain ⟨a, b⟩ := h.nam (Or.inr k)
      rw [a, b]
      simp [k, e0_empty]
    · simp [k]
/-- The two readers agree. -/
theorem parse_eq {ts : List Tok} (h : ∀ t ∈ ts, VT t) : parseP ts = parseR ts := by
  unfold parseP parseR
  simp only
  rcases query_ag (st := ⟨ts, false⟩) ⟨rfl, h⟩ with ⟨a, b⟩ | ⟨e, k⟩
  · simp [a, b]
  · have hs := shape ⟨ts, false⟩ (by rw [← e]; exact k.good)
    rw [← e, scope_eq (by rw [e]; exact hs)]

end Go.Proofs.YtobgbmfpicmpcaaGreatDoor.Pure

/- What is known of the tokens that come out of a text. No program in this text. -/
namespace Go.Proofs.YtobgbmfpicmpcaaGreatDoor.Pure

theorem eqB_eq {a b : ByteArray} (h : eqB a b = true) : a = b := by
  unfold eqB at h
  have : a.toList = b.toList := by simpa using h
  rw [ByteArray.toList_eq, ByteArray.toList_eq] at this
  exact Go.WideShapes.bytes_inj this
def litOk (s : ByteArray) : Bool := !digB (bt s 0) && (!(decide (bt s 0 = 45)) || !digB (bt s 1))
theorem lits_ok : lits.all litOk = true := by decide +kernel
theorem num_bounds {l : List UInt8} {v : Int} (h : numL l = some v) : -1000000000 ≤ v ∧ v ≤ 1000000000 := by
  cases l with
  | nil => simp [numL] at h
  | cons c r =>
    simp only [numL] at h
    split at h
    · split at h
      · cases h
      · rename_i hn
        injection h with h
        have h1 : ¬ 1000000000 < digs 0 r := fun e => hn (Or.inr e)
        omega
    · split at h
      · cases h
      · rename_i hn
        injection h with h
        have h1 : ¬ 1000000000 < digs 0 (c :: r) := fun e => hn (Or.inr e)
        omega
theorem one_valid {s : ByteArray} {k e : Nat} {t : Tok} (h : one s k = some (e, t)) (hk : k < s.size) : VT t := by
  unfold one at h
  split at h
  · split at h
    · cases h
    · injection h with h; injection h with _ h; subst h
      exact ⟨fun e => (by cases e), fun e => (by cases e), fun e => (by cases e)⟩
  · split at h
    · rename_i hd
      split at h
      · cases h
      · rename_i v hv
        injection h with h; injection h with h1 h; subst h
        have hb := num_bounds hv
        refine ⟨fun _ => hb.1, fun _ => hb.2, fun _ l hl => ?_⟩
        simp only
        have ok := List.all_eq_true.1 lits_ok l hl
        unfold litOk at ok
        simp only [Bool.and_eq_true, Bool.or_eq_true, Bool.not_eq_true', decide_eq_false_iff_not] at ok
        have hsp := span_le (p := digB) (s := s) (k := k + 1) hk
        cases he : eqB (s.extract k (span digB s (k + 1))) l with
        | false => rfl
        | true =>
          exfalso
          have e1 := eqB_eq he
          have b0 : bt l 0 = bt s k := by rw [← e1, bt_extract s k _ 0 hsp.2 (by omega)]; rfl
          rw [b0] at ok
          simp only [Bool.or_eq_true, Bool.and_eq_true, decide_eq_true_eq] at hd
          rcases hd with hd | ⟨hd, hd2⟩
          · rw [hd] at ok; exact absurd ok.1 (by simp)
          · have hk1 : k + 1 < s.size := bt_lt (by have := of_digB hd2; omega)
            have hgo := span_go (p := digB) hk1 hd2
            have hsp2 := span_le (p := digB) (s := s) (k := k + 1 + 1) hk1
            have b1 : bt l 1 = bt s (k + 1) := by rw [← e1, bt_extract s k _ 1 hsp.2 (by omega)]
            rw [b1, hd2] at ok
            rcases ok.2 with o | o
            · exact o hd
            · cases o
    · split at h
      · cases h
      · injection h with h; injection h with _ h; subst h
        exact ⟨fun e => (by cases e), fun e => (by cases e), fun e => (by cases e)⟩
theorem run_valid (s : ByteArray) : ∀ n k ts, s.size - k ≤ n → run s k = some ts → ∀ t ∈ ts, VT t := by
  intro n
  induction n with
  | zero =>
    intro k ts h0 h
    rw [run_end (by omega)] at h
    injection h with h; subst h
    intro t ht; cases ht
  | succ n ih =>
    intro k ts h0 h
    by_cases hk : k < s.size
    · by_cases hb : bt s k = 32
      · rw [run_blank hk hb] at h
        exact ih (k + 1) ts (by omega) h
      · cases ho : one s k with
        | none => rw [run_bad hk hb ho] at h; cases h
        | some x =>
          obtain ⟨e, t⟩ := x
          rw [run_tok hk hb ho] at h
          have hn := one_next ho hk
          cases hr : run s e with
          | none => rw [hr] at h; cases h
          | some us =>
            rw [hr] at h
            simp only [Option.map_some] at h
            injection h with h; subst h
            intro u hu
            rcases List.mem_cons.1 hu with rfl | hu
            · exact one_valid ho hk
            · exact ih e us (by omega) hr u hu
    · rw [run_end hk] at h
      injection h with h; subst h
      intro t ht; cases ht

end Go.Proofs.YtobgbmfpicmpcaaGreatDoor.Pure

/- The two ways to write a query, the program's and the reference's, as plain functions: the words that the program joins, the text that the reference makes. No program in this text. -/
namespace Go.Proofs.YtobgbmfpicmpcaaGreatDoor

def bl (s : ByteArray) : List UInt8 := s.data.toList
def decB (n : Int) : ByteArray := ⟨(Lib.itoa n).toArray⟩
/-- A list, gone through: the first is told apart. -/
def gather {α β : Type} (f : Bool → α → List β) : Bool → List α → List β
  | _, [] => []
  | b, x :: r => f b x ++ gather f false r
theorem gather_snoc {α β : Type} (f : Bool → α → List β) (x : α) : ∀ (l : List α) (b : Bool), gather f b (l ++ [x]) = gather f b l ++ f (b && l.isEmpty) x
  | [], b => by simp [gather]
  | y :: r, b => by simp [gather, gather_snoc f x r false]

/-- The program's words. -/
def termW (t : PTerm) : List ByteArray := if t.name.toList.isEmpty then [decB t.val] else [t.name, mDot, t.key]
def stepW (s : PSpot) : List ByteArray := [mTo, s.type] ++ ((if s.least = 1 ∧ s.most = 1 then [] else [mStar, decB s.least, mDots, decB s.most]) ++ [mArrow])
def nodeW (s : PSpot) : List ByteArray := [mOpen, s.name] ++ ((if s.label.toList.isEmpty then [] else [mColon, s.label]) ++ [mClose])
def spotW (first : Bool) (s : PSpot) : List ByteArray := (if s.type.toList.isEmpty then (if first then [] else [mComma]) else stepW s) ++ nodeW s
def markW (op : Int) : ByteArray := if op = 1 then mEq else if op = 2 then mNe else if op = 3 then mLt else if op = 4 then mLe else if op = 5 then mGt else if op = 6 then mGe else e0
def opW (c : PCond) : List ByteArray := if c.op = 7 then [kIS, kNULL] else if c.op = 8 then [kIS, kNOT, kNULL] else markW c.op :: termW c.b
def condW (first : Bool) (c : PCond) : List ByteArray := (if first then kWHERE else kAND) :: (termW c.a ++ opW c)
def matchW (q : PQuery) : List ByteArray := kMATCH :: (gather spotW true q.spots ++ gather condW true q.conds)
def oneW (x : PItem) : List ByteArray := if x.name.toList.isEmpty then [kCOUNT] else if x.key.toList.isEmpty then [x.name] else [x.name, mDot, x.key]
def itemW (first : Bool) (x : PItem) : List ByteArray := (if first then [] else [mComma]) ++ oneW x
def orderW (q : PQuery) : List ByteArray := if q.order = 0 then [] else [kORDER, kBY, decB q.order] ++ (if q.down then [kDESC] else [])
def skipW (q : PQuery) : List ByteArray := if q.skip = 0 then [] else [kSKIP, decB q.skip]
def limitW (q : PQuery) : List ByteArray := if q.limit = -1 then [] else [kLIMIT, decB q.limit]
def partW (q : PQuery) : List ByteArray := orderW q ++ (skipW q ++ limitW q)
def readW (q : PQuery) : List ByteArray := kRETURN :: (gather itemW true q.items ++ partW q)
def pairW (first : Bool) (p : PPair) : List ByteArray := (if first then [] else [mComma]) ++ [p.key, mColon, decB p.val]
def makeW (q : PQuery) : List ByteArray := [kCREATE, mOpen, q.label] ++ ((if q.pairs.isEmpty then [] else mBrace :: (gather pairW true q.pairs ++ [mUnbrace])) ++ [mClose])
def actW (q : PQuery) : List ByteArray :=
  if q.kind = 1 then readW q else if q.kind = 2 then [kSET, q.name, mDot, q.key, mEq] ++ termW q.value else if q.kind = 3 then [kDELETE, q.name]
  else if q.kind = 4 then [kCREATE, mOpen, q.name, mClose, mTo, q.type, mArrow, mOpen, q.to, mClose] else []
def queryW (q : PQuery) : List ByteArray := if q.kind = 6 then [kCALL, q.name] else if q.kind = 5 then makeW q else matchW q ++ actW q
def joined (ws : List ByteArray) : List UInt8 := Lib.join (ws.map bl) [32]

end Go.Proofs.YtobgbmfpicmpcaaGreatDoor
namespace Go.Proofs.YtobgbmfpicmpcaaGreatDoor.Pure

def spaced (ws : List ByteArray) : List UInt8 := Lib.joinTail [32] (ws.map bl)
theorem spaced_nil : spaced [] = [] := rfl
theorem spaced_cons (a : ByteArray) (r : List ByteArray) : spaced (a :: r) = 32 :: (bl a ++ spaced r) := by simp [spaced, Lib.joinTail]
theorem spaced_append (a b : List ByteArray) : spaced (a ++ b) = spaced a ++ spaced b := by simp [spaced, Lib.joinTail]
theorem joined_cons (a : ByteArray) (r : List ByteArray) : joined (a :: r) = bl a ++ spaced r := by unfold joined spaced; rw [List.map_cons, Lib.join_cons]
theorem bl_dec (n : Int) : bl (decB n) = Lib.itoa n := by simp [bl, decB]
end Go.Proofs.YtobgbmfpicmpcaaGreatDoor.Pure

/- The program's writer in memory: the words so far; numerals; a slice that is only read. -/
namespace Go.Proofs.YtobgbmfpicmpcaaGreatDoor
open Go.RowKit

/-- A slice whose n elements of k cells are xs, wherever they lie. -/
def Sees (w : World) (k : Nat) (v : Value) (n : Nat) (xs : List Value) : Prop :=
  xs.length = n * k ∧ ∃ ao cap, v = .slice ao n cap ∧ n ≤ cap ∧ (0 < n → ∃ g o, ao = some ⟨g, o, none⟩ ∧ ∀ j u, xs[j]? = some u → w.cell? ⟨g, o + j, none⟩ = some u)
theorem sees_of_own {w : World} {B k n : Nat} {T : TypeId} {v : Value} {xs : List Value} (h : w.ownsRow B T k v n xs) (hl : xs.length = n * k) : Sees w k v n xs := by
  refine ⟨hl, ?_⟩
  rcases h.2 with ⟨hv, h0⟩ | ⟨g, cap, cur, hv, hb, hg, hnc, _⟩
  · exact ⟨none, 0, by rw [hv, h0], by omega, fun h => by omega⟩
  · refine ⟨_, cap, hv, hnc, fun _ => ⟨g, 0, rfl, fun j u hu => ?_⟩⟩
    have hj : j < xs.length := by
      by_cases hj : j < xs.length
      · exact hj
      · rw [List.getElem?_eq_none (by omega)] at hu; cases hu
    rw [hv] at h
    rw [Nat.zero_add, ← hu]
    exact h.cellAt _ (by omega)
theorem Sees.below {w w' : World} {k n : Nat} {v : Value} {xs : List Value} (h : Sees w k v n xs) (hb : Below w.heap.size w w') : Sees w' k v n xs := by
  obtain ⟨hl, ao, cap, rfl, hc, hs⟩ := h
  refine ⟨hl, ao, cap, rfl, hc, fun hn => ?_⟩
  obtain ⟨g, o, rfl, hx⟩ := hs hn
  refine ⟨g, o, rfl, fun j u hu => ?_⟩
  have h1 := hx j u hu
  have hg : (⟨g, o + j, none⟩ : Addr).block < w.heap.size := Lib.lt_of_cell h1
  rw [hb.cell hg]; exact h1
theorem sees_at {α : Type} {w : World} {k n cap : Nat} {ao : Option Addr} {l : List α} (f : α → List Value) (hk : ∀ a, (f a).length = k) (h : Sees w k (.slice ao n cap) l.length (l.flatMap f)) {i : Nat} (hi : i < l.length) :
    ∃ g o, ao = some ⟨g, o, none⟩ ∧ ∀ j, j < k → w.cell? ⟨g, o + i * k + j, none⟩ = (f l[i])[j]? := by
  obtain ⟨hl, ao', cap', e, hc, hs⟩ := h
  injection e with e1 e2 e3
  subst e1
  obtain ⟨g, o, rfl, hx⟩ := hs (by omega)
  refine ⟨g, o, rfl, fun j hj => ?_⟩
  have hget := flat_at f hk l i hi j hj
  have hsome : (f l[i])[j]? = some ((f l[i])[j]'(by rw [hk]; exact hj)) := List.getElem?_eq_getElem _
  rw [Nat.add_assoc, hx _ _ (by rw [hget, hsome]), hsome]
theorem sees_slice {α : Type} {w : World} {k : Nat} {v : Value} {l : List α} {xs : List Value} (h : Sees w k v l.length xs) : ∃ ao cap, v = .slice ao l.length cap ∧ l.length ≤ cap := by
  obtain ⟨_, ao, cap, e, hc, _⟩ := h
  exact ⟨ao, cap, e, hc⟩

def I64 (n : Int) : Prop := -9223372036854775808 ≤ n ∧ n ≤ 9223372036854775807
/-- The table of powers of ten, which a numeral is made by. -/
def Tab (w : World) : Prop := Lib.TabIs Tryz.prog w "internal/strconv.uint64pow10" .u64 Lib.pow10Tab
theorem gPow : Tryz.prog.globalNamed "internal/strconv.uint64pow10" = some 0 := by kernel_rfl
theorem Tab.below {w w' : World} (h : Tab w) (hb : Below w.heap.size w w') : Tab w' := Joins.tab_stays gPow h hb (Nat.le_refl _)
theorem below_grow (w : World) (os : Array Obj) : Below w.heap.size w (Sort.grow w os) :=
  ⟨rfl, rfl, rfl, by simp [Sort.grow], fun k hk => by simp only [Sort.grow]; rw [Array.getElem?_append_left hk]⟩
theorem itoa_ {W : World} {n : Int} (hn : I64 n) (ht : Tab W) : Calls Tryz.prog 36 #[.int .i64 n] W fun e W' => e = .returned (.string (decB n)) ∧ Below W.heap.size W W' := by
  refine (Tryz.strconv_Itoa n hn.1 hn.2 W ht).mono ?_
  rintro e W' ⟨rfl, k, os, rfl⟩
  exact ⟨rfl, (Joins.below_draws _ W k).trans (below_grow (W.drewN k) os)⟩

/-- The writer's words. -/
structure WI (W0 : World) (b : Nat) (ws : List ByteArray) (w : World) : Prop where
  low : Below W0.heap.size W0 w
  nb : W0.heap.size ≤ b
  box : ∃ v, Loc w b #[v] 97 ∧ w.ownsRow W0.heap.size 9 1 v ws.length (strs ws)
section
variable {W0 w w2 : World} {b : Nat} {ws : List ByteArray}
theorem WI.quiet (h : WI W0 b ws w) (g : w.grownBy w2 none) : WI W0 b ws w2 := by
  obtain ⟨v, hl, hr⟩ := h.box
  exact ⟨⟨g.os.trans h.low.os, g.tape.trans h.low.tape, g.output.trans h.low.output, Nat.le_trans h.low.size g.size, fun k hk => (g.block k (Nat.lt_of_lt_of_le hk h.low.size) (by simp)).trans (h.low.block k hk)⟩, h.nb, v, hl.grown g (by simp), kept_none hr g⟩
theorem WI.later (h : WI W0 b ws w) (hb : Below w.heap.size w w2) : WI W0 b ws w2 := h.quiet (grown_below hb none)
theorem WI.alloc (h : WI W0 b ws w) (o : Obj) : WI W0 b ws (w.alloc o) := h.quiet (grown_alloc w o none)
theorem WI.drew (h : WI W0 b ws w) (n : Nat) : WI W0 b ws (w.drewN n) := h.quiet (grown_drew w n none)
theorem WI.tab (h : WI W0 b ws w) (ht : Tab W0) : Tab w := ht.below h.low
end
/-- All blocks but strings' and the writer's are as they were. -/
def FrW (w w' : World) : Prop := ∀ x cs T', Loc w x cs T' → T' ≠ 9 → T' ≠ 97 → Loc w' x cs T'
theorem FrW.refl (w : World) : FrW w w := fun _ _ _ h _ _ => h
theorem FrW.trans {a b c : World} (h : FrW a b) (k : FrW b c) : FrW a c := fun x cs T hl h1 h2 => k x cs T (h x cs T hl h1 h2) h1 h2
theorem FrW.quiet {w w' : World} (g : w.grownBy w' none) : FrW w w' := fun _ _ _ hl _ _ => hl.grown g (by simp)
theorem FrW.alloc {w w' : World} (h : FrW w w') (o : Obj) : FrW w (w'.alloc o) := h.trans (FrW.quiet (grown_alloc w' o none))
theorem FrW.later {w w' w2 : World} (h : FrW w w') (hb : Below w'.heap.size w' w2) : FrW w w2 := h.trans (FrW.quiet (grown_below hb none))

set_option maxRecDepth 100000 in
set_option maxHeartbeats 2000000 in
theorem add_ {W0 W : World} {b g m : Nat} {ws new : List ByteArray} {cs : Array Value} (h : WI W0 b ws W) (hg : Loc W g cs 9) (hcs : cs.toList = strs new) (hm : new.length = m) (hm0 : 0 < m) (hl : ws.length + m ≤ 3000) :
    Calls Tryz.prog 104 #[.pointer (some ⟨b, 0, none⟩), .slice (some ⟨g, 0, none⟩) m m] W fun e W' => e = .returned (.tuple #[]) ∧ WI W0 b (ws ++ new) W' ∧ FrW W W' := by
  obtain ⟨i1, hj, hy0, hy1, hy2⟩ := info_parts Tryz.infoString
  obtain ⟨v, hb, hr⟩ := h.box
  obtain ⟨ao, cap, rfl, hcap⟩ := row_slice (l := ws) hr
  have c0 : W.cell? ⟨b, 0, none⟩ = some (.slice ao ws.length cap) := (hb.cell 0).trans rfl
  have HN : Hid (∀ j u, (strs new)[j]? = some u → W.cell? ((⟨g, 0, none⟩ : Addr).add j) = some u) := by
    show ∀ j u, (strs new)[j]? = some u → _
    rw [← hcs]
    exact World.news_of_block hg
  have HO : Hid (∀ u ∈ strs new, u.oneCell' = true) := by
    intro u hu
    obtain ⟨s, _, rfl⟩ := List.mem_map.1 hu
    rfl
  have HL : Hid ((strs new).length = m * 1) := by show _ = _; rw [strs_length, hm, Nat.mul_one]
  have HB := Lib.hid hb
  have HR := Lib.hid hr
  have HH := Lib.hid h
  have HM := Lib.hid hm
  clear h hb hr hg hcs hm
  go_enter Tryz.func104, Tryz.ntmps104
  go_wp2_with (at_builtin; go_must (refine wpList_append_lies _ rfl _ _ 56 rfl W0.heap.size 9 i1 (.string ⟨#[]⟩) 1 16 Tryz.underlying56 hj hy0 hy1 hy2 rfl (by decide) (.slice ao ws.length cap) _ _ rfl HR.out _ m m (strs new) rfl HL.out HN.out HO.out hm0 (by unfold maxLen; omega) (by omega) HH.out.low.size _ rfl ?_; intro g2 cap2 w5 hown hgrow _ _; have l5 := HB.out.byRow HR.out hgrow (by decide); have c5 : w5.cell? ⟨b, 0, none⟩ = some (.slice ao ws.length cap) := (l5.cell 0).trans rfl; have f5 : w5.frozen? ⟨b, 0, none⟩ = false := l5.free 0; have HL5 := Lib.hid l5; have HO5 := Lib.hid hown; have HG5 := Lib.hid hgrow; clear l5 hown hgrow c0))
  go_end0
  refine ⟨rfl, ⟨?_, HH.out.nb, _, HL5.out.set 0 _, ?_⟩, ?_⟩
  · have hB := HH.out.low
    have hb1 : Below W0.heap.size W0 w5 := by
      refine ⟨HG5.out.os.trans hB.os, HG5.out.tape.trans hB.tape, HG5.out.output.trans hB.output, Nat.le_trans hB.size HG5.out.size, fun k hk => ?_⟩
      refine (HG5.out.block k (Nat.lt_of_lt_of_le hk hB.size) ?_).trans (hB.block k hk)
      intro e
      have := (HR.out.lt k e.symm).1
      omega
    exact hb1.setCell (by show W0.heap.size ≤ b; exact HH.out.nb) _
  · have hg2 := grown_set w5 b 0 (.slice (some ⟨g2, 0, none⟩) (ws.length + m) cap2)
    have hk := HO5.out.kept hg2 (Or.inr (row_loc HO5.out HL5.out (by decide)))
    rw [strs_append, List.length_append, HM.out]
    exact hk
  · intro x cs' T' hx h1 h2
    have h3 := hx.byRow HR.out HG5.out (fun e => h1 e.symm)
    refine h3.setOther ?_ 0 _
    rintro rfl
    have h4 := HL5.out
    unfold Loc at h3 h4
    rw [h3] at h4
    injection h4 with h4
    injection h4 with _ h4
    exact h2 h4

set_option maxRecDepth 100000 in
set_option maxHeartbeats 2000000 in
theorem betweenNo {W0 W : World} {b : Nat} {n : Int} {ws : List ByteArray} {s : ByteArray} (h : WI W0 b ws W) (hn : ¬ 0 < n) :
    Calls Tryz.prog 168 #[.pointer (some ⟨b, 0, none⟩), .int .i64 n, .string s] W fun e W' => e = .returned (.tuple #[]) ∧ WI W0 b ws W' ∧ FrW W W' := by
  have HH := Lib.hid h
  clear h
  go_enter Tryz.func168, Tryz.ntmps168
  go_wp2_with fail
  go_end0
  exact ⟨rfl, HH.out, FrW.refl _⟩
set_option maxRecDepth 100000 in
set_option maxHeartbeats 2000000 in
theorem betweenYes {W0 W : World} {b k : Nat} {ws : List ByteArray} {s : ByteArray} (h : WI W0 b ws W) (hk : 0 < k) (hl : ws.length ≤ 2900) :
    Calls Tryz.prog 168 #[.pointer (some ⟨b, 0, none⟩), .int .i64 (k : Int), .string s] W fun e W' => e = .returned (.tuple #[]) ∧ WI W0 b (ws ++ [s]) W' ∧ FrW W W' := by
  have hki : 0 < (k : Int) := by omega
  have HH := Lib.hid (h.alloc (.cells #[.string s] 9))
  have HG := Lib.hid (Loc.new W #[.string s] 9)
  clear h hk
  go_enter Tryz.func168, Tryz.ntmps168
  go_wp2_with fail
  refine (add_ (m := 1) (new := [s]) HH.out HG.out rfl rfl (by omega) (by omega)).mono ?_
  rintro e W1 ⟨rfl, h1, f1⟩
  have H1 := Lib.hid h1
  have F1 : Hid (FrW W W1) := ((FrW.refl W).alloc _).trans f1
  clear h1 f1
  go_wp2_with fail
  go_end0
  exact ⟨rfl, H1.out, F1.out⟩

end Go.Proofs.YtobgbmfpicmpcaaGreatDoor

/- What is read can be written; two queries that are the same; what Format answers, by either text. No program in this text. -/
namespace Go.Proofs.YtobgbmfpicmpcaaGreatDoor

def eqTerm (a b : PTerm) : Bool := eqB a.name b.name && eqB a.key b.key && decide (a.val = b.val)
def eqSpot (a b : PSpot) : Bool := eqB a.name b.name && eqB a.label b.label && eqB a.type b.type && decide (a.least = b.least) && decide (a.most = b.most)
def eqCond (a b : PCond) : Bool := decide (a.op = b.op) && eqTerm a.a b.a && eqTerm a.b b.b
def eqItem (a b : PItem) : Bool := eqB a.name b.name && eqB a.key b.key
def eqPair (a b : PPair) : Bool := eqB a.key b.key && decide (a.val = b.val)
def eqL {α : Type} (f : α → α → Bool) : List α → List α → Bool
  | [], [] => true
  | a :: r, b :: s => f a b && eqL f r s
  | _, _ => false
def eqRest (a b : PQuery) : Bool :=
  decide (a.kind = b.kind) && decide (a.order = b.order) && decide (a.down = b.down) && decide (a.skip = b.skip) && decide (a.limit = b.limit) && eqB a.name b.name && eqB a.key b.key && eqTerm a.value b.value && eqB a.type b.type && eqB a.to b.to && eqB a.label b.label
def eqQ (a b : PQuery) : Bool := eqL eqSpot a.spots b.spots && eqL eqCond a.conds b.conds && eqL eqItem a.items b.items && eqL eqPair a.pairs b.pairs && eqRest a b
def tooMany (q : PQuery) : Bool := decide (6 < q.spots.length) || decide (6 < q.conds.length) || decide (6 < q.items.length) || decide (6 < q.pairs.length)
/-- What Format answers, where t is what it writes. -/
def fmtOf (tk : ByteArray → Option (List Tok)) (t : List UInt8) (q : PQuery) : ByteArray × Int :=
  if tooMany q then (e0, 3)
  else if decide ((parseText (tk ⟨t.toArray⟩)).2 ≠ 0) || !eqQ (parseText (tk ⟨t.toArray⟩)).1 q then (e0, 3) else (⟨t.toArray⟩, 0)

end Go.Proofs.YtobgbmfpicmpcaaGreatDoor
namespace Go.Proofs.YtobgbmfpicmpcaaGreatDoor.Pure

theorem eqB_refl (a : ByteArray) : eqB a a = true := by unfold eqB; simp
theorem eqB_iff {a b : ByteArray} : eqB a b = true ↔ a = b := ⟨eqB_eq, fun h => h ▸ eqB_refl a⟩
theorem eqTerm_iff {a b : PTerm} : eqTerm a b = true ↔ a = b := by
  cases a; cases b; simp [eqTerm, eqB_iff, and_assoc]
theorem eqSpot_iff {a b : PSpot} : eqSpot a b = true ↔ a = b := by
  cases a; cases b; simp [eqSpot, eqB_iff, and_assoc]
theorem eqCond_iff {a b : PCond} : eqCond a b = true ↔ a = b := by
  cases a; cases b; simp [eqCond, eqTerm_iff, and_assoc]
theorem eqItem_iff {a b : PItem} : eqItem a b = true ↔ a = b := by
  cases a; cases b; simp [eqItem, eqB_iff]
theorem eqPair_iff {a b : PPair} : eqPair a b = true ↔ a = b := by
  cases a; cases b; simp [eqPair, eqB_iff]
theorem eqL_iff {α : Type} {f : α → α → Bool} (hf : ∀ {a b}, f a b = true ↔ a = b) : ∀ {l m : List α}, eqL f l m = true ↔ l = m
  | [], [] => by simp [eqL]
  | [], _ :: _ => by simp [eqL]
  | _ :: _, [] => by simp [eqL]
  | a :: r, b :: s => by simp [eqL, hf, eqL_iff hf]
theorem eqQ_iff {a b : PQuery} : eqQ a b = true ↔ a = b := by
  cases a; cases b
  simp only [eqQ, eqRest, Bool.and_eq_true, eqL_iff eqSpot_iff, eqL_iff eqCond_iff, eqL_iff eqItem_iff, eqL_iff eqPair_iff, eqB_iff, eqTerm_iff, decide_eq_true_eq, PQuery.mk.injEq]
  constructor
  · rintro ⟨⟨⟨⟨h1, h2⟩, h3⟩, h4⟩, ⟨⟨⟨⟨⟨⟨⟨⟨⟨⟨h5, h6⟩, h7⟩, h8⟩, h9⟩, h10⟩, h11⟩, h12⟩, h13⟩, h14⟩, h15⟩⟩
    exact ⟨h5, h1, h2, h3, h6, h7, h8, h9, h10, h11, h12, h13, h14, h15, h4⟩
  · rintro ⟨h5, h1, h2, h3, h6, h7, h8, h9, h10, h11, h12, h13, h14, h15, h4⟩
    exact ⟨⟨⟨⟨h1, h2⟩, h3⟩, h4⟩, ⟨⟨⟨⟨⟨⟨⟨⟨⟨⟨h5, h6⟩, h7⟩, h8⟩, h9⟩, h10⟩, h11⟩, h12⟩, h13⟩, h14⟩, h15⟩⟩

theorem good_of {a b : Bool} (h : a = true → b = true) (hb : b = false) : a = false := by
  cases a
  · rfl
  · rw [h rfl] at hb; cases hb
end Go.Proofs.YtobgbmfpicmpcaaGreatDoor.Pure

/- slices.Equal of the lists of a query: are they the same? -/
namespace Go.Proofs.YtobgbmfpicmpcaaGreatDoor
open Go.RowKit

theorem eqL_len {α : Type} (f : α → α → Bool) : ∀ {l m : List α}, eqL f l m = true → l.length = m.length
  | [], [], _ => rfl
  | [], _ :: _, h => by simp [eqL] at h
  | _ :: _, [], h => by simp [eqL] at h
  | a :: r, b :: s, h => by
    simp only [eqL, Bool.and_eq_true] at h
    simp [eqL_len f h.2]
theorem eqL_next {α : Type} (f : α → α → Bool) : ∀ {l m : List α} {k : Nat} (h1 : k < l.length) (h2 : k < m.length), eqL f (l.take k) (m.take k) = true → f l[k] m[k] = true → eqL f (l.take (k + 1)) (m.take (k + 1)) = true
  | [], _, _, h, _, _, _ => by simp at h
  | _ :: _, [], _, _, h, _, _ => by simp at h
  | a :: r, b :: s, 0, _, _, _, e => by simpa [eqL] using e
  | a :: r, b :: s, k + 1, h1, h2, ht, e => by
    simp only [List.take_succ_cons, eqL, Bool.and_eq_true] at ht ⊢
    exact ⟨ht.1, eqL_next f (by simpa using h1) (by simpa using h2) ht.2 (by simpa using e)⟩
theorem eqL_diff {α : Type} (f : α → α → Bool) : ∀ {l m : List α} {k : Nat} (h1 : k < l.length) (h2 : k < m.length), f l[k] m[k] = false → eqL f l m = false
  | [], _, _, h, _, _ => by simp at h
  | _ :: _, [], _, _, h, _ => by simp at h
  | a :: r, b :: s, 0, _, _, e => by simp only [List.getElem_cons_zero] at e; simp [eqL, e]
  | a :: r, b :: s, k + 1, h1, h2, e => by
    have := eqL_diff f (l := r) (m := s) (k := k) (by simpa using h1) (by simpa using h2) (by simpa using e)
    simp [eqL, this]
theorem toList_ne {a b : ByteArray} (h : a ≠ b) : (a.toList == b.toList) = false := by
  cases he : (a.toList == b.toList)
  · rfl
  · exact absurd (Pure.eqB_eq (a := a) (b := b) he) h
theorem drew_drew (w : World) (a b : Nat) : (w.drewN a).drewN b = w.drewN (a + b) := by simp [World.drewN, Nat.add_assoc]

set_option maxRecDepth 100000 in
set_option maxHeartbeats 9000000 in
theorem eqSpots {W : World} {v1 v2 : Value} {l m : List PSpot} (h1 : Sees W 5 v1 l.length (spotCells l)) (h2 : Sees W 5 v2 m.length (spotCells m)) (n2 : m.length ≤ 3000) :
    Calls Tryz.prog 112 #[v1, v2] W fun e W' => e = .returned (.bool (eqL eqSpot l m)) ∧ ∃ n, W' = W.drewN n := by
  obtain ⟨a1, k1, rfl, hk1⟩ := sees_slice (l := l) h1
  obtain ⟨a2, k2, rfl, hk2⟩ := sees_slice (l := m) h2
  have HS1 := Lib.hid h1
  have HS2 := Lib.hid h2
  clear h1 h2
  by_cases hlen : l.length = m.length
  · rw [hlen]
    have HL := Lib.hid hlen
    have hnb : ((m.length : Int) != (m.length : Int)) = false := by simp
    clear hlen
    go_enter Tryz.func112, Tryz.ntmps112
    go_wp2_with fail
    go_loopg [13] m.length (fun n iv w => ∃ k : Nat, iv = .int .i64 (k : Int) ∧ k + n = m.length ∧ eqL eqSpot (l.take k) (m.take k) = true ∧ ∃ d, w = W.drewN d)
    case atStart => exact ⟨0, rfl, by omega, rfl, 0, rfl⟩
    case round =>
      obtain ⟨k, rfl, hk, he, d, rfl⟩ := hrel
      have HE := Lib.hid he
      clear he
      by_cases hlt : k < m.length
      · have hlt1 : k < l.length := by have := HL.out; omega
        obtain ⟨g, o, rfl, ca⟩ := sees_at (l := l) fSpot (fun _ => rfl) HS1.out hlt1
        obtain ⟨g', o', rfl, cb⟩ := sees_at (l := m) fSpot (fun _ => rfl) HS2.out hlt
        have HD : Hid (eqSpot l[k] m[k] = false → eqL eqSpot l m = false) := eqL_diff eqSpot hlt1 hlt
        have HN : Hid (eqSpot l[k] m[k] = true → eqL eqSpot (l.take (k + 1)) (m.take (k + 1)) = true) := eqL_next eqSpot hlt1 hlt HE.out
        obtain ⟨p, hp⟩ : ∃ p, l[k] = p := ⟨_, rfl⟩
        obtain ⟨r, hr⟩ : ∃ r, m[k] = r := ⟨_, rfl⟩
        rw [hp] at ca HD HN
        rw [hr] at cb HD HN
        clear hp hr
        obtain ⟨p0, p1, p2, p3, p4⟩ := p
        obtain ⟨r0, r1, r2, r3, r4⟩ := r
        have x0 : W.cell? ⟨g, o + k * 5, none⟩ = some (.string p0) := ca 0 (by decide)
        have y0 : W.cell? ⟨g', o' + k * 5, none⟩ = some (.string r0) := cb 0 (by decide)
        have x1 : W.cell? ⟨g, o + k * 5 + 1, none⟩ = some (.string p1) := ca 1 (by decide)
        have y1 : W.cell? ⟨g', o' + k * 5 + 1, none⟩ = some (.string r1) := cb 1 (by decide)
        have x2 : W.cell? ⟨g, o + k * 5 + 2, none⟩ = some (.string p2) := ca 2 (by decide)
        have y2 : W.cell? ⟨g', o' + k * 5 + 2, none⟩ = some (.string r2) := cb 2 (by decide)
        have x3 : W.cell? ⟨g, o + k * 5 + 3, none⟩ = some (.int .i64 p3) := ca 3 (by decide)
        have y3 : W.cell? ⟨g', o' + k * 5 + 3, none⟩ = some (.int .i64 r3) := cb 3 (by decide)
        have x4 : W.cell? ⟨g, o + k * 5 + 4, none⟩ = some (.int .i64 p4) := ca 4 (by decide)
        have y4 : W.cell? ⟨g', o' + k * 5 + 4, none⟩ = some (.int .i64 r4) := cb 4 (by decide)
        have hki : (k : Int) < (m.length : Int) := by omega
        clear ca cb hlt hlt1
        by_cases e0 : p0 ≠ r0
        · have hne : (p0.toList == r0.toList) = false := toList_ne e0
          have HQ : Hid (eqL eqSpot l m = false) := HD.out (by rw [Bool.eq_false_iff]; intro h; have := Pure.eqSpot_iff.1 h; simp at this; exact e0 (by simp [this]))
          clear e0 HD HN
          go_wp2_with fail
          go_quiet (fail)
          go_wp2_with fail
          go_ret
          exact ⟨by rw [HQ.out]; rfl, _, drew_drew _ _ _⟩
        rw [ne_eq, Classical.not_not] at e0
        subst e0
        by_cases e1 : p1 ≠ r1
        · have hne : (p1.toList == r1.toList) = false := toList_ne e1
          have HQ : Hid (eqL eqSpot l m = false) := HD.out (by rw [Bool.eq_false_iff]; intro h; have := Pure.eqSpot_iff.1 h; simp at this; exact e1 (by simp [this]))
          clear e1 HD HN
          go_wp2_with fail
          go_quiet (fail)
          go_wp2_with fail
          go_ret
          exact ⟨by rw [HQ.out]; rfl, _, drew_drew _ _ _⟩
        rw [ne_eq, Classical.not_not] at e1
        subst e1
        by_cases e2 : p2 ≠ r2
        · have hne : (p2.toList == r2.toList) = false := toList_ne e2
          have HQ : Hid (eqL eqSpot l m = false) := HD.out (by rw [Bool.eq_false_iff]; intro h; have := Pure.eqSpot_iff.1 h; simp at this; exact e2 (by simp [this]))
          clear e2 HD HN
          go_wp2_with fail
          go_quiet (fail)
          go_wp2_with fail
          go_ret
          exact ⟨by rw [HQ.out]; rfl, _, drew_drew _ _ _⟩
        rw [ne_eq, Classical.not_not] at e2
        subst e2
        by_cases e3 : p3 ≠ r3
        · have hne : (p3 == r3) = false := by simpa using e3
          have HQ : Hid (eqL eqSpot l m = false) := HD.out (by rw [Bool.eq_false_iff]; intro h; have := Pure.eqSpot_iff.1 h; simp at this; exact e3 (by simp [this]))
          clear e3 HD HN
          go_wp2_with fail
          go_quiet (fail)
          go_wp2_with fail
          go_ret
          exact ⟨by rw [HQ.out]; rfl, _, drew_drew _ _ _⟩
        rw [ne_eq, Classical.not_not] at e3
        subst e3
        by_cases e4 : p4 ≠ r4
        · have hne : (p4 == r4) = false := by simpa using e4
          have HQ : Hid (eqL eqSpot l m = false) := HD.out (by rw [Bool.eq_false_iff]; intro h; have := Pure.eqSpot_iff.1 h; simp at this; exact e4 (by simp [this]))
          clear e4 HD HN
          go_wp2_with fail
          go_quiet (fail)
          go_wp2_with fail
          go_ret
          exact ⟨by rw [HQ.out]; rfl, _, drew_drew _ _ _⟩
        rw [ne_eq, Classical.not_not] at e4
        subst e4
        have HQ := Lib.hid (HN.out (Pure.eqSpot_iff.2 rfl))
        clear HD HN
        go_wp2_with fail
        go_quiet (fail)
        go_wp2_with fail
        go_roundg (gk - 1)
        case measure => omega
        case rel => exact ⟨k + 1, by simp, by omega, HQ.out, d + nq, by first | rfl | exact drew_drew _ _ _⟩
      · have hki : ¬ (k : Int) < (m.length : Int) := by omega
        have HK : Hid (eqL eqSpot l m = true) := by
          have h := HE.out
          have hkm : k = m.length := by omega
          rw [hkm, List.take_length] at h
          rw [show m.length = l.length from HL.out.symm, List.take_length] at h
          exact h
        go_wp2_with fail
        go_ret
        exact ⟨by rw [HK.out]; rfl, _, rfl⟩
  · have HF : Hid (eqL eqSpot l m = false) := by
      show _ = _
      cases h : eqL eqSpot l m
      · rfl
      · exact absurd (eqL_len _ h) hlen
    have hnb : ((l.length : Int) != (m.length : Int)) = true := by simp only [bne_iff_ne]; omega
    clear hlen
    go_enter Tryz.func112, Tryz.ntmps112
    go_wp2_with fail
    go_ret
    exact ⟨by rw [HF.out]; rfl, 0, rfl⟩

set_option maxRecDepth 100000 in
set_option maxHeartbeats 9000000 in
theorem eqConds {W : World} {v1 v2 : Value} {l m : List PCond} (h1 : Sees W 7 v1 l.length (condCells l)) (h2 : Sees W 7 v2 m.length (condCells m)) (n2 : m.length ≤ 3000) :
    Calls Tryz.prog 113 #[v1, v2] W fun e W' => e = .returned (.bool (eqL eqCond l m)) ∧ ∃ n, W' = W.drewN n := by
  obtain ⟨a1, k1, rfl, hk1⟩ := sees_slice (l := l) h1
  obtain ⟨a2, k2, rfl, hk2⟩ := sees_slice (l := m) h2
  have HS1 := Lib.hid h1
  have HS2 := Lib.hid h2
  clear h1 h2
  by_cases hlen : l.length = m.length
  · rw [hlen]
    have HL := Lib.hid hlen
    have hnb : ((m.length : Int) != (m.length : Int)) = false := by simp
    clear hlen
    go_enter Tryz.func113, Tryz.ntmps113
    go_wp2_with fail
    go_loopg [13] m.length (fun n iv w => ∃ k : Nat, iv = .int .i64 (k : Int) ∧ k + n = m.length ∧ eqL eqCond (l.take k) (m.take k) = true ∧ ∃ d, w = W.drewN d)
    case atStart => exact ⟨0, rfl, by omega, rfl, 0, rfl⟩
    case round =>
      obtain ⟨k, rfl, hk, he, d, rfl⟩ := hrel
      have HE := Lib.hid he
      clear he
      by_cases hlt : k < m.length
      · have hlt1 : k < l.length := by have := HL.out; omega
        obtain ⟨g, o, rfl, ca⟩ := sees_at (l := l) fCond (fun _ => rfl) HS1.out hlt1
        obtain ⟨g', o', rfl, cb⟩ := sees_at (l := m) fCond (fun _ => rfl) HS2.out hlt
        have HD : Hid (eqCond l[k] m[k] = false → eqL eqCond l m = false) := eqL_diff eqCond hlt1 hlt
        have HN : Hid (eqCond l[k] m[k] = true → eqL eqCond (l.take (k + 1)) (m.take (k + 1)) = true) := eqL_next eqCond hlt1 hlt HE.out
        obtain ⟨p, hp⟩ : ∃ p, l[k] = p := ⟨_, rfl⟩
        obtain ⟨r, hr⟩ : ∃ r, m[k] = r := ⟨_, rfl⟩
        rw [hp] at ca HD HN
        rw [hr] at cb HD HN
        clear hp hr
        obtain ⟨p0, ⟨p1, p2, p3⟩, ⟨p4, p5, p6⟩⟩ := p
        obtain ⟨r0, ⟨r1, r2, r3⟩, ⟨r4, r5, r6⟩⟩ := r
        have x0 : W.cell? ⟨g, o + k * 7, none⟩ = some (.int .i64 p0) := ca 0 (by decide)
        have y0 : W.cell? ⟨g', o' + k * 7, none⟩ = some (.int .i64 r0) := cb 0 (by decide)
        have x1 : W.cell? ⟨g, o + k * 7 + 1, none⟩ = some (.string p1) := ca 1 (by decide)
        have y1 : W.cell? ⟨g', o' + k * 7 + 1, none⟩ = some (.string r1) := cb 1 (by decide)
        have x2 : W.cell? ⟨g, o + k * 7 + 2, none⟩ = some (.string p2) := ca 2 (by decide)
        have y2 : W.cell? ⟨g', o' + k * 7 + 2, none⟩ = some (.string r2) := cb 2 (by decide)
        have x3 : W.cell? ⟨g, o + k * 7 + 3, none⟩ = some (.int .i64 p3) := ca 3 (by decide)
        have y3 : W.cell? ⟨g', o' + k * 7 + 3, none⟩ = some (.int .i64 r3) := cb 3 (by decide)
        have x4 : W.cell? ⟨g, o + k * 7 + 4, none⟩ = some (.string p4) := ca 4 (by decide)
        have y4 : W.cell? ⟨g', o' + k * 7 + 4, none⟩ = some (.string r4) := cb 4 (by decide)
        have x5 : W.cell? ⟨g, o + k * 7 + 5, none⟩ = some (.string p5) := ca 5 (by decide)
        have y5 : W.cell? ⟨g', o' + k * 7 + 5, none⟩ = some (.string r5) := cb 5 (by decide)
        have x6 : W.cell? ⟨g, o + k * 7 + 6, none⟩ = some (.int .i64 p6) := ca 6 (by decide)
        have y6 : W.cell? ⟨g', o' + k * 7 + 6, none⟩ = some (.int .i64 r6) := cb 6 (by decide)
        have hki : (k : Int) < (m.length : Int) := by omega
        clear ca cb hlt hlt1
        by_cases e0 : p0 ≠ r0
        · have hne : (p0 == r0) = false := by simpa using e0
          have HQ : Hid (eqL eqCond l m = false) := HD.out (by rw [Bool.eq_false_iff]; intro h; have := Pure.eqCond_iff.1 h; simp at this; exact e0 (by simp [this]))
          clear e0 HD HN
          go_wp2_with fail
          go_quiet (fail)
          go_wp2_with fail
          go_ret
          exact ⟨by rw [HQ.out]; rfl, _, drew_drew _ _ _⟩
        rw [ne_eq, Classical.not_not] at e0
        subst e0
        by_cases e1 : p1 ≠ r1
        · have hne : (p1.toList == r1.toList) = false := toList_ne e1
          have HQ : Hid (eqL eqCond l m = false) := HD.out (by rw [Bool.eq_false_iff]; intro h; have := Pure.eqCond_iff.1 h; simp at this; exact e1 (by simp [this]))
          clear e1 HD HN
          go_wp2_with fail
          go_quiet (fail)
          go_wp2_with fail
          go_ret
          exact ⟨by rw [HQ.out]; rfl, _, drew_drew _ _ _⟩
        rw [ne_eq, Classical.not_not] at e1
        subst e1
        by_cases e2 : p2 ≠ r2
        · have hne : (p2.toList == r2.toList) = false := toList_ne e2
          have HQ : Hid (eqL eqCond l m = false) := HD.out (by rw [Bool.eq_false_iff]; intro h; have := Pure.eqCond_iff.1 h; simp at this; exact e2 (by simp [this]))
          clear e2 HD HN
          go_wp2_with fail
          go_quiet (fail)
          go_wp2_with fail
          go_ret
          exact ⟨by rw [HQ.out]; rfl, _, drew_drew _ _ _⟩
        rw [ne_eq, Classical.not_not] at e2
        subst e2
        by_cases e3 : p3 ≠ r3
        · have hne : (p3 == r3) = false := by simpa using e3
          have HQ : Hid (eqL eqCond l m = false) := HD.out (by rw [Bool.eq_false_iff]; intro h; have := Pure.eqCond_iff.1 h; simp at this; exact e3 (by simp [this]))
          clear e3 HD HN
          go_wp2_with fail
          go_quiet (fail)
          go_wp2_with fail
          go_ret
          exact ⟨by rw [HQ.out]; rfl, _, drew_drew _ _ _⟩
        rw [ne_eq, Classical.not_not] at e3
        subst e3
        by_cases e4 : p4 ≠ r4
        · have hne : (p4.toList == r4.toList) = false := toList_ne e4
          have HQ : Hid (eqL eqCond l m = false) := HD.out (by rw [Bool.eq_false_iff]; intro h; have := Pure.eqCond_iff.1 h; simp at this; exact e4 (by simp [this]))
          clear e4 HD HN
          go_wp2_with fail
          go_quiet (fail)
          go_wp2_with fail
          go_ret
          exact ⟨by rw [HQ.out]; rfl, _, drew_drew _ _ _⟩
        rw [ne_eq, Classical.not_not] at e4
        subst e4
        by_cases e5 : p5 ≠ r5
        · have hne : (p5.toList == r5.toList) = false := toList_ne e5
          have HQ : Hid (eqL eqCond l m = false) := HD.out (by rw [Bool.eq_false_iff]; intro h; have := Pure.eqCond_iff.1 h; simp at this; exact e5 (by simp [this]))
          clear e5 HD HN
          go_wp2_with fail
          go_quiet (fail)
          go_wp2_with fail
          go_ret
          exact ⟨by rw [HQ.out]; rfl, _, drew_drew _ _ _⟩
        rw [ne_eq, Classical.not_not] at e5
        subst e5
        by_cases e6 : p6 ≠ r6
        · have hne : (p6 == r6) = false := by simpa using e6
          have HQ : Hid (eqL eqCond l m = false) := HD.out (by rw [Bool.eq_false_iff]; intro h; have := Pure.eqCond_iff.1 h; simp at this; exact e6 (by simp [this]))
          clear e6 HD HN
          go_wp2_with fail
          go_quiet (fail)
          go_wp2_with fail
          go_ret
          exact ⟨by rw [HQ.out]; rfl, _, drew_drew _ _ _⟩
        rw [ne_eq, Classical.not_not] at e6
        subst e6
        have HQ := Lib.hid (HN.out (Pure.eqCond_iff.2 rfl))
        clear HD HN
        go_wp2_with fail
        go_quiet (fail)
        go_wp2_with fail
        go_roundg (gk - 1)
        case measure => omega
        case rel => exact ⟨k + 1, by simp, by omega, HQ.out, d + nq, by first | rfl | exact drew_drew _ _ _⟩
      · have hki : ¬ (k : Int) < (m.length : Int) := by omega
        have HK : Hid (eqL eqCond l m = true) := by
          have h := HE.out
          have hkm : k = m.length := by omega
          rw [hkm, List.take_length] at h
          rw [show m.length = l.length from HL.out.symm, List.take_length] at h
          exact h
        go_wp2_with fail
        go_ret
        exact ⟨by rw [HK.out]; rfl, _, rfl⟩
  · have HF : Hid (eqL eqCond l m = false) := by
      show _ = _
      cases h : eqL eqCond l m
      · rfl
      · exact absurd (eqL_len _ h) hlen
    have hnb : ((l.length : Int) != (m.length : Int)) = true := by simp only [bne_iff_ne]; omega
    clear hlen
    go_enter Tryz.func113, Tryz.ntmps113
    go_wp2_with fail
    go_ret
    exact ⟨by rw [HF.out]; rfl, 0, rfl⟩

set_option maxRecDepth 100000 in
set_option maxHeartbeats 9000000 in
theorem eqItems {W : World} {v1 v2 : Value} {l m : List PItem} (h1 : Sees W 2 v1 l.length (itemCells l)) (h2 : Sees W 2 v2 m.length (itemCells m)) (n2 : m.length ≤ 3000) :
    Calls Tryz.prog 114 #[v1, v2] W fun e W' => e = .returned (.bool (eqL eqItem l m)) ∧ ∃ n, W' = W.drewN n := by
  obtain ⟨a1, k1, rfl, hk1⟩ := sees_slice (l := l) h1
  obtain ⟨a2, k2, rfl, hk2⟩ := sees_slice (l := m) h2
  have HS1 := Lib.hid h1
  have HS2 := Lib.hid h2
  clear h1 h2
  by_cases hlen : l.length = m.length
  · rw [hlen]
    have HL := Lib.hid hlen
    have hnb : ((m.length : Int) != (m.length : Int)) = false := by simp
    clear hlen
    go_enter Tryz.func114, Tryz.ntmps114
    go_wp2_with fail
    go_loopg [13] m.length (fun n iv w => ∃ k : Nat, iv = .int .i64 (k : Int) ∧ k + n = m.length ∧ eqL eqItem (l.take k) (m.take k) = true ∧ ∃ d, w = W.drewN d)
    case atStart => exact ⟨0, rfl, by omega, rfl, 0, rfl⟩
    case round =>
      obtain ⟨k, rfl, hk, he, d, rfl⟩ := hrel
      have HE := Lib.hid he
      clear he
      by_cases hlt : k < m.length
      · have hlt1 : k < l.length := by have := HL.out; omega
        obtain ⟨g, o, rfl, ca⟩ := sees_at (l := l) fItem (fun _ => rfl) HS1.out hlt1
        obtain ⟨g', o', rfl, cb⟩ := sees_at (l := m) fItem (fun _ => rfl) HS2.out hlt
        have HD : Hid (eqItem l[k] m[k] = false → eqL eqItem l m = false) := eqL_diff eqItem hlt1 hlt
        have HN : Hid (eqItem l[k] m[k] = true → eqL eqItem (l.take (k + 1)) (m.take (k + 1)) = true) := eqL_next eqItem hlt1 hlt HE.out
        obtain ⟨p, hp⟩ : ∃ p, l[k] = p := ⟨_, rfl⟩
        obtain ⟨r, hr⟩ : ∃ r, m[k] = r := ⟨_, rfl⟩
        rw [hp] at ca HD HN
        rw [hr] at cb HD HN
        clear hp hr
        obtain ⟨p0, p1⟩ := p
        obtain ⟨r0, r1⟩ := r
        have x0 : W.cell? ⟨g, o + k * 2, none⟩ = some (.string p0) := ca 0 (by decide)
        have y0 : W.cell? ⟨g', o' + k * 2, none⟩ = some (.string r0) := cb 0 (by decide)
        have x1 : W.cell? ⟨g, o + k * 2 + 1, none⟩ = some (.string p1) := ca 1 (by decide)
        have y1 : W.cell? ⟨g', o' + k * 2 + 1, none⟩ = some (.string r1) := cb 1 (by decide)
        have hki : (k : Int) < (m.length : Int) := by omega
        clear ca cb hlt hlt1
        by_cases e0 : p0 ≠ r0
        · have hne : (p0.toList == r0.toList) = false := toList_ne e0
          have HQ : Hid (eqL eqItem l m = false) := HD.out (by rw [Bool.eq_false_iff]; intro h; have := Pure.eqItem_iff.1 h; simp at this; exact e0 (by simp [this]))
          clear e0 HD HN
          go_wp2_with fail
          go_quiet (fail)
          go_wp2_with fail
          go_ret
          exact ⟨by rw [HQ.out]; rfl, _, drew_drew _ _ _⟩
        rw [ne_eq, Classical.not_not] at e0
        subst e0
        by_cases e1 : p1 ≠ r1
        · have hne : (p1.toList == r1.toList) = false := toList_ne e1
          have HQ : Hid (eqL eqItem l m = false) := HD.out (by rw [Bool.eq_false_iff]; intro h; have := Pure.eqItem_iff.1 h; simp at this; exact e1 (by simp [this]))
          clear e1 HD HN
          go_wp2_with fail
          go_quiet (fail)
          go_wp2_with fail
          go_ret
          exact ⟨by rw [HQ.out]; rfl, _, drew_drew _ _ _⟩
        rw [ne_eq, Classical.not_not] at e1
        subst e1
        have HQ := Lib.hid (HN.out (Pure.eqItem_iff.2 rfl))
        clear HD HN
        go_wp2_with fail
        go_quiet (fail)
        go_wp2_with fail
        go_roundg (gk - 1)
        case measure => omega
        case rel => exact ⟨k + 1, by simp, by omega, HQ.out, d + nq, by first | rfl | exact drew_drew _ _ _⟩
      · have hki : ¬ (k : Int) < (m.length : Int) := by omega
        have HK : Hid (eqL eqItem l m = true) := by
          have h := HE.out
          have hkm : k = m.length := by omega
          rw [hkm, List.take_length] at h
          rw [show m.length = l.length from HL.out.symm, List.take_length] at h
          exact h
        go_wp2_with fail
        go_ret
        exact ⟨by rw [HK.out]; rfl, _, rfl⟩
  · have HF : Hid (eqL eqItem l m = false) := by
      show _ = _
      cases h : eqL eqItem l m
      · rfl
      · exact absurd (eqL_len _ h) hlen
    have hnb : ((l.length : Int) != (m.length : Int)) = true := by simp only [bne_iff_ne]; omega
    clear hlen
    go_enter Tryz.func114, Tryz.ntmps114
    go_wp2_with fail
    go_ret
    exact ⟨by rw [HF.out]; rfl, 0, rfl⟩

set_option maxRecDepth 100000 in
set_option maxHeartbeats 9000000 in
theorem eqPairs {W : World} {v1 v2 : Value} {l m : List PPair} (h1 : Sees W 2 v1 l.length (pairCells l)) (h2 : Sees W 2 v2 m.length (pairCells m)) (n2 : m.length ≤ 3000) :
    Calls Tryz.prog 115 #[v1, v2] W fun e W' => e = .returned (.bool (eqL eqPair l m)) ∧ ∃ n, W' = W.drewN n := by
  obtain ⟨a1, k1, rfl, hk1⟩ := sees_slice (l := l) h1
  obtain ⟨a2, k2, rfl, hk2⟩ := sees_slice (l := m) h2
  have HS1 := Lib.hid h1
  have HS2 := Lib.hid h2
  clear h1 h2
  by_cases hlen : l.length = m.length
  · rw [hlen]
    have HL := Lib.hid hlen
    have hnb : ((m.length : Int) != (m.length : Int)) = false := by simp
    clear hlen
    go_enter Tryz.func115, Tryz.ntmps115
    go_wp2_with fail
    go_loopg [13] m.length (fun n iv w => ∃ k : Nat, iv = .int .i64 (k : Int) ∧ k + n = m.length ∧ eqL eqPair (l.take k) (m.take k) = true ∧ ∃ d, w = W.drewN d)
    case atStart => exact ⟨0, rfl, by omega, rfl, 0, rfl⟩
    case round =>
      obtain ⟨k, rfl, hk, he, d, rfl⟩ := hrel
      have HE := Lib.hid he
      clear he
      by_cases hlt : k < m.length
      · have hlt1 : k < l.length := by have := HL.out; omega
        obtain ⟨g, o, rfl, ca⟩ := sees_at (l := l) fPair (fun _ => rfl) HS1.out hlt1
        obtain ⟨g', o', rfl, cb⟩ := sees_at (l := m) fPair (fun _ => rfl) HS2.out hlt
        have HD : Hid (eqPair l[k] m[k] = false → eqL eqPair l m = false) := eqL_diff eqPair hlt1 hlt
        have HN : Hid (eqPair l[k] m[k] = true → eqL eqPair (l.take (k + 1)) (m.take (k + 1)) = true) := eqL_next eqPair hlt1 hlt HE.out
        obtain ⟨p, hp⟩ : ∃ p, l[k] = p := ⟨_, rfl⟩
        obtain ⟨r, hr⟩ : ∃ r, m[k] = r := ⟨_, rfl⟩
        rw [hp] at ca HD HN
        rw [hr] at cb HD HN
        clear hp hr
        obtain ⟨p0, p1⟩ := p
        obtain ⟨r0, r1⟩ := r
        have x0 : W.cell? ⟨g, o + k * 2, none⟩ = some (.string p0) := ca 0 (by decide)
        have y0 : W.cell? ⟨g', o' + k * 2, none⟩ = some (.string r0) := cb 0 (by decide)
        have x1 : W.cell? ⟨g, o + k * 2 + 1, none⟩ = some (.int .i64 p1) := ca 1 (by decide)
        have y1 : W.cell? ⟨g', o' + k * 2 + 1, none⟩ = some (.int .i64 r1) := cb 1 (by decide)
        have hki : (k : Int) < (m.length : Int) := by omega
        clear ca cb hlt hlt1
        by_cases e0 : p0 ≠ r0
        · have hne : (p0.toList == r0.toList) = false := toList_ne e0
          have HQ : Hid (eqL eqPair l m = false) := HD.out (by rw [Bool.eq_false_iff]; intro h; have := Pure.eqPair_iff.1 h; simp at this; exact e0 (by simp [this]))
          clear e0 HD HN
          go_wp2_with fail
          go_quiet (fail)
          go_wp2_with fail
          go_ret
          exact ⟨by rw [HQ.out]; rfl, _, drew_drew _ _ _⟩
        rw [ne_eq, Classical.not_not] at e0
        subst e0
        by_cases e1 : p1 ≠ r1
        · have hne : (p1 == r1) = false := by simpa using e1
          have HQ : Hid (eqL eqPair l m = false) := HD.out (by rw [Bool.eq_false_iff]; intro h; have := Pure.eqPair_iff.1 h; simp at this; exact e1 (by simp [this]))
          clear e1 HD HN
          go_wp2_with fail
          go_quiet (fail)
          go_wp2_with fail
          go_ret
          exact ⟨by rw [HQ.out]; rfl, _, drew_drew _ _ _⟩
        rw [ne_eq, Classical.not_not] at e1
        subst e1
        have HQ := Lib.hid (HN.out (Pure.eqPair_iff.2 rfl))
        clear HD HN
        go_wp2_with fail
        go_quiet (fail)
        go_wp2_with fail
        go_roundg (gk - 1)
        case measure => omega
        case rel => exact ⟨k + 1, by simp, by omega, HQ.out, d + nq, by first | rfl | exact drew_drew _ _ _⟩
      · have hki : ¬ (k : Int) < (m.length : Int) := by omega
        have HK : Hid (eqL eqPair l m = true) := by
          have h := HE.out
          have hkm : k = m.length := by omega
          rw [hkm, List.take_length] at h
          rw [show m.length = l.length from HL.out.symm, List.take_length] at h
          exact h
        go_wp2_with fail
        go_ret
        exact ⟨by rw [HK.out]; rfl, _, rfl⟩
  · have HF : Hid (eqL eqPair l m = false) := by
      show _ = _
      cases h : eqL eqPair l m
      · rfl
      · exact absurd (eqL_len _ h) hlen
    have hnb : ((l.length : Int) != (m.length : Int)) = true := by simp only [bne_iff_ne]; omega
    clear hlen
    go_enter Tryz.func115, Tryz.ntmps115
    go_wp2_with fail
    go_ret
    exact ⟨by rw [HF.out]; rfl, 0, rfl⟩

end Go.Proofs.YtobgbmfpicmpcaaGreatDoor

/- The program's reader of queries in memory: its tokens left, and whether one did not fit. -/
namespace Go.Proofs.YtobgbmfpicmpcaaGreatDoor
open Go.RowKit

/-- The tokens l lie at an address. -/
def TSeen (G : Nat) (ao : Option Addr) (l : List Tok) (w : World) : Prop :=
  ∀ j, (hj : j < l.length) → ∃ o, ao = some ⟨G, o, none⟩ ∧ w.cell? ⟨G, o + j * 3, none⟩ = some (.int .i64 l[j].kind) ∧ w.cell? ⟨G, o + j * 3 + 1, none⟩ = some (.string l[j].text) ∧ w.cell? ⟨G, o + j * 3 + 2, none⟩ = some (.int .i64 l[j].val)
structure PI (b G : Nat) (st : RS) (w : World) : Prop where
  box : ∃ ao c, Loc w b #[.slice ao st.rest.length c, .bool st.bad] 81 ∧ st.rest.length ≤ c ∧ TSeen G ao st.rest w
  far : G ≠ b ∧ G < w.heap.size
theorem PI.kept {b G : Nat} {st : RS} {w w' : World} {r : Option Nat} (h : PI b G st w) (hg : w.grownBy w' r) (h1 : some b ≠ r) (h2 : some G ≠ r) : PI b G st w' := by
  obtain ⟨ao, c, hb, hc, hs⟩ := h.box
  refine ⟨⟨ao, c, hb.grown hg h1, hc, ?_⟩, ⟨h.far.1, Nat.lt_of_lt_of_le h.far.2 hg.size⟩⟩
  intro j hj
  obtain ⟨o, e, a0, a1, a2⟩ := hs j hj
  have hB := hg.block G h.far.2 h2
  have hc : ∀ x, w'.cell? ⟨G, x, none⟩ = w.cell? ⟨G, x, none⟩ := fun x => by simp [World.cell?, hB]
  exact ⟨o, e, by rw [hc]; exact a0, by rw [hc]; exact a1, by rw [hc]; exact a2⟩
theorem PI.quiet {b G : Nat} {st : RS} {w w' : World} (h : PI b G st w) (hg : w.grownBy w' none) : PI b G st w' := h.kept hg (by simp) (by simp)
theorem TSeen.tail {G g o : Nat} {l : List Tok} {t : Tok} {w : World} (h : TSeen G (some ⟨g, o, none⟩) (t :: l) w) : TSeen G (some ⟨g, o + 3, none⟩) l w := by
  intro j hj
  obtain ⟨o', e, a0, a1, a2⟩ := h (j + 1) (by simpa using hj)
  injection e with e
  injection e with e1 e2
  subst e1; subst e2
  refine ⟨o + 3, rfl, ?_, ?_, ?_⟩
  · rw [show o + 3 + j * 3 = o + (j + 1) * 3 by omega]; simpa using a0
  · rw [show o + 3 + j * 3 = o + (j + 1) * 3 by omega]; simpa using a1
  · rw [show o + 3 + j * 3 = o + (j + 1) * 3 by omega]; simpa using a2

theorem TSeen.set {G b : Nat} {ao : Option Addr} {l : List Tok} {w : World} (h : TSeen G ao l w) (hg : G ≠ b) (j : Nat) (u : Value) : TSeen G ao l (w.setCell ⟨b, j, none⟩ u) := by
  intro k hk
  obtain ⟨o, e, a0, a1, a2⟩ := h k hk
  have hB := Below.heap_setCell w ⟨b, j, none⟩ u G hg
  have hc : ∀ x, (w.setCell ⟨b, j, none⟩ u).cell? ⟨G, x, none⟩ = w.cell? ⟨G, x, none⟩ := fun x => by simp only [World.cell?, hB]
  exact ⟨o, e, by rw [hc]; exact a0, by rw [hc]; exact a1, by rw [hc]; exact a2⟩
/-- One token is taken. -/
theorem PI.adv {b G : Nat} {st : RS} {t : Tok} {r : List Tok} {W : World} {ao : Option Addr} {c : Nat} {v : Value} (h : PI b G st W) (_ : st.rest = t :: r) (hb : Loc W b #[v, .bool st.bad] 81) (hc : r.length ≤ c) (hs : TSeen G ao r W) : PI b G ⟨r, st.bad⟩ (W.setCell ⟨b, 0, none⟩ (.slice ao r.length c)) := by
  have hf := h.far
  exact ⟨⟨ao, c, hb.set 0 _, hc, hs.set hf.1 0 _⟩, ⟨hf.1, by simpa [World.setCell] using hf.2⟩⟩
theorem PI.fails {b G : Nat} {st : RS} {W : World} {v : Value} (h : PI b G st W) (hb : Loc W b #[v, .bool st.bad] 81) : PI b G failP ((W.setCell ⟨b, 0, none⟩ (.slice none 0 0)).setCell ⟨b, 1, none⟩ (.bool true)) :=
  ⟨⟨none, 0, (hb.set 0 _).set 1 _, Nat.le_refl _, fun j hj => by simp [failP] at hj⟩, ⟨h.far.1, by simpa [World.setCell] using h.far.2⟩⟩

set_option maxRecDepth 100000 in
set_option maxHeartbeats 2000000 in
theorem fail_ {b G : Nat} {st : RS} {W : World} (h : PI b G st W) :
    Calls Tryz.prog 160 #[.pointer (some ⟨b, 0, none⟩)] W fun e W' => e = .returned (.tuple #[]) ∧ PI b G failP W' ∧ W.grownBy W' (some b) := by
  obtain ⟨ao, c, hb, hc, hs⟩ := h.box
  have c0 : W.cell? ⟨b, 0, none⟩ = some (.slice ao st.rest.length c) := (hb.cell 0).trans rfl
  have c1 : W.cell? ⟨b, 1, none⟩ = some (.bool st.bad) := (hb.cell 1).trans rfl
  have f0 : W.frozen? ⟨b, 0, none⟩ = false := hb.free 0
  have f1 : W.frozen? ⟨b, 1, none⟩ = false := hb.free 1
  have HB := Lib.hid hb
  have HH := Lib.hid h
  clear hs h hc hb
  go_enter Tryz.func160, Tryz.ntmps160
  go_wp2_with fail
  go_end0
  exact ⟨rfl, HH.out.fails HB.out, grown_trans (grown_set _ _ _ _) (grown_set _ _ _ _)⟩

set_option maxRecDepth 100000 in
set_option maxHeartbeats 2000000 in
theorem acceptYes {b G : Nat} {st : RS} {s : ByteArray} {W : World} (h : PI b G st W) (hp : peekP s st = true) :
    Calls Tryz.prog 94 #[.pointer (some ⟨b, 0, none⟩), .string s] W fun e W' => e = .returned (.bool true) ∧ PI b G (acceptP s st) W' ∧ W.grownBy W' (some b) := by
  obtain ⟨ao, c, hb, hc, hs⟩ := h.box
  cases hr : st.rest with
  | nil => unfold peekP at hp; rw [hr] at hp; cases hp
  | cons t r =>
    have hte : (t.text.toList == s.toList) = true := by unfold peekP at hp; rw [hr] at hp; exact hp
    have HA : Hid (acceptP s st = ⟨r, st.bad⟩) := by show _ = _; unfold acceptP; rw [if_pos hp, hr]; rfl
    rw [hr] at hs hc hb
    obtain ⟨o, rfl, a0, a1, a2⟩ := hs 0 (by simp)
    have k1 : W.cell? ⟨G, o + 1, none⟩ = some (.string t.text) := by simpa using a1
    have c0 : W.cell? ⟨b, 0, none⟩ = some (.slice (some ⟨G, o, none⟩) (r.length + 1) c) := (hb.cell 0).trans rfl
    have f0 : W.frozen? ⟨b, 0, none⟩ = false := hb.free 0
    have hc' : r.length + 1 ≤ c := hc
    have HB := Lib.hid hb
    have HS := Lib.hid hs
    have HH := Lib.hid h
    have HR := Lib.hid hr
    clear hs h hc hb a0 a1 a2 hp hr
    by_cases hc1 : c = 1
    · have hr0 : r = [] := List.length_eq_zero_iff.1 (by omega)
      subst hc1
      have HR0 := Lib.hid hr0
      have hrl : r.length = 0 := by rw [hr0]; rfl
      clear hr0
      go_enter Tryz.func94, Tryz.ntmps94
      go_wp2_with fail
      refine bodyPost_ret (v := .bool true) ?_ rfl ⟨rfl, ?_, grown_set _ _ _ _⟩
      · simp [results, Tryz.results94, go_sem]
      · rw [HA.out]
        have h := HH.out.adv HR.out HB.out (ao := some ⟨G, o, none⟩) (c := 0) (by omega) (by intro j hj; omega)
        rw [hrl] at h
        exact h
    · go_enter Tryz.func94, Tryz.ntmps94
      go_wp2_with fail
      refine bodyPost_ret (v := .bool true) ?_ rfl ⟨rfl, ?_, grown_set _ _ _ _⟩
      · simp [results, Tryz.results94, go_sem]
      · rw [HA.out]
        exact HH.out.adv HR.out HB.out (by omega) HS.out.tail

set_option maxRecDepth 100000 in
set_option maxHeartbeats 2000000 in
theorem acceptNo {b G : Nat} {st : RS} {s : ByteArray} {W : World} (h : PI b G st W) (hp : peekP s st = false) :
    Calls Tryz.prog 94 #[.pointer (some ⟨b, 0, none⟩), .string s] W fun e W' => e = .returned (.bool false) ∧ PI b G (acceptP s st) W' ∧ W.grownBy W' (some b) := by
  obtain ⟨ao, c, hb, hc, hs⟩ := h.box
  have HA : Hid (acceptP s st = st) := by show _ = _; unfold acceptP; rw [hp]; rfl
  have HH := Lib.hid h
  cases hr : st.rest with
  | nil =>
    rw [hr] at hb
    have c0 : W.cell? ⟨b, 0, none⟩ = some (.slice ao 0 c) := (hb.cell 0).trans rfl
    clear hs h hc hb hp hr
    go_enter Tryz.func94, Tryz.ntmps94
    go_wp2_with fail
    refine bodyPost_ret (v := .bool false) ?_ rfl ⟨rfl, by rw [HA.out]; exact HH.out, grown_refl _ _⟩
    simp [results, Tryz.results94, go_sem]
  | cons t r =>
    have hte : (t.text.toList == s.toList) = false := by unfold peekP at hp; rw [hr] at hp; exact hp
    rw [hr] at hs hc hb
    obtain ⟨o, rfl, a0, a1, a2⟩ := hs 0 (by simp)
    have k1 : W.cell? ⟨G, o + 1, none⟩ = some (.string t.text) := by simpa using a1
    have c0 : W.cell? ⟨b, 0, none⟩ = some (.slice (some ⟨G, o, none⟩) (r.length + 1) c) := (hb.cell 0).trans rfl
    clear hs h hc hb a0 a1 a2 hp hr
    go_enter Tryz.func94, Tryz.ntmps94
    go_wp2_with fail
    refine bodyPost_ret (v := .bool false) ?_ rfl ⟨rfl, by rw [HA.out]; exact HH.out, grown_refl _ _⟩
    simp [results, Tryz.results94, go_sem]
theorem accept_ {b G : Nat} {st : RS} {W : World} (h : PI b G st W) (s : ByteArray) (m : Bool) (hm : peekP s st = m) :
    Calls Tryz.prog 94 #[.pointer (some ⟨b, 0, none⟩), .string s] W fun e W' => e = .returned (.bool m) ∧ PI b G (acceptP s st) W' ∧ W.grownBy W' (some b) := by
  cases m with
  | true => exact acceptYes h hm
  | false => exact acceptNo h hm

set_option maxRecDepth 100000 in
set_option maxHeartbeats 2000000 in
theorem expect_ {b G : Nat} {st : RS} {W : World} (h : PI b G st W) (s : ByteArray) :
    Calls Tryz.prog 97 #[.pointer (some ⟨b, 0, none⟩), .string s] W fun e W' => e = .returned (.tuple #[]) ∧ PI b G (expectP s st) W' ∧ W.grownBy W' (some b) := by
  have HH := Lib.hid h
  clear h
  cases hm : peekP s st with
  | true =>
    have HM := Lib.hid hm
    have HE : Hid (expectP s st = acceptP s st) := by show _ = _; unfold expectP; rw [if_pos hm]
    clear hm
    go_enter Tryz.func97, Tryz.ntmps97
    go_wp2_with fail
    refine (accept_ HH.out s true HM.out).mono ?_
    rintro e W1 ⟨rfl, h1, g1⟩
    have H1 := Lib.hid h1
    have G1 := Lib.hid g1
    clear h1 g1
    go_wp2_with fail
    go_end0
    exact ⟨rfl, by rw [HE.out]; exact H1.out, G1.out⟩
  | false =>
    have HM := Lib.hid hm
    have HE : Hid (expectP s st = failP) := by show _ = _; unfold expectP; rw [hm]; rfl
    clear hm
    go_enter Tryz.func97, Tryz.ntmps97
    go_wp2_with fail
    refine (accept_ HH.out s false HM.out).mono ?_
    rintro e W1 ⟨rfl, h1, g1⟩
    have H1 := Lib.hid h1
    have G1 := Lib.hid g1
    clear h1 g1
    go_wp2_with fail
    refine (fail_ H1.out).mono ?_
    rintro e W2 ⟨rfl, h2, g2⟩
    have H2 := Lib.hid h2
    have G2 := Lib.hid g2
    clear h2 g2
    go_wp2_with fail
    go_end0
    exact ⟨rfl, by rw [HE.out]; exact H2.out, grown_trans G1.out G2.out⟩

end Go.Proofs.YtobgbmfpicmpcaaGreatDoor

/- The program's words: names, titles and keywords. -/
namespace Go.Proofs.YtobgbmfpicmpcaaGreatDoor
open Go.RowKit

theorem empty_no {s : ByteArray} (h : 1 ≤ s.size) : s.toList.isEmpty = false := by
  rw [ByteArray.toList_eq]
  have : s.data.toList.length = s.size := len_toList s
  cases hd : s.data.toList with
  | nil => rw [hd] at this; simp at this; omega
  | cons a l => rfl
theorem empty_yes {s : ByteArray} (h : ¬ 1 ≤ s.size) : s.toList.isEmpty = true := by
  rw [ByteArray.toList_eq]
  have : s.data.toList.length = s.size := len_toList s
  cases hd : s.data.toList with
  | nil => rfl
  | cons a l => rw [hd] at this; simp at this; omega

set_option maxRecDepth 100000 in
set_option maxHeartbeats 2000000 in
theorem isWordP (s : ByteArray) (w : World) : Calls Tryz.prog 147 #[.string s] w fun e w' => e = .returned (.bool (isWord s)) ∧ w' = w := by
  by_cases h1 : 1 ≤ s.size
  · have hem := empty_no h1
    by_cases h8 : s.size ≤ 8
    · have h0 : 0 < s.size := h1
      have h8i : ¬ (8 : Int) < (s.size : Int) := by omega
      cases hl : letB ((s[0]'h0).toNat : Int) with
      | true =>
        have HW : Hid (isWord s = decide (∀ j, j < s.size → alnB (bt s j) = true)) := isWord_of h1 h8 (by rw [← bt_in h0]; exact hl)
        go_enter Tryz.func147, Tryz.ntmps147
        go_wp2_with (first | (go_at_call 204; refine (isLetter _ _).mono ?_; rintro e w' ⟨rfl, rfl⟩) | (go_at_call 205; refine (isDigit _ _).mono ?_; rintro e w' ⟨rfl, rfl⟩))
        clear hl
        go_loop [19] (fun i => ∃ k : Nat, k ≤ s.size ∧ i = .int .i64 k ∧ ∀ j, j < k → alnB (bt s j) = true) (fun i => s.size - (intOf i).toNat)
        case atStart => exact ⟨0, by omega, rfl, fun j hj => absurd hj (by omega)⟩
        case round =>
          obtain ⟨k, hk, rfl, hall⟩ := hrel
          have HA := Lib.hid hall
          clear hall
          by_cases hlt : k < s.size
          · cases hl : letB ((s[k]'hlt).toNat : Int) with
            | true =>
              have HK1 : Hid (∀ j, j < k + 1 → alnB (bt s j) = true) := by
                intro j hj
                by_cases e : j = k
                · subst e; rw [← bt_in hlt]; unfold alnB; rw [hl]; rfl
                · exact HA.out j (by omega)
              go_wp2_with (first | (go_at_call 204; refine (isLetter _ _).mono ?_; rintro e w' ⟨rfl, rfl⟩) | (go_at_call 205; refine (isDigit _ _).mono ?_; rintro e w' ⟨rfl, rfl⟩))
              go_round
              case rel => exact ⟨k + 1, by omega, by go_num, HK1.out⟩
              case measure => simp [intOf]; omega
            | false =>
              cases hd : digB ((s[k]'hlt).toNat : Int) with
              | true =>
                have HK1 : Hid (∀ j, j < k + 1 → alnB (bt s j) = true) := by
                  intro j hj
                  by_cases e : j = k
                  · subst e; rw [← bt_in hlt]; unfold alnB; rw [hl, hd]; rfl
                  · exact HA.out j (by omega)
                go_wp2_with (first | (go_at_call 204; refine (isLetter _ _).mono ?_; rintro e w' ⟨rfl, rfl⟩) | (go_at_call 205; refine (isDigit _ _).mono ?_; rintro e w' ⟨rfl, rfl⟩))
                go_round
                case rel => exact ⟨k + 1, by omega, by go_num, HK1.out⟩
                case measure => simp [intOf]; omega
              | false =>
                have HF : Hid (isWord s = false) := by
                  show _ = _
                  rw [HW.out]
                  apply decide_eq_false
                  intro hall
                  have := hall k hlt
                  rw [← bt_in hlt] at this
                  unfold alnB at this
                  rw [hl, hd] at this
                  cases this
                go_wp2_with (first | (go_at_call 204; refine (isLetter _ _).mono ?_; rintro e w' ⟨rfl, rfl⟩) | (go_at_call 205; refine (isDigit _ _).mono ?_; rintro e w' ⟨rfl, rfl⟩))
                go_ret
                exact ⟨ret_bool HF.out.symm, rfl⟩
          · have HF : Hid (isWord s = true) := by
              show _ = _
              rw [HW.out]
              apply decide_eq_true
              intro j hj
              exact HA.out j (by omega)
            go_wp2
            go_ret
            exact ⟨ret_bool HF.out.symm, rfl⟩
      | false =>
        have HF : Hid (isWord s = false) := isWord_no (by rintro ⟨_, _, h⟩; rw [← bt_in h0, hl] at h; cases h)
        go_enter Tryz.func147, Tryz.ntmps147
        go_wp2_with (first | (go_at_call 204; refine (isLetter _ _).mono ?_; rintro e w' ⟨rfl, rfl⟩) | (go_at_call 205; refine (isDigit _ _).mono ?_; rintro e w' ⟨rfl, rfl⟩))
        go_ret
        exact ⟨ret_bool HF.out.symm, rfl⟩
    · have HF : Hid (isWord s = false) := isWord_no (by omega)
      have h8i : (8 : Int) < (s.size : Int) := by omega
      go_enter Tryz.func147, Tryz.ntmps147
      go_wp2_with (first | (go_at_call 204; refine (isLetter _ _).mono ?_; rintro e w' ⟨rfl, rfl⟩) | (go_at_call 205; refine (isDigit _ _).mono ?_; rintro e w' ⟨rfl, rfl⟩))
      go_ret
      exact ⟨ret_bool HF.out.symm, rfl⟩
  · have HF : Hid (isWord s = false) := isWord_no (by omega)
    have hem := empty_yes h1
    go_enter Tryz.func147, Tryz.ntmps147
    go_wp2_with (first | (go_at_call 204; refine (isLetter _ _).mono ?_; rintro e w' ⟨rfl, rfl⟩) | (go_at_call 205; refine (isDigit _ _).mono ?_; rintro e w' ⟨rfl, rfl⟩))
    go_ret
    exact ⟨ret_bool HF.out.symm, rfl⟩

end Go.Proofs.YtobgbmfpicmpcaaGreatDoor

