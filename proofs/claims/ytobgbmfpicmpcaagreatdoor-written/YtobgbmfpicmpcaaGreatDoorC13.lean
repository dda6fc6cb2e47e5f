/- Words that were written are read: lists, and whole queries. No program in this text. -/
import Derived.Shelf.LaysM
import Derived.Shelf.Strconv.Clone
import Derived.Shelf.LaysC
import Derived.Shelf.Strconv.AtoiAll
import Derived.Shelf.Strings.Prefix
import Derived.Test.YtobgbmfpicmpcaaGreatDoorProg
import Derived.Deep.QuietTactic
import Derived.BigQuiet
import Derived.Test.YtobgbmfpicmpcaaGreatDoorC12
namespace Go.Proofs.YtobgbmfpicmpcaaGreatDoor

/-- What reading can answer, whole. -/
structure GoodMatch (q : PQuery) : Prop where
  spots : ∀ s ∈ q.spots, GoodSpot s
  first : ∃ s r, q.spots = s :: r ∧ s.type = e0
  spotn : q.spots.length ≤ 6
  conds : ∀ c ∈ q.conds, GoodCond c
  condn : q.conds.length ≤ 6
def GoodRead (q : PQuery) : Prop :=
  GoodMatch q ∧ (∀ x ∈ q.items, GoodItem x) ∧ q.items ≠ [] ∧ q.items.length ≤ 6 ∧ 0 ≤ q.order ∧ q.order ≤ q.items.length ∧ (q.order = 0 → q.down = false) ∧ 0 ≤ q.skip ∧ q.skip ≤ 1000000000 ∧ (q.limit = -1 ∨ (0 ≤ q.limit ∧ q.limit ≤ 1000000000))
    ∧ q = ⟨1, q.spots, q.conds, q.items, q.order, q.down, q.skip, q.limit, e0, e0, term0, e0, e0, e0, []⟩
def GoodSet (q : PQuery) : Prop :=
  GoodMatch q ∧ isName q.name = true ∧ isName q.key = true ∧ GoodTerm q.value ∧ q = ⟨2, q.spots, q.conds, [], 0, false, 0, 0, q.name, q.key, q.value, e0, e0, e0, []⟩
def GoodDrop (q : PQuery) : Prop :=
  GoodMatch q ∧ isName q.name = true ∧ q = ⟨3, q.spots, q.conds, [], 0, false, 0, 0, q.name, e0, term0, e0, e0, e0, []⟩
def GoodLink (q : PQuery) : Prop :=
  GoodMatch q ∧ isName q.name = true ∧ isTitle q.type = true ∧ isName q.to = true ∧ q = ⟨4, q.spots, q.conds, [], 0, false, 0, 0, q.name, e0, term0, q.type, q.to, e0, []⟩
def GoodMake (q : PQuery) : Prop :=
  isTitle q.label = true ∧ (∀ p ∈ q.pairs, GoodPair p) ∧ q.pairs.length ≤ 6 ∧ twiceP [] q.pairs = false ∧ q = ⟨5, [], [], [], 0, false, 0, 0, e0, e0, term0, e0, e0, q.label, q.pairs⟩
def GoodCall (q : PQuery) : Prop := isName q.name = true ∧ q = ⟨6, [], [], [], 0, false, 0, 0, q.name, e0, term0, e0, e0, e0, []⟩
def GoodQ (q : PQuery) : Prop := GoodRead q ∨ GoodSet q ∨ GoodDrop q ∨ GoodLink q ∨ GoodMake q ∨ GoodCall q

end Go.Proofs.YtobgbmfpicmpcaaGreatDoor
namespace Go.Proofs.YtobgbmfpicmpcaaGreatDoor.Pure

/-- What does not go on: none of these stands next. -/
def Stops (bad : List ByteArray) (r : List Tok) : Prop := ∀ w ∈ bad, peekP w ⟨r, false⟩ = false
theorem stops_nil (bad : List ByteArray) : Stops bad [] := fun _ _ => rfl
theorem stops_lit {bad : List ByteArray} {v : ByteArray} (h : v ∈ lits) (hb : (bad.all fun w => !eqB v w) = true) (r : List Tok) : Stops bad (tokOf v :: r) := by
  intro w hw
  rw [peek_lit h]
  have := List.all_eq_true.1 hb w hw
  simpa using this
theorem spotW_start {s : PSpot} (h : s.type = e0) : spotW false s = mComma :: nodeW s := by
  unfold spotW; rw [h, e0_isEmpty]; rfl
theorem spotW_step {b : Bool} {s : PSpot} (h : isTitle s.type = true) : spotW b s = stepW s ++ nodeW s := by
  unfold spotW; rw [title_nonempty h]; rfl
theorem spots_ok : ∀ (l : List PSpot) (n : Nat) (out : List PSpot) (r : List Tok), (∀ s ∈ l, GoodSpot s) → Stops [mComma, mTo] r → l.length ≤ n → spotsLoop n out ⟨K (gather spotW false l) ++ r, false⟩ = (out ++ l, ⟨r, false⟩)
  | [], n, out, r, _, hr, _ => by
    have h1 := hr mComma (by simp)
    have h2 := hr mTo (by simp)
    rw [gather, K_nil, List.nil_append, List.append_nil]
    cases n with
    | zero => rfl
    | succ n => unfold spotsLoop; rw [h1, h2]; simp
  | s :: l, 0, out, r, _, _, hn => by simp at hn
  | s :: l, n + 1, out, r, hs, hr, hn => by
    have hg := hs s (by simp)
    have ih := fun out => spots_ok l n out r (fun x hx => hs x (by simp [hx])) hr (by simp at hn; omega)
    rw [gather, K_append, List.append_assoc]
    rcases hg.typ with ⟨t0, t1, t2⟩ | ⟨t0, t1, t2, t3⟩
    · rw [spotW_start t0, K_cons, List.cons_append]
      unfold spotsLoop
      rw [peek_yes (w := mComma) (by simp [lits]), if_pos rfl, accept_yes (by simp [lits]), node_ok hg spot0 rfl, ih]
      have : (⟨s.name, s.label, spot0.type, spot0.least, spot0.most⟩ : PSpot) = s := by
        cases s; simp only at t0 t1 t2; subst t0; subst t1; subst t2; rfl
      rw [this, List.append_assoc]; rfl
    · rw [spotW_step t0]
      have hp : K (stepW s ++ nodeW s) ++ (K (gather spotW false l) ++ r) = tokOf mTo :: (K (((s.type :: ((if s.least = 1 ∧ s.most = 1 then [] else [mStar, decB s.least, mDots, decB s.most]) ++ [mArrow]))) ++ nodeW s) ++ (K (gather spotW false l) ++ r)) := by
        unfold stepW; simp only [List.cons_append, List.nil_append, K_cons]
      have hh := hop_ok hg t0 t1 t2 t3 (K (gather spotW false l) ++ r)
      unfold spotsLoop
      rw [hh]
      rw [hp, peek_lit (v := mTo) (w := mComma) (by simp [lits]), show eqB mTo mComma = false by decide +kernel, if_neg (by simp), peek_yes (w := mTo) (by simp [lits]), if_pos rfl, ih, List.append_assoc]; rfl
theorem gather_len {α : Type} (f : Bool → α → List ByteArray) (hf : ∀ b x, 1 ≤ (f b x).length) : ∀ (l : List α) (b : Bool), l.length ≤ (gather f b l).length
  | [], _ => Nat.le_refl _
  | x :: l, b => by
    rw [gather, List.length_append, List.length_cons]
    have := gather_len f hf l false
    have := hf b x
    omega
theorem K_length (l : List ByteArray) : (K l).length = l.length := by unfold K; rw [List.length_map]
theorem allSpots_ok {s : PSpot} {l : List PSpot} (hs : ∀ x ∈ s :: l, GoodSpot x) (h0 : s.type = e0) (hn : (s :: l).length ≤ 6) {r : List Tok} (hr : Stops [mComma, mTo] r) : spotsP ⟨K (gather spotW true (s :: l)) ++ r, false⟩ = (s :: l, ⟨r, false⟩) := by
  have hg := hs s (by simp)
  have ht : s.least = 0 ∧ s.most = 0 := by
    rcases hg.typ with ⟨_, b, c⟩ | ⟨t0, _⟩
    · exact ⟨b, c⟩
    · rw [h0] at t0; exact absurd t0 (by decide +kernel)
  have e : (⟨s.name, s.label, spot0.type, spot0.least, spot0.most⟩ : PSpot) = s := by
    cases s; simp only at h0 ht; obtain ⟨a, b⟩ := ht; subst h0; subst a; subst b; rfl
  have hw : gather spotW true (s :: l) = nodeW s ++ gather spotW false l := by
    rw [gather]; unfold spotW; rw [h0, e0_isEmpty]; rfl
  have hlen : l.length ≤ (K (gather spotW false l) ++ r).length := by
    rw [List.length_append, K_length]
    have := gather_len spotW (fun b x => by unfold spotW nodeW; simp; omega) l false
    omega
  unfold spotsP
  rw [hw, K_append, List.append_assoc, node_ok hg spot0 rfl]
  simp only
  rw [spots_ok l _ _ r (fun x hx => hs x (by simp [hx])) hr hlen, e]
  simp only [List.cons_append, List.nil_append]
  rw [if_neg (by omega)]
theorem list_ok {α : Type} {one : RS → α × RS} {sep : ByteArray} {g : α → List ByteArray} {bad : List ByteArray} (hsep : sep ∈ lits) (hb : (bad.all fun w => !eqB sep w) = true) : ∀ (l : List α), (∀ x ∈ l, ∀ r, Stops bad r → one ⟨K (g x) ++ r, false⟩ = (x, ⟨r, false⟩)) → ∀ (n : Nat) (out : List α) (r : List Tok), Stops bad r → peekP sep ⟨r, false⟩ = false → l.length ≤ n →
    listLoop one sep n out ⟨K (l.flatMap fun x => sep :: g x) ++ r, false⟩ = (out ++ l, ⟨r, false⟩)
  | [], _, n, out, r, _, hp, _ => by
    rw [List.flatMap_nil, K_nil, List.nil_append, List.append_nil]
    cases n with
    | zero => rfl
    | succ n => unfold listLoop; rw [hp]; simp
  | x :: l, _, 0, _, _, _, _, hn => by simp at hn
  | x :: l, h, n + 1, out, r, hr, hp, hn => by
    rw [List.flatMap_cons, List.cons_append, K_cons, List.cons_append, K_append, List.append_assoc]
    have hst : Stops bad (K (l.flatMap fun x => sep :: g x) ++ r) := by
      cases l with
      | nil => rw [List.flatMap_nil, K_nil, List.nil_append]; exact hr
      | cons y l => rw [List.flatMap_cons, List.cons_append, K_cons, List.cons_append]; exact stops_lit hsep hb _
    unfold listLoop
    rw [peek_yes hsep, if_pos rfl, accept_yes hsep, h x (by simp) _ hst, list_ok hsep hb l (fun y hy => h y (by simp [hy])) n _ r hr hp (by simp at hn; omega), List.append_assoc]; rfl
theorem listP_ok {α : Type} {one : RS → α × RS} {sep : ByteArray} {g : α → List ByteArray} {bad : List ByteArray} (hsep : sep ∈ lits) (hb : (bad.all fun w => !eqB sep w) = true) {x : α} {l : List α} (h : ∀ y ∈ x :: l, ∀ r, Stops bad r → one ⟨K (g y) ++ r, false⟩ = (y, ⟨r, false⟩)) (hn : (x :: l).length ≤ 6) {r : List Tok} (hr : Stops bad r) (hp : peekP sep ⟨r, false⟩ = false) :
    listP one sep 6 ⟨K (g x ++ l.flatMap fun x => sep :: g x) ++ r, false⟩ = (x :: l, ⟨r, false⟩) := by
  have hst : Stops bad (K (l.flatMap fun x => sep :: g x) ++ r) := by
    cases l with
    | nil => rw [List.flatMap_nil, K_nil, List.nil_append]; exact hr
    | cons y l => rw [List.flatMap_cons, List.cons_append, K_cons, List.cons_append]; exact stops_lit hsep hb _
  have hlen : l.length ≤ (K (l.flatMap fun x => sep :: g x) ++ r).length := by
    rw [List.length_append, K_length]
    have : ∀ l : List α, l.length ≤ (l.flatMap fun x => sep :: g x).length := by
      intro l
      induction l with
      | nil => exact Nat.le_refl _
      | cons y l ih => rw [List.flatMap_cons, List.length_append, List.length_cons, List.length_cons]; omega
    have := this l
    omega
  unfold listP
  rw [K_append, List.append_assoc, h x (by simp) _ hst]
  simp only
  rw [list_ok hsep hb l (fun y hy => h y (by simp [hy])) _ _ r hr hp hlen]
  simp only [List.cons_append, List.nil_append]
  rw [if_neg (by omega)]
theorem op_lit {c : PCond} (h : 1 ≤ c.op ∧ c.op ≤ 6) (r : List Tok) : opLoopP opsR 1 ⟨tokOf (markW c.op) :: r, false⟩ = (c.op, ⟨r, false⟩) := by
  have hop : c.op = 1 ∨ c.op = 2 ∨ c.op = 3 ∨ c.op = 4 ∨ c.op = 5 ∨ c.op = 6 := by omega
  have y : ∀ {m : ByteArray} {r2 : List ByteArray} {i : Int}, m ∈ lits → opLoopP (m :: r2) i ⟨tokOf m :: r, false⟩ = (i, ⟨r, false⟩) := by
    intro m r2 i hm
    unfold opLoopP; rw [peek_yes hm, if_pos rfl, accept_yes hm]
  have n : ∀ {v m : ByteArray} {r2 : List ByteArray} {i : Int}, v ∈ lits → eqB v m = false → opLoopP (m :: r2) i ⟨tokOf v :: r, false⟩ = opLoopP r2 (i + 1) ⟨tokOf v :: r, false⟩ := by
    intro v m r2 i hv e
    rw [opLoopP, peek_lit hv, e, if_neg (by simp)]
  unfold opsR
  rcases hop with e | e | e | e | e | e <;> rw [e]
  · rw [show markW 1 = mEq from rfl]
    exact y (by simp [lits])
  · rw [show markW 2 = mNe from rfl]
    exact (n (by simp [lits]) (by decide +kernel)).trans (y (by simp [lits]))
  · rw [show markW 3 = mLt from rfl]
    exact (n (by simp [lits]) (by decide +kernel)).trans ((n (by simp [lits]) (by decide +kernel)).trans (y (by simp [lits])))
  · rw [show markW 4 = mLe from rfl]
    exact (n (by simp [lits]) (by decide +kernel)).trans ((n (by simp [lits]) (by decide +kernel)).trans ((n (by simp [lits]) (by decide +kernel)).trans (y (by simp [lits]))))
  · rw [show markW 5 = mGt from rfl]
    exact (n (by simp [lits]) (by decide +kernel)).trans ((n (by simp [lits]) (by decide +kernel)).trans ((n (by simp [lits]) (by decide +kernel)).trans ((n (by simp [lits]) (by decide +kernel)).trans (y (by simp [lits])))))
  · rw [show markW 6 = mGe from rfl]
    exact (n (by simp [lits]) (by decide +kernel)).trans ((n (by simp [lits]) (by decide +kernel)).trans ((n (by simp [lits]) (by decide +kernel)).trans ((n (by simp [lits]) (by decide +kernel)).trans ((n (by simp [lits]) (by decide +kernel)).trans (y (by simp [lits]))))))
theorem markW_lit {op : Int} (h : 1 ≤ op ∧ op ≤ 6) : markW op ∈ lits ∧ eqB (markW op) kIS = false := by
  have hop : op = 1 ∨ op = 2 ∨ op = 3 ∨ op = 4 ∨ op = 5 ∨ op = 6 := by omega
  rcases hop with e | e | e | e | e | e <;> subst e <;> exact ⟨by simp [lits, markW], by decide +kernel⟩
theorem cond_ok {c : PCond} (h : GoodCond c) (r : List Tok) : condP ⟨K (termW c.a ++ opW c) ++ r, false⟩ = (c, ⟨r, false⟩) := by
  rw [K_append, List.append_assoc]
  unfold condP
  rw [term_ok h.lef]
  simp only
  rcases h.rig with ⟨h6, hb⟩ | ⟨h7, hb⟩
  · have hw : opW c = markW c.op :: termW c.b := by unfold opW; rw [if_neg (by omega), if_neg (by omega)]
    obtain ⟨hm, hk⟩ := markW_lit (op := c.op) ⟨h.ops.1, h6⟩
    rw [hw, K_cons, List.cons_append, peek_lit hm, hk, if_neg (by simp), op_lit ⟨h.ops.1, h6⟩, term_ok hb]
  · have hop : c.op = 7 ∨ c.op = 8 := by have := h.ops; omega
    rcases hop with e | e
    · have hw : opW c = [kIS, kNULL] := by unfold opW; rw [if_pos e]
      rw [hw, show K [kIS, kNULL] ++ r = tokOf kIS :: tokOf kNULL :: r from rfl]
      rw [peek_yes (by simp [lits, keywords]), if_pos rfl, accept_yes (by simp [lits, keywords]), peek_lit (v := kNULL) (w := kNOT) (by simp [lits, keywords]), show eqB kNULL kNOT = false by decide +kernel, accept_no (by rw [peek_lit (v := kNULL) (w := kNOT) (by simp [lits, keywords])]; decide +kernel), expect_yes (by simp [lits, keywords])]
      cases c; simp only at e hb; subst e; subst hb; rfl
    · have hw : opW c = [kIS, kNOT, kNULL] := by unfold opW; rw [if_neg (by omega), if_pos e]
      rw [hw, show K [kIS, kNOT, kNULL] ++ r = tokOf kIS :: tokOf kNOT :: tokOf kNULL :: r from rfl]
      rw [peek_yes (by simp [lits, keywords]), if_pos rfl, accept_yes (by simp [lits, keywords]), peek_yes (w := kNOT) (by simp [lits, keywords]), accept_yes (w := kNOT) (by simp [lits, keywords]), expect_yes (by simp [lits, keywords])]
      cases c; simp only at e hb; subst e; subst hb; rfl
theorem item_ok {x : PItem} (h : GoodItem x) (r : List Tok) (hr : Stops [mDot] r) : itemP ⟨K (oneW x) ++ r, false⟩ = (x, ⟨r, false⟩) := by
  unfold oneW
  rcases h with ⟨h1, h2⟩ | ⟨h1, h2 | h2⟩
  · rw [h1, e0_isEmpty, if_pos rfl]
    simp only [K_cons, K_nil, List.cons_append, List.nil_append]
    unfold itemP
    rw [peek_yes (by simp [lits, keywords]), if_pos rfl, accept_yes (by simp [lits, keywords])]
    cases x; simp only at h1 h2; subst h1; subst h2; rfl
  · rw [name_nonempty h1, h2, e0_isEmpty]
    simp only [Bool.false_eq_true, if_false, if_true, K_cons, K_nil, List.cons_append, List.nil_append]
    unfold itemP
    rw [peek_name h1 (by simp [lits, keywords]), if_neg (by simp), name_ok h1]
    simp only
    rw [hr mDot (by simp), if_neg (by simp)]
    cases x; simp only at h2; subst h2; rfl
  · rw [name_nonempty h1, name_nonempty h2]
    simp only [Bool.false_eq_true, if_false, K_cons, K_nil, List.cons_append, List.nil_append]
    unfold itemP
    rw [peek_name h1 (by simp [lits, keywords]), if_neg (by simp), name_ok h1]
    simp only
    rw [peek_yes (by simp [lits]), if_pos rfl, accept_yes (by simp [lits]), name_ok h2]
theorem pair_ok {p : PPair} (h : GoodPair p) (r : List Tok) : pairP ⟨K [p.key, mColon, decB p.val] ++ r, false⟩ = (p, ⟨r, false⟩) := by
  simp only [K_cons, K_nil, List.cons_append, List.nil_append]
  unfold pairP
  simp only [name_ok h.1, expect_yes (w := mColon) (by simp [lits]), num_ok h.2 h.2.1 h.2.2]

end Go.Proofs.YtobgbmfpicmpcaaGreatDoor.Pure

/- Words that were written are read: what stands behind a match, and whole queries. No program in this text. -/
namespace Go.Proofs.YtobgbmfpicmpcaaGreatDoor.Pure

theorem stops_append {bad : List ByteArray} {a b : List Tok} (ha : Stops bad a) (hb : Stops bad b) : Stops bad (a ++ b) := by
  cases a with
  | nil => exact hb
  | cons t r => exact ha
theorem stops_K {bad : List ByteArray} {v : ByteArray} {w : List ByteArray} (h : v ∈ lits) (hb : (bad.all fun w => !eqB v w) = true) : Stops bad (K (v :: w)) := by
  rw [K_cons]; exact stops_lit h hb _
theorem lk {w : ByteArray} (h : w ∈ keywords) : w ∈ lits := List.mem_append.2 (Or.inl h)
theorem limit_stops {bad : List ByteArray} (hb : (bad.all fun w => !eqB kLIMIT w) = true) (q : PQuery) : Stops bad (K (limitW q)) := by
  unfold limitW
  split
  · exact stops_nil _
  · exact stops_K (lk (by simp [keywords])) hb
theorem skip_stops {bad : List ByteArray} (hb : (bad.all fun w => !eqB kSKIP w) = true) (q : PQuery) : Stops bad (K (skipW q)) := by
  unfold skipW
  split
  · exact stops_nil _
  · exact stops_K (lk (by simp [keywords])) hb
theorem order_stops {bad : List ByteArray} (hb : (bad.all fun w => !eqB kORDER w) = true) (q : PQuery) : Stops bad (K (orderW q)) := by
  unfold orderW
  split
  · exact stops_nil _
  · exact stops_K (lk (by simp [keywords])) hb
theorem limit_ok {q : PQuery} (h : q.limit = -1 ∨ (0 ≤ q.limit ∧ q.limit ≤ 1000000000)) : partP kLIMIT (-1) ⟨K (limitW q), false⟩ = (q.limit, ⟨[], false⟩) := by
  unfold limitW
  by_cases e : q.limit = -1
  · rw [if_pos e, e]; rfl
  · have hr : 0 ≤ q.limit ∧ q.limit ≤ 1000000000 := by rcases h with h | h; exact absurd h e; exact h
    rw [if_neg e, K_cons, K_cons, K_nil]
    unfold partP
    rw [peek_yes (lk (by simp [keywords])), if_pos rfl, accept_yes (lk (by simp [keywords])), num_ok ⟨by omega, hr.2⟩ hr.1 hr.2]
theorem skip_ok {q : PQuery} (h0 : 0 ≤ q.skip) (h1 : q.skip ≤ 1000000000) {r : List Tok} (hr : Stops [kSKIP] r) : partP kSKIP 0 ⟨K (skipW q) ++ r, false⟩ = (q.skip, ⟨r, false⟩) := by
  unfold skipW
  by_cases e : q.skip = 0
  · rw [if_pos e, e, K_nil, List.nil_append]
    unfold partP
    rw [hr kSKIP (by simp), if_neg (by simp)]
  · rw [if_neg e, K_cons, K_cons, K_nil, List.cons_append, List.cons_append, List.nil_append]
    unfold partP
    rw [peek_yes (lk (by simp [keywords])), if_pos rfl, accept_yes (lk (by simp [keywords])), num_ok ⟨by omega, h1⟩ h0 h1]
theorem order_ok {q : PQuery} {n : Int} (h0 : 0 ≤ q.order) (h1 : q.order ≤ n) (hn : n ≤ 6) (hd : q.order = 0 → q.down = false) {r : List Tok} (hr : Stops [kORDER, kDESC] r) : orderP n ⟨K (orderW q) ++ r, false⟩ = ((q.order, q.down), ⟨r, false⟩) := by
  unfold orderW
  by_cases e : q.order = 0
  · rw [if_pos e, K_nil, List.nil_append]
    unfold orderP
    rw [hr kORDER (by simp), if_neg (by simp), hd e, e]
  · rw [if_neg e, K_append, List.append_assoc]
    simp only [K_cons, K_nil, List.cons_append, List.nil_append]
    unfold orderP
    simp only [peek_yes (w := kORDER) (lk (by simp [keywords])), if_true, accept_yes (w := kORDER) (lk (by simp [keywords])), expect_yes (w := kBY) (lk (by simp [keywords])), num_ok (n := q.order) (lo := 1) (hi := n) ⟨by omega, by omega⟩ (by omega) h1]
    cases hq : q.down
    · simp only [Bool.false_eq_true, if_false, K_nil, List.nil_append]
      rw [hr kDESC (by simp), accept_no (hr kDESC (by simp))]
    · simp only [if_true, K_cons, K_nil, List.cons_append, List.nil_append]
      rw [peek_yes (lk (by simp [keywords])), accept_yes (lk (by simp [keywords]))]
theorem gather_flat {α : Type} (sep : ByteArray) (g : α → List ByteArray) (f : Bool → α → List ByteArray) (hf : ∀ x, f false x = sep :: g x) : ∀ l : List α, gather f false l = l.flatMap fun x => sep :: g x
  | [] => rfl
  | x :: r => by rw [gather, hf, gather_flat sep g f hf r, List.flatMap_cons]
theorem items_ok {q : PQuery} (hi : ∀ x ∈ q.items, GoodItem x) (hn : q.items ≠ []) (hl : q.items.length ≤ 6) {r : List Tok} (hr : Stops [mDot, mComma] r) : listP itemP mComma 6 ⟨K (gather itemW true q.items) ++ r, false⟩ = (q.items, ⟨r, false⟩) := by
  cases hq : q.items with
  | nil => exact absurd hq hn
  | cons x l =>
    rw [hq] at hi hl
    have e : gather itemW true (x :: l) = oneW x ++ l.flatMap fun x => mComma :: oneW x := by
      rw [gather, gather_flat mComma oneW itemW (fun y => rfl)]; rfl
    rw [e]
    exact listP_ok (bad := [mDot]) (by simp [lits]) (by decide +kernel) (fun y hy r hr => item_ok (hi y hy) r hr) hl (fun w hw => hr w (by simp at hw; simp [hw])) (hr mComma (by simp))
theorem part_stops {bad : List ByteArray} (h1 : (bad.all fun w => !eqB kORDER w) = true) (h2 : (bad.all fun w => !eqB kSKIP w) = true) (h3 : (bad.all fun w => !eqB kLIMIT w) = true) (q : PQuery) : Stops bad (K (partW q)) := by
  unfold partW
  rw [K_append, K_append]
  exact stops_append (order_stops h1 q) (stops_append (skip_stops h2 q) (limit_stops h3 q))
theorem read_ok {q : PQuery} (h : GoodRead q) : readP ⟨K (gather itemW true q.items ++ partW q), false⟩ = (⟨q.items, q.order, q.down, q.skip, q.limit⟩, ⟨[], false⟩) := by
  obtain ⟨hm, hi, hn, hl, h0, h1, hd, h2, h3, h4, _⟩ := h
  unfold readP
  rw [K_append, items_ok hi hn hl (part_stops (by decide +kernel) (by decide +kernel) (by decide +kernel) q)]
  unfold partW
  simp only
  rw [K_append, order_ok h0 h1 (by omega) hd (by rw [K_append]; exact stops_append (skip_stops (by decide +kernel) q) (limit_stops (by decide +kernel) q))]
  simp only
  rw [K_append, skip_ok h2 h3 (limit_stops (by decide +kernel) q)]
  simp only
  rw [limit_ok h4]
theorem where_ok {l : List PCond} (hc : ∀ c ∈ l, GoodCond c) (hl : l.length ≤ 6) {r : List Tok} (hr : Stops [kWHERE, kAND] r) : whereP ⟨K (gather condW true l) ++ r, false⟩ = (l, ⟨r, false⟩) := by
  cases l with
  | nil =>
    rw [gather, K_nil, List.nil_append]
    unfold whereP
    rw [hr kWHERE (by simp), if_neg (by simp)]
  | cons c l =>
    have e : gather condW true (c :: l) = kWHERE :: ((termW c.a ++ opW c) ++ l.flatMap fun x => kAND :: (termW x.a ++ opW x)) := by
      rw [gather, gather_flat kAND (fun x => termW x.a ++ opW x) condW (fun y => rfl)]; rfl
    rw [e, K_cons, List.cons_append]
    unfold whereP
    rw [peek_yes (lk (by simp [keywords])), if_pos rfl, accept_yes (lk (by simp [keywords]))]
    exact listP_ok (g := fun x => termW x.a ++ opW x) (bad := []) (lk (by simp [keywords])) rfl (fun y hy r _ => cond_ok (hc y hy) r) hl (fun w hw => by cases hw) (hr kAND (by simp))
def pairG (p : PPair) : List ByteArray := [p.key, mColon, decB p.val]
theorem pairs_ok {l : List PPair} (hp : ∀ p ∈ l, GoodPair p) (hn : l ≠ []) (hl : l.length ≤ 6) {r : List Tok} (hr : Stops [mComma] r) : listP pairP mComma 6 ⟨K (gather pairW true l) ++ r, false⟩ = (l, ⟨r, false⟩) := by
  cases l with
  | nil => exact absurd rfl hn
  | cons x l =>
    have e : gather pairW true (x :: l) = pairG x ++ l.flatMap fun p => mComma :: pairG p := by
      rw [gather, gather_flat mComma pairG pairW (fun y => rfl)]; rfl
    rw [e]
    exact listP_ok (g := pairG) (bad := []) (by simp [lits]) rfl (fun y hy r _ => pair_ok (hp y hy) r) hl (fun w hw => by cases hw) (hr mComma (by simp))
theorem make_ok {q : PQuery} (h : GoodMake q) : creationP (acceptP kCREATE ⟨K (makeW q), false⟩) = ((q.label, q.pairs), ⟨[], false⟩) := by
  obtain ⟨hl, hp, hn, ht, _⟩ := h
  unfold makeW
  simp only [List.cons_append, List.nil_append, K_cons]
  rw [accept_yes (lk (by simp [keywords]))]
  unfold creationP
  simp only [expect_yes (w := mOpen) (by simp [lits]), title_ok hl]
  cases hq : q.pairs with
  | nil =>
    simp only [List.isEmpty_nil, if_true, List.nil_append, K_cons, K_nil]
    rw [peek_lit (v := mClose) (w := mBrace) (by simp [lits]), show eqB mClose mBrace = false by decide +kernel]
    simp only [Bool.false_eq_true, if_false]
    rw [show twiceP [] [] = false from rfl]
    simp only [Bool.false_eq_true, if_false]
    rw [expect_yes (w := mClose) (by simp [lits])]
  | cons x l =>
    rw [hq] at hp hn ht
    simp only [List.isEmpty_cons, Bool.false_eq_true, if_false, List.cons_append, K_cons]
    rw [peek_yes (w := mBrace) (by simp [lits])]
    simp only [if_true]
    rw [accept_yes (w := mBrace) (by simp [lits]), K_append, K_append, List.append_assoc, pairs_ok hp (by simp) hn (stops_append (stops_K (by simp [lits]) (by decide +kernel)) (stops_K (by simp [lits]) (by decide +kernel)))]
    simp only [K_cons, K_nil, List.cons_append, List.nil_append, ht, Bool.false_eq_true, if_false]
    rw [expect_yes (w := mUnbrace) (by simp [lits]), expect_yes (w := mClose) (by simp [lits])]

end Go.Proofs.YtobgbmfpicmpcaaGreatDoor.Pure

/- A whole query that was written is read again; what is read is good. No program in this text. -/
namespace Go.Proofs.YtobgbmfpicmpcaaGreatDoor.Pure

theorem act_stops {bad : List ByteArray} (h : ([kRETURN, kSET, kDELETE, kCREATE].all fun v => bad.all fun w => !eqB v w) = true) (q : PQuery) : Stops bad (K (actW q)) := by
  have hv : ∀ v ∈ [kRETURN, kSET, kDELETE, kCREATE], (bad.all fun w => !eqB v w) = true := List.all_eq_true.1 h
  unfold actW
  split
  · exact stops_K (lk (by simp [keywords])) (hv kRETURN (by simp))
  · split
    · exact stops_K (lk (by simp [keywords])) (hv kSET (by simp))
    · split
      · exact stops_K (lk (by simp [keywords])) (hv kDELETE (by simp))
      · split
        · exact stops_K (lk (by simp [keywords])) (hv kCREATE (by simp))
        · exact stops_nil _
theorem cond_stops {bad : List ByteArray} (h : (bad.all fun w => !eqB kWHERE w) = true) (l : List PCond) : Stops bad (K (gather condW true l)) := by
  cases l with
  | nil => exact stops_nil _
  | cons c l =>
    have e : gather condW true (c :: l) = kWHERE :: ((termW c.a ++ opW c) ++ gather condW false l) := rfl
    rw [e]; exact stops_K (lk (by simp [keywords])) h
theorem match_ok {q : PQuery} (h : GoodMatch q) (h5 : q.kind ≠ 5) (h6 : q.kind ≠ 6) : queryP ⟨K (queryW q), false⟩ = actionP { query0 with spots := q.spots, conds := q.conds } ⟨K (actW q), false⟩ := by
  have hw : queryW q = matchW q ++ actW q := by unfold queryW; rw [if_neg h6, if_neg h5]
  obtain ⟨s, l, hs, h0⟩ := h.first
  have hsp := h.spots
  have hsn := h.spotn
  rw [hs] at hsp hsn
  rw [hw]
  unfold matchW
  rw [List.cons_append, K_cons, K_append, K_append, List.append_assoc]
  unfold queryP
  rw [peek_lit (v := kMATCH) (w := kCALL) (lk (by simp [keywords])), show eqB kMATCH kCALL = false by decide +kernel, peek_lit (v := kMATCH) (w := kCREATE) (lk (by simp [keywords])), show eqB kMATCH kCREATE = false by decide +kernel]
  simp only [Bool.false_eq_true, if_false]
  rw [expect_yes (w := kMATCH) (lk (by simp [keywords])), hs, allSpots_ok hsp h0 hsn (stops_append (cond_stops (by decide +kernel) _) (act_stops (by decide +kernel) q))]
  simp only
  rw [where_ok h.conds h.condn (act_stops (by decide +kernel) q)]
theorem query_ok {q : PQuery} (h : GoodQ q) : queryP ⟨K (queryW q), false⟩ = (q, ⟨[], false⟩) := by
  rcases h with h | h | h | h | h | h
  · have hr := read_ok h
    obtain ⟨hm, _, _, _, _, _, _, _, _, _, e⟩ := h
    have k1 : q.kind = 1 := by rw [e]
    rw [match_ok hm (by omega) (by omega)]
    have ha : actW q = kRETURN :: (gather itemW true q.items ++ partW q) := by unfold actW readW; rw [if_pos k1]
    rw [ha, K_cons]
    unfold actionP
    rw [peek_yes (lk (by simp [keywords])), if_pos rfl, accept_yes (lk (by simp [keywords])), hr]
    rw [e]; rfl
  · obtain ⟨hm, hn, hk, hv, e⟩ := h
    have k2 : q.kind = 2 := by rw [e]
    rw [match_ok hm (by omega) (by omega)]
    have ha : actW q = kSET :: ([q.name, mDot, q.key, mEq] ++ termW q.value) := by unfold actW; rw [if_neg (by omega), if_pos k2]; rfl
    rw [ha, K_cons, K_append]
    unfold actionP
    rw [peek_lit (v := kSET) (w := kRETURN) (lk (by simp [keywords])), show eqB kSET kRETURN = false by decide +kernel, peek_yes (w := kSET) (lk (by simp [keywords])), accept_yes (w := kSET) (lk (by simp [keywords]))]
    simp only [Bool.false_eq_true, if_false, if_true]
    have hs : setP ⟨K [q.name, mDot, q.key, mEq] ++ K (termW q.value), false⟩ = ((q.name, q.key, q.value), ⟨[], false⟩) := by
      have ht := term_ok hv []
      rw [List.append_nil] at ht
      simp only [K_cons, K_nil, List.cons_append, List.nil_append]
      unfold setP
      simp only [prop_ok hn hk, expect_yes (w := mEq) (by simp [lits]), ht]
    rw [hs]
    rw [e]; rfl
  · obtain ⟨hm, hn, e⟩ := h
    have k3 : q.kind = 3 := by rw [e]
    rw [match_ok hm (by omega) (by omega)]
    have ha : actW q = [kDELETE, q.name] := by unfold actW; rw [if_neg (by omega), if_neg (by omega), if_pos k3]
    rw [ha, K_cons, K_cons, K_nil]
    unfold actionP
    rw [peek_lit (v := kDELETE) (w := kRETURN) (lk (by simp [keywords])), show eqB kDELETE kRETURN = false by decide +kernel, peek_lit (v := kDELETE) (w := kSET) (lk (by simp [keywords])), show eqB kDELETE kSET = false by decide +kernel, peek_yes (w := kDELETE) (lk (by simp [keywords])), accept_yes (w := kDELETE) (lk (by simp [keywords]))]
    simp only [Bool.false_eq_true, if_false, if_true]
    rw [name_ok hn]
    rw [e]; rfl
  · obtain ⟨hm, hn, ht, ho, e⟩ := h
    have k4 : q.kind = 4 := by rw [e]
    rw [match_ok hm (by omega) (by omega)]
    have ha : actW q = [kCREATE, mOpen, q.name, mClose, mTo, q.type, mArrow, mOpen, q.to, mClose] := by unfold actW; rw [if_neg (by omega), if_neg (by omega), if_neg (by omega), if_pos k4]
    rw [ha, K_cons]
    unfold actionP
    rw [peek_lit (v := kCREATE) (w := kRETURN) (lk (by simp [keywords])), show eqB kCREATE kRETURN = false by decide +kernel, peek_lit (v := kCREATE) (w := kSET) (lk (by simp [keywords])), show eqB kCREATE kSET = false by decide +kernel, peek_lit (v := kCREATE) (w := kDELETE) (lk (by simp [keywords])), show eqB kCREATE kDELETE = false by decide +kernel, peek_yes (w := kCREATE) (lk (by simp [keywords])), accept_yes (w := kCREATE) (lk (by simp [keywords]))]
    simp only [Bool.false_eq_true, if_false, if_true]
    have hl : linkP ⟨K [mOpen, q.name, mClose, mTo, q.type, mArrow, mOpen, q.to, mClose], false⟩ = ((q.name, q.type, q.to), ⟨[], false⟩) := by
      simp only [K_cons, K_nil]
      unfold linkP
      simp only [expect_yes (w := mOpen) (by simp [lits]), name_ok hn, expect_yes (w := mClose) (by simp [lits]), expect_yes (w := mTo) (by simp [lits]), title_ok ht, expect_yes (w := mArrow) (by simp [lits]), name_ok ho]
    rw [hl]
    rw [e]; rfl
  · have hm := make_ok h
    obtain ⟨_, _, _, _, e⟩ := h
    have k5 : q.kind = 5 := by rw [e]
    have hw : queryW q = makeW q := by unfold queryW; rw [if_neg (by omega), if_pos k5]
    rw [hw]
    have hc : K (makeW q) = tokOf kCREATE :: K ([mOpen, q.label] ++ ((if q.pairs.isEmpty then [] else mBrace :: (gather pairW true q.pairs ++ [mUnbrace])) ++ [mClose])) := rfl
    have p1 : peekP kCALL ⟨K (makeW q), false⟩ = false := by rw [hc, peek_lit (lk (by simp [keywords]))]; decide +kernel
    have p2 : peekP kCREATE ⟨K (makeW q), false⟩ = true := by rw [hc, peek_yes (lk (by simp [keywords]))]
    unfold queryP
    rw [p1, p2]
    simp only [Bool.false_eq_true, if_false, if_true]
    rw [hm]
    rw [e]; rfl
  · obtain ⟨hn, e⟩ := h
    have k6 : q.kind = 6 := by rw [e]
    have hw : queryW q = [kCALL, q.name] := by unfold queryW; rw [if_pos k6]
    rw [hw, K_cons, K_cons, K_nil]
    unfold queryP
    rw [peek_yes (w := kCALL) (lk (by simp [keywords])), accept_yes (w := kCALL) (lk (by simp [keywords])), name_ok hn]
    rw [e]; rfl

theorem take_good {k : Int} {st : RS} (h : (takeP k st).2.bad = false) : kindP (takeP k st).1 = k := by
  unfold takeP at h ⊢
  split
  · rename_i hs
    unfold seesP at hs
    cases hr : st.rest with
    | nil => rw [hr] at hs; cases hs
    | cons t r => rw [hr] at hs; simpa using hs
  · rename_i hs
    rw [if_neg hs] at h; cases h
theorem kind_name {t : Tok} (h : kindP t = 1) : isName t.text = true := by
  unfold kindP at h
  split at h
  · cases h
  · split at h
    · cases h
    · split at h
      · unfold kindW at h
        split at h
        · assumption
        · split at h <;> cases h
      · cases h
theorem kind_title {t : Tok} (h : kindP t = 2) : isTitle t.text = true := by
  unfold kindP at h
  split at h
  · cases h
  · split at h
    · cases h
    · split at h
      · unfold kindW at h
        split at h
        · cases h
        · split at h
          · assumption
          · cases h
      · cases h
theorem name_good {st : RS} (h : (nameP st).2.bad = false) : isName (nameP st).1 = true := kind_name (take_good h)
theorem title_good {st : RS} (h : (titleP st).2.bad = false) : isTitle (titleP st).1 = true := kind_title (take_good h)
theorem num_good {lo hi : Int} {st : RS} (h : (numberP lo hi st).2.bad = false) : lo ≤ (numberP lo hi st).1 ∧ (numberP lo hi st).1 ≤ hi := by
  unfold numberP at h ⊢
  simp only at h ⊢
  split at h
  · cases h
  · omega
theorem spot_good {x : PSpot} {st : RS} (h : (spotP x st).2.bad = false) (hx : x.label = e0) : isName (spotP x st).1.name = true ∧ ((spotP x st).1.label = e0 ∨ isTitle (spotP x st).1.label = true) ∧ (spotP x st).1.type = x.type ∧ (spotP x st).1.least = x.least ∧ (spotP x st).1.most = x.most := by
  unfold spotP at h ⊢
  simp only at h ⊢
  have h1 := good_of expectP_bad h
  by_cases hp : peekP mColon (nameP (expectP mOpen st)).2 = true
  · simp only [hp, if_true] at h1 ⊢
    exact ⟨name_good (good_of acceptP_bad (good_of titleP_bad h1)), Or.inr (title_good h1), trivial, trivial, trivial⟩
  · simp only [hp, if_false, Bool.false_eq_true] at h1 ⊢
    exact ⟨name_good h1, Or.inl hx, trivial, trivial, trivial⟩
theorem star_good {st : RS} (h : (starP st).2.bad = false) : 0 ≤ (starP st).1.1 ∧ (starP st).1.1 ≤ (starP st).1.2 ∧ (starP st).1.2 ≤ 4 := by
  unfold starP at h ⊢
  split
  · rename_i hp
    rw [if_pos hp] at h
    simp only at h ⊢
    have h2 := num_good h
    have h1 := num_good (good_of expectP_bad (good_of numberP_bad h))
    exact ⟨h1.1, h2.1, h2.2⟩
  · simp
theorem step_good {st : RS} (h : (stepP st).2.bad = false) : isTitle (stepP st).1.type = true ∧ 0 ≤ (stepP st).1.least ∧ (stepP st).1.least ≤ (stepP st).1.most ∧ (stepP st).1.most ≤ 4 ∧ (stepP st).1.label = e0 := by
  unfold stepP at h ⊢
  simp only at h ⊢
  have h1 := good_of expectP_bad h
  have h2 := star_good h1
  exact ⟨title_good (good_of starP_bad h1), h2.1, h2.2.1, h2.2.2, trivial⟩
theorem start_good {st : RS} (h : (spotP spot0 st).2.bad = false) : GoodSpot (spotP spot0 st).1 := by
  obtain ⟨a, b, c, d, e⟩ := spot_good h rfl
  exact ⟨a, b, Or.inl ⟨c, d, e⟩⟩
theorem hop_good {st : RS} (h : (hopP st).2.bad = false) : GoodSpot (hopP st).1 := by
  unfold hopP at h ⊢
  obtain ⟨t, l0, l1, l2, l3⟩ := step_good (good_of spotP_bad h)
  obtain ⟨a, b, c, d, e⟩ := spot_good h l3
  exact ⟨a, b, Or.inr ⟨by rw [c]; exact t, by rw [d]; exact l0, by rw [d, e]; exact l1, by rw [e]; exact l2⟩⟩
theorem spotsLoop_good (n : Nat) : ∀ (out : List PSpot) (st : RS), (spotsLoop n out st).2.bad = false → (∀ s ∈ out, GoodSpot s) → (∀ s ∈ (spotsLoop n out st).1, GoodSpot s) ∧ ∃ t, (spotsLoop n out st).1 = out ++ t := by
  induction n with
  | zero => intro out st _ h; exact ⟨h, [], by simp [spotsLoop]⟩
  | succ n ih =>
    intro out st hb h
    unfold spotsLoop at hb ⊢
    by_cases h1 : peekP mComma st = true
    · simp only [h1, if_true] at hb ⊢
      have hg : (spotP spot0 (acceptP mComma st)).2.bad = false := good_of (spotsLoop_bad n) hb
      obtain ⟨a, t, e⟩ := ih _ _ hb (fun s hs => by rcases List.mem_append.1 hs with hs | hs; exact h s hs; rw [List.mem_singleton.1 hs]; exact start_good hg)
      exact ⟨a, _ :: t, by rw [e, List.append_assoc]; rfl⟩
    · by_cases h2 : peekP mTo st = true
      · simp only [h1, h2, if_true, if_false, Bool.false_eq_true] at hb ⊢
        have hg : (hopP (acceptP mTo st)).2.bad = false := good_of (spotsLoop_bad n) hb
        obtain ⟨a, t, e⟩ := ih _ _ hb (fun s hs => by rcases List.mem_append.1 hs with hs | hs; exact h s hs; rw [List.mem_singleton.1 hs]; exact hop_good hg)
        exact ⟨a, _ :: t, by rw [e, List.append_assoc]; rfl⟩
      · simp only [h1, h2, if_false, Bool.false_eq_true] at hb ⊢
        exact ⟨h, [], by simp⟩
theorem spots_good {st : RS} (h : (spotsP st).2.bad = false) : (∀ s ∈ (spotsP st).1, GoodSpot s) ∧ (∃ s r, (spotsP st).1 = s :: r ∧ s.type = e0) ∧ (spotsP st).1.length ≤ 6 := by
  unfold spotsP at h ⊢
  simp only at h ⊢
  split at h
  · cases h
  · have hg : (spotP spot0 st).2.bad = false := good_of (spotsLoop_bad _) h
    obtain ⟨a, t, e⟩ := spotsLoop_good _ _ _ h (fun s hs => by rw [List.mem_singleton.1 hs]; exact start_good hg)
    refine ⟨a, ⟨(spotP spot0 st).1, t, by rw [e]; rfl, (spot_good hg rfl).2.2.1⟩, by omega⟩
theorem listLoop_good {α : Type} {one : RS → α × RS} {sep : ByteArray} {P : α → Prop} (ho : ∀ {st : RS}, st.bad = true → (one st).2.bad = true) (hp : ∀ {st : RS}, (one st).2.bad = false → P (one st).1) (n : Nat) : ∀ (out : List α) (st : RS), (listLoop one sep n out st).2.bad = false → (∀ x ∈ out, P x) → (∀ x ∈ (listLoop one sep n out st).1, P x) ∧ ∃ t, (listLoop one sep n out st).1 = out ++ t := by
  induction n with
  | zero => intro out st _ h; exact ⟨h, [], by simp [listLoop]⟩
  | succ n ih =>
    intro out st hb h
    unfold listLoop at hb ⊢
    by_cases h1 : peekP sep st = true
    · simp only [h1, if_true] at hb ⊢
      have hg : (one (acceptP sep st)).2.bad = false := good_of (listLoop_bad ho n) hb
      obtain ⟨a, t, e⟩ := ih _ _ hb (fun s hs => by rcases List.mem_append.1 hs with hs | hs; exact h s hs; rw [List.mem_singleton.1 hs]; exact hp hg)
      exact ⟨a, _ :: t, by rw [e, List.append_assoc]; rfl⟩
    · simp only [h1, if_false, Bool.false_eq_true] at hb ⊢
      exact ⟨h, [], by simp⟩
theorem list_good {α : Type} {one : RS → α × RS} {sep : ByteArray} {P : α → Prop} {most : Nat} (ho : ∀ {st : RS}, st.bad = true → (one st).2.bad = true) (hp : ∀ {st : RS}, (one st).2.bad = false → P (one st).1) {st : RS} (h : (listP one sep most st).2.bad = false) : (∀ x ∈ (listP one sep most st).1, P x) ∧ (listP one sep most st).1 ≠ [] ∧ (listP one sep most st).1.length ≤ most := by
  unfold listP at h ⊢
  simp only at h ⊢
  split at h
  · cases h
  · have hg : (one st).2.bad = false := good_of (listLoop_bad ho _) h
    obtain ⟨a, t, e⟩ := listLoop_good ho hp _ _ _ h (fun s hs => by rw [List.mem_singleton.1 hs]; exact hp hg)
    refine ⟨a, by rw [e]; simp, by omega⟩
theorem prop_good {st : RS} (h : (propP st).2.bad = false) : isName (propP st).1.1 = true ∧ isName (propP st).1.2 = true := by
  unfold propP at h ⊢
  simp only at h ⊢
  exact ⟨name_good (good_of expectP_bad (good_of nameP_bad h)), name_good h⟩
theorem term_good {st : RS} (h : (termP st).2.bad = false) : GoodTerm (termP st).1 := by
  unfold termP at h ⊢
  split
  · rename_i hp
    rw [if_pos hp] at h
    simp only at h ⊢
    have := num_good h
    exact Or.inl ⟨rfl, rfl, this⟩
  · rename_i hp
    rw [if_neg hp] at h
    simp only at h ⊢
    have := prop_good h
    exact Or.inr ⟨this.1, this.2, rfl⟩
theorem opLoopP_good : ∀ (l : List ByteArray) (i : Int) (st : RS), (opLoopP l i st).2.bad = false → 1 ≤ i → 1 ≤ (opLoopP l i st).1 ∧ (opLoopP l i st).1 < i + l.length
  | [], i, st, h, _ => by cases h
  | m :: r, i, st, h, hi => by
    unfold opLoopP at h ⊢
    split
    · simp; omega
    · rename_i hp
      rw [if_neg hp] at h
      have := opLoopP_good r (i + 1) st h (by omega)
      simp only [List.length_cons]
      omega
theorem cond_good {st : RS} (h : (condP st).2.bad = false) : GoodCond (condP st).1 := by
  unfold condP at h ⊢
  simp only at h ⊢
  by_cases hp : peekP kIS (termP st).2 = true
  · simp only [hp, if_true] at h ⊢
    have ha := term_good (good_of acceptP_bad (good_of acceptP_bad (good_of expectP_bad h)))
    refine ⟨?_, ha, Or.inr ⟨?_, rfl⟩⟩
    · simp only; split <;> omega
    · simp only; split <;> omega
  · simp only [hp, if_false, Bool.false_eq_true] at h ⊢
    have hb := term_good h
    have ho := good_of termP_bad h
    have hr := opLoopP_good opsR 1 _ ho (by omega)
    have hl : opsR.length = 6 := rfl
    rw [hl] at hr
    have ha := term_good (good_of opLoopP_bad ho)
    exact ⟨⟨hr.1, by simp only; omega⟩, ha, Or.inl ⟨by simp only; omega, hb⟩⟩
theorem item_good {st : RS} (h : (itemP st).2.bad = false) : GoodItem (itemP st).1 := by
  unfold itemP at h ⊢
  by_cases hp : peekP kCOUNT st = true
  · simp only [hp, if_true] at h ⊢
    exact Or.inl ⟨rfl, rfl⟩
  · simp only [hp, if_false, Bool.false_eq_true] at h ⊢
    by_cases hd : peekP mDot (nameP st).2 = true
    · simp only [hd, if_true] at h ⊢
      exact Or.inr ⟨name_good (good_of acceptP_bad (good_of nameP_bad h)), Or.inr (name_good h)⟩
    · simp only [hd, if_false, Bool.false_eq_true] at h ⊢
      exact Or.inr ⟨name_good h, Or.inl rfl⟩
theorem pair_good {st : RS} (h : (pairP st).2.bad = false) : GoodPair (pairP st).1 := by
  unfold pairP at h ⊢
  simp only at h ⊢
  exact ⟨name_good (good_of expectP_bad (good_of numberP_bad h)), num_good h⟩

end Go.Proofs.YtobgbmfpicmpcaaGreatDoor.Pure

/- What is read is good, whole; its words are words, and few; what was written is read as it was. No program in this text. -/
namespace Go.Proofs.YtobgbmfpicmpcaaGreatDoor.Pure

theorem order_good {k : Int} {st : RS} (h : (orderP k st).2.bad = false) (hk : 0 ≤ k) : 0 ≤ (orderP k st).1.1 ∧ (orderP k st).1.1 ≤ k ∧ ((orderP k st).1.1 = 0 → (orderP k st).1.2 = false) := by
  unfold orderP at h ⊢
  by_cases hp : peekP kORDER st = true
  · simp only [hp, if_true] at h ⊢
    have := num_good (good_of acceptP_bad h)
    refine ⟨by omega, this.2, fun e => by omega⟩
  · simp only [hp, if_false, Bool.false_eq_true] at h ⊢
    exact ⟨by omega, hk, fun _ => trivial⟩
theorem part_good {w : ByteArray} {d : Int} {st : RS} (h : (partP w d st).2.bad = false) : (partP w d st).1 = d ∨ (0 ≤ (partP w d st).1 ∧ (partP w d st).1 ≤ 1000000000) := by
  unfold partP at h ⊢
  by_cases hp : peekP w st = true
  · simp only [hp, if_true] at h ⊢
    exact Or.inr (num_good h)
  · simp only [hp, if_false, Bool.false_eq_true] at h ⊢
    exact Or.inl trivial
theorem creation_good {st : RS} (h : (creationP st).2.bad = false) : isTitle (creationP st).1.1 = true ∧ (∀ p ∈ (creationP st).1.2, GoodPair p) ∧ (creationP st).1.2.length ≤ 6 ∧ twiceP [] (creationP st).1.2 = false := by
  have ht : (titleP (expectP mOpen st)).2.bad = false := good_of creationP_bad h
  unfold creationP at h ⊢
  simp only at h ⊢
  by_cases hp : peekP mBrace (titleP (expectP mOpen st)).2 = true
  · simp only [hp, if_true] at h ⊢
    split at h
    · cases h
    · rename_i htw
      have h1 := good_of expectP_bad (good_of expectP_bad h)
      obtain ⟨a, _, c⟩ := list_good pairP_bad pair_good h1
      exact ⟨title_good ht, a, c, by simpa using htw⟩
  · simp only [hp, if_false, Bool.false_eq_true] at h ⊢
    exact ⟨title_good ht, (fun p hp => (by cases hp)), by simp, rfl⟩
theorem where_good {st : RS} (h : (whereP st).2.bad = false) : (∀ c ∈ (whereP st).1, GoodCond c) ∧ (whereP st).1.length ≤ 6 := by
  unfold whereP at h ⊢
  by_cases hp : peekP kWHERE st = true
  · simp only [hp, if_true] at h ⊢
    obtain ⟨a, _, c⟩ := list_good condP_bad cond_good h
    exact ⟨a, c⟩
  · simp only [hp, if_false, Bool.false_eq_true] at h ⊢
    exact ⟨(fun c hc => (by cases hc)), by simp⟩
theorem link_good {st : RS} (h : (linkP st).2.bad = false) : isName (linkP st).1.1 = true ∧ isTitle (linkP st).1.2.1 = true ∧ isName (linkP st).1.2.2 = true := by
  unfold linkP at h ⊢
  simp only at h ⊢
  have h1 := good_of expectP_bad h
  have h2 := good_of expectP_bad (good_of expectP_bad (good_of nameP_bad h1))
  have h3 := good_of expectP_bad (good_of expectP_bad (good_of titleP_bad h2))
  exact ⟨name_good h3, title_good h2, name_good h1⟩
theorem set_good {st : RS} (h : (setP st).2.bad = false) : isName (setP st).1.1 = true ∧ isName (setP st).1.2.1 = true ∧ GoodTerm (setP st).1.2.2 := by
  unfold setP at h ⊢
  simp only at h ⊢
  have h1 := prop_good (good_of expectP_bad (good_of termP_bad h))
  exact ⟨h1.1, h1.2, term_good h⟩
theorem read_good {st : RS} (h : (readP st).2.bad = false) : (∀ x ∈ (readP st).1.items, GoodItem x) ∧ (readP st).1.items ≠ [] ∧ (readP st).1.items.length ≤ 6 ∧ 0 ≤ (readP st).1.order ∧ (readP st).1.order ≤ (readP st).1.items.length ∧ ((readP st).1.order = 0 → (readP st).1.down = false) ∧ 0 ≤ (readP st).1.skip ∧ (readP st).1.skip ≤ 1000000000 ∧ ((readP st).1.limit = -1 ∨ (0 ≤ (readP st).1.limit ∧ (readP st).1.limit ≤ 1000000000)) := by
  unfold readP at h ⊢
  simp only at h ⊢
  have h1 := good_of partP_bad h
  have h2 := good_of partP_bad h1
  have h3 := good_of orderP_bad h2
  obtain ⟨a, b, c⟩ := list_good itemP_bad item_good h3
  obtain ⟨o1, o2, o3⟩ := order_good h2 (by omega)
  have hs := part_good h1
  have hl := part_good h
  refine ⟨a, b, c, o1, o2, o3, by omega, by omega, hl⟩
theorem action_good {q : PQuery} {st : RS} (h : (actionP q st).2.bad = false) (hm : GoodMatch q) (hq : q = { query0 with spots := q.spots, conds := q.conds }) : GoodQ (actionP q st).1 := by
  have mk : ∀ q' : PQuery, q'.spots = q.spots → q'.conds = q.conds → GoodMatch q' := fun q' e1 e2 => ⟨by rw [e1]; exact hm.spots, by rw [e1]; exact hm.first, by rw [e1]; exact hm.spotn, by rw [e2]; exact hm.conds, by rw [e2]; exact hm.condn⟩
  unfold actionP at h ⊢
  by_cases h1 : peekP kRETURN st = true
  · simp only [h1, if_true] at h ⊢
    obtain ⟨a, b, c, d, e, f, g, i, j⟩ := read_good h
    refine Or.inl ⟨mk _ rfl rfl, a, b, c, d, e, f, g, i, j, ?_⟩
    rw [hq]; rfl
  · by_cases h2 : peekP kSET st = true
    · simp only [h1, h2, if_true, if_false, Bool.false_eq_true] at h ⊢
      obtain ⟨a, b, c⟩ := set_good h
      refine Or.inr (Or.inl ⟨mk _ rfl rfl, a, b, c, ?_⟩)
      rw [hq]; rfl
    · by_cases h3 : peekP kDELETE st = true
      · simp only [h1, h2, h3, if_true, if_false, Bool.false_eq_true] at h ⊢
        refine Or.inr (Or.inr (Or.inl ⟨mk _ rfl rfl, name_good h, ?_⟩))
        rw [hq]; rfl
      · by_cases h4 : peekP kCREATE st = true
        · simp only [h1, h2, h3, h4, if_true, if_false, Bool.false_eq_true] at h ⊢
          obtain ⟨a, b, c⟩ := link_good h
          refine Or.inr (Or.inr (Or.inr (Or.inl ⟨mk _ rfl rfl, a, b, c, ?_⟩)))
          rw [hq]; rfl
        · simp only [h1, h2, h3, h4, if_false, Bool.false_eq_true] at h
          cases h
theorem query_good {st : RS} (h : (queryP st).2.bad = false) : GoodQ (queryP st).1 := by
  unfold queryP at h ⊢
  by_cases h1 : peekP kCALL st = true
  · simp only [h1, if_true] at h ⊢
    exact Or.inr (Or.inr (Or.inr (Or.inr (Or.inr ⟨name_good h, rfl⟩))))
  · by_cases h2 : peekP kCREATE st = true
    · simp only [h1, h2, if_true, if_false, Bool.false_eq_true] at h ⊢
      obtain ⟨a, b, c, d⟩ := creation_good h
      exact Or.inr (Or.inr (Or.inr (Or.inr (Or.inl ⟨a, b, c, d, rfl⟩))))
    · simp only [h1, h2, if_false, Bool.false_eq_true] at h ⊢
      have ha := good_of actionP_bad h
      have hs := good_of whereP_bad ha
      obtain ⟨a, b, c⟩ := spots_good hs
      obtain ⟨d, e⟩ := where_good ha
      exact action_good h ⟨a, b, c, d, e⟩ rfl

/-- A word of the language. -/
def Wd (w : ByteArray) : Prop := WordOk w (tokOf w) ∧ w.size ≤ 11
theorem wd_of {w : ByteArray} {t : Tok} (h : WordOk w t) (hs : w.size ≤ 11) : Wd w := ⟨by rw [tokOf_of h]; exact h, hs⟩
theorem lits_small : lits.all (fun w => decide (w.size ≤ 11)) = true := by decide +kernel
theorem wd_lit {w : ByteArray} (h : w ∈ lits) : Wd w := by
  obtain ⟨k, hk⟩ := lit_ok h
  exact wd_of hk (by simpa using List.all_eq_true.1 lits_small w h)
theorem wd_word {w : ByteArray} (h : isWord w = true) : Wd w := wd_of (word_ok h) (by have := (isWord_parts h).2.1; omega)
theorem wd_name {w : ByteArray} (h : isName w = true) : Wd w := wd_word (name_word h).1
theorem wd_title {w : ByteArray} (h : isTitle w = true) : Wd w := wd_word (title_word h).1
theorem dec_len : ∀ (k u : Nat), u < 10 ^ (k + 1) → (Lib.decDigits u).length ≤ k + 1
  | 0, u, h => by rw [Lib.decDigits_one (by omega)]; simp
  | k + 1, u, h => by
    by_cases hu : u < 10
    · rw [Lib.decDigits_one hu]; simp
    · rw [dec_rec hu, List.length_append]
      have : u / 10 < 10 ^ (k + 1) := by rw [Nat.pow_succ] at h; omega
      have := dec_len k (u / 10) this
      simp only [List.length_singleton]; omega
theorem wd_num {n : Int} (h : inInt n) : Wd (decB n) := by
  refine wd_of (number_ok h.1 h.2) ?_
  have hz : (decB n).size = (Lib.itoa n).length := by rw [← len_toList]; simp [decB]
  rw [hz]
  have hd : (Lib.decDigits n.natAbs).length ≤ 10 := dec_len 9 _ (by have := h.1; have := h.2; omega)
  have hd2 : (Lib.decDigits n.toNat).length ≤ 10 := dec_len 9 _ (by have := h.1; have := h.2; omega)
  unfold Lib.itoa
  split <;> simp <;> omega
def WL (n : Nat) (l : List ByteArray) : Prop := (∀ w ∈ l, Wd w) ∧ l.length ≤ n
theorem wl_nil (n : Nat) : WL n [] := ⟨(fun w hw => (by cases hw)), Nat.zero_le _⟩
theorem wl_cons {n : Nat} {w : ByteArray} {l : List ByteArray} (h : Wd w) (hl : WL n l) : WL (n + 1) (w :: l) :=
  ⟨fun x hx => by rcases List.mem_cons.1 hx with rfl | hx; exact h; exact hl.1 x hx, by have := hl.2; simp only [List.length_cons]; omega⟩
theorem wl_append {n m : Nat} {a b : List ByteArray} (ha : WL n a) (hb : WL m b) : WL (n + m) (a ++ b) :=
  ⟨fun x hx => by rcases List.mem_append.1 hx with hx | hx; exact ha.1 x hx; exact hb.1 x hx, by have := ha.2; have := hb.2; rw [List.length_append]; omega⟩
theorem wl_mono {n m : Nat} {a : List ByteArray} (h : WL n a) (hn : n ≤ m) : WL m a := ⟨h.1, Nat.le_trans h.2 hn⟩
theorem wl_gather {α : Type} {f : Bool → α → List ByteArray} {n : Nat} : ∀ (l : List α) (b : Bool), (∀ b, ∀ x ∈ l, WL n (f b x)) → WL (l.length * n) (gather f b l)
  | [], b, _ => wl_nil _
  | x :: l, b, h => by
    rw [gather]
    have h1 := h b x (by simp)
    have h2 := wl_gather l false (fun b y hy => h b y (by simp [hy]))
    refine wl_mono (wl_append h1 h2) ?_
    rw [List.length_cons, Nat.succ_mul]; omega
theorem wl_term {t : PTerm} (h : GoodTerm t) : WL 3 (termW t) := by
  unfold termW
  rcases h with ⟨h1, h2, h3⟩ | ⟨h1, h2, h3⟩
  · rw [h1, e0_isEmpty, if_pos rfl]; exact wl_mono (wl_cons (wd_num h3) (wl_nil 0)) (by omega)
  · rw [name_nonempty h1, if_neg (by simp)]
    exact wl_cons (wd_name h1) (wl_cons (wd_lit (by simp [lits])) (wl_cons (wd_name h2) (wl_nil 0)))
theorem wl_node {s : PSpot} (h : GoodSpot s) : WL 5 (nodeW s) := by
  unfold nodeW
  rcases h.lab with hl | hl
  · rw [hl, e0_isEmpty, if_pos rfl]
    exact wl_mono (wl_cons (wd_lit (by simp [lits])) (wl_cons (wd_name h.nam) (wl_cons (wd_lit (by simp [lits])) (wl_nil 0)))) (by omega)
  · rw [title_nonempty hl, if_neg (by simp)]
    exact wl_cons (wd_lit (by simp [lits])) (wl_cons (wd_name h.nam) (wl_cons (wd_lit (by simp [lits])) (wl_cons (wd_title hl) (wl_cons (wd_lit (by simp [lits])) (wl_nil 0)))))
theorem wl_step {s : PSpot} (t0 : isTitle s.type = true) (t1 : 0 ≤ s.least) (t2 : s.least ≤ s.most) (t3 : s.most ≤ 4) : WL 7 (stepW s) := by
  unfold stepW
  split
  · exact wl_mono (wl_cons (wd_lit (by simp [lits])) (wl_cons (wd_title t0) (wl_cons (wd_lit (by simp [lits])) (wl_nil 0)))) (by omega)
  · exact wl_cons (wd_lit (by simp [lits])) (wl_cons (wd_title t0) (wl_cons (wd_lit (by simp [lits])) (wl_cons (wd_num (small_int t1 (by omega))) (wl_cons (wd_lit (by simp [lits])) (wl_cons (wd_num (small_int (by omega) t3)) (wl_cons (wd_lit (by simp [lits])) (wl_nil 0)))))))
theorem wl_spot {s : PSpot} (h : GoodSpot s) (b : Bool) : WL 12 (spotW b s) := by
  rcases h.typ with ⟨t0, t1, t2⟩ | ⟨t0, t1, t2, t3⟩
  · unfold spotW
    rw [t0, e0_isEmpty, if_pos rfl]
    cases b
    · exact wl_mono (wl_append (wl_cons (wd_lit (by simp [lits])) (wl_nil 0)) (wl_node h)) (by omega)
    · exact wl_mono (wl_append (wl_nil 0) (wl_node h)) (by omega)
  · rw [spotW_step t0]
    exact wl_append (wl_step t0 t1 t2 t3) (wl_node h)
theorem wl_cond {c : PCond} (h : GoodCond c) (b : Bool) : WL 8 (condW b c) := by
  have hk : Wd (if b then kWHERE else kAND) := by cases b <;> exact wd_lit (lk (by simp [keywords]))
  have ho : WL 4 (opW c) := by
    rcases h.rig with ⟨h6, hb⟩ | ⟨h7, _⟩
    · have hw : opW c = markW c.op :: termW c.b := by unfold opW; rw [if_neg (by omega), if_neg (by omega)]
      rw [hw]; exact wl_cons (wd_lit (markW_lit ⟨h.ops.1, h6⟩).1) (wl_term hb)
    · unfold opW
      split
      · exact wl_mono (wl_cons (wd_lit (lk (by simp [keywords]))) (wl_cons (wd_lit (lk (by simp [keywords]))) (wl_nil 0))) (by omega)
      · rw [if_pos (by have := h.ops; omega)]
        exact wl_mono (wl_cons (wd_lit (lk (by simp [keywords]))) (wl_cons (wd_lit (lk (by simp [keywords]))) (wl_cons (wd_lit (lk (by simp [keywords]))) (wl_nil 0)))) (by omega)
  unfold condW
  exact wl_cons hk (wl_append (wl_term h.lef) ho)
theorem wl_item {x : PItem} (h : GoodItem x) (b : Bool) : WL 4 (itemW b x) := by
  have ho : WL 3 (oneW x) := by
    unfold oneW
    rcases h with ⟨h1, h2⟩ | ⟨h1, h2 | h2⟩
    · rw [h1, e0_isEmpty, if_pos rfl]; exact wl_mono (wl_cons (wd_lit (lk (by simp [keywords]))) (wl_nil 0)) (by omega)
    · rw [name_nonempty h1, h2, e0_isEmpty, if_neg (by simp), if_pos rfl]; exact wl_mono (wl_cons (wd_name h1) (wl_nil 0)) (by omega)
    · rw [name_nonempty h1, name_nonempty h2, if_neg (by simp), if_neg (by simp)]
      exact wl_cons (wd_name h1) (wl_cons (wd_lit (by simp [lits])) (wl_cons (wd_name h2) (wl_nil 0)))
  unfold itemW
  cases b
  · exact wl_mono (wl_append (wl_cons (wd_lit (by simp [lits])) (wl_nil 0)) ho) (by omega)
  · exact wl_mono (wl_append (wl_nil 0) ho) (by omega)
theorem wl_pair {p : PPair} (h : GoodPair p) (b : Bool) : WL 4 (pairW b p) := by
  have ho : WL 3 [p.key, mColon, decB p.val] := wl_cons (wd_name h.1) (wl_cons (wd_lit (by simp [lits])) (wl_cons (wd_num h.2) (wl_nil 0)))
  unfold pairW
  cases b
  · exact wl_mono (wl_append (wl_cons (wd_lit (by simp [lits])) (wl_nil 0)) ho) (by omega)
  · exact wl_mono (wl_append (wl_nil 0) ho) (by omega)
theorem wl_match {q : PQuery} (h : GoodMatch q) : WL 121 (matchW q) := by
  unfold matchW
  have h1 := wl_gather (f := spotW) q.spots true (fun b x hx => wl_spot (h.spots x hx) b)
  have h2 := wl_gather (f := condW) q.conds true (fun b x hx => wl_cond (h.conds x hx) b)
  have := h.spotn
  have := h.condn
  exact wl_mono (wl_cons (wd_lit (lk (by simp [keywords]))) (wl_append h1 h2)) (by omega)
theorem wl_part {q : PQuery} (h : GoodRead q) : WL 8 (partW q) := by
  obtain ⟨hm, hi, hn, hl, h0, h1, hd, h2, h3, h4, _⟩ := h
  have ho : WL 4 (orderW q) := by
    unfold orderW
    split
    · exact wl_nil _
    · have hdn : WL 1 (if q.down then [kDESC] else []) := by
        split
        · exact wl_cons (wd_lit (lk (by simp [keywords]))) (wl_nil 0)
        · exact wl_nil _
      exact wl_append (wl_cons (wd_lit (lk (by simp [keywords]))) (wl_cons (wd_lit (lk (by simp [keywords]))) (wl_cons (wd_num ⟨by omega, by omega⟩) (wl_nil 0)))) hdn
  have hs : WL 2 (skipW q) := by
    unfold skipW
    split
    · exact wl_nil _
    · exact wl_cons (wd_lit (lk (by simp [keywords]))) (wl_cons (wd_num ⟨by omega, by omega⟩) (wl_nil 0))
  have hm : WL 2 (limitW q) := by
    unfold limitW
    split
    · exact wl_nil _
    · exact wl_cons (wd_lit (lk (by simp [keywords]))) (wl_cons (wd_num ⟨by omega, by omega⟩) (wl_nil 0))
  unfold partW
  exact wl_append ho (wl_append hs hm)
theorem wl_query {q : PQuery} (h : GoodQ q) : WL 160 (queryW q) := by
  rcases h with h | h | h | h | h | h
  · have hp := wl_part h
    obtain ⟨hm, hi, _, hl, _, _, _, _, _, _, e⟩ := h
    have k1 : q.kind = 1 := by rw [e]
    have hw : queryW q = matchW q ++ (kRETURN :: (gather itemW true q.items ++ partW q)) := by unfold queryW actW readW; rw [if_neg (by omega), if_neg (by omega), if_pos k1]
    rw [hw]
    have h2 := wl_gather (f := itemW) q.items true (fun b x hx => wl_item (hi x hx) b)
    exact wl_mono (wl_append (wl_match hm) (wl_cons (wd_lit (lk (by simp [keywords]))) (wl_append h2 hp))) (by omega)
  · obtain ⟨hm, hn, hk, hv, e⟩ := h
    have k2 : q.kind = 2 := by rw [e]
    have hw : queryW q = matchW q ++ ([kSET, q.name, mDot, q.key, mEq] ++ termW q.value) := by unfold queryW actW; rw [if_neg (by omega), if_neg (by omega), if_neg (by omega), if_pos k2]
    rw [hw]
    exact wl_mono (wl_append (wl_match hm) (wl_append (wl_cons (wd_lit (lk (by simp [keywords]))) (wl_cons (wd_name hn) (wl_cons (wd_lit (by simp [lits])) (wl_cons (wd_name hk) (wl_cons (wd_lit (by simp [lits])) (wl_nil 0)))))) (wl_term hv))) (by omega)
  · obtain ⟨hm, hn, e⟩ := h
    have k3 : q.kind = 3 := by rw [e]
    have hw : queryW q = matchW q ++ [kDELETE, q.name] := by unfold queryW actW; rw [if_neg (by omega), if_neg (by omega), if_neg (by omega), if_neg (by omega), if_pos k3]
    rw [hw]
    exact wl_mono (wl_append (wl_match hm) (wl_cons (wd_lit (lk (by simp [keywords]))) (wl_cons (wd_name hn) (wl_nil 0)))) (by omega)
  · obtain ⟨hm, hn, ht, ho, e⟩ := h
    have k4 : q.kind = 4 := by rw [e]
    have hw : queryW q = matchW q ++ [kCREATE, mOpen, q.name, mClose, mTo, q.type, mArrow, mOpen, q.to, mClose] := by unfold queryW actW; rw [if_neg (by omega), if_neg (by omega), if_neg (by omega), if_neg (by omega), if_neg (by omega), if_pos k4]
    rw [hw]
    exact wl_mono (wl_append (wl_match hm) (wl_cons (wd_lit (lk (by simp [keywords]))) (wl_cons (wd_lit (by simp [lits])) (wl_cons (wd_name hn) (wl_cons (wd_lit (by simp [lits])) (wl_cons (wd_lit (by simp [lits])) (wl_cons (wd_title ht) (wl_cons (wd_lit (by simp [lits])) (wl_cons (wd_lit (by simp [lits])) (wl_cons (wd_name ho) (wl_cons (wd_lit (by simp [lits])) (wl_nil 0)))))))))))) (by omega)
  · obtain ⟨hl, hp, hn, ht, e⟩ := h
    have k5 : q.kind = 5 := by rw [e]
    have hw : queryW q = makeW q := by unfold queryW; rw [if_neg (by omega), if_pos k5]
    rw [hw]
    unfold makeW
    have h2 := wl_gather (f := pairW) q.pairs true (fun b x hx => wl_pair (hp x hx) b)
    have hb : WL 26 (if q.pairs.isEmpty then [] else mBrace :: (gather pairW true q.pairs ++ [mUnbrace])) := by
      split
      · exact wl_nil _
      · exact wl_mono (wl_cons (wd_lit (by simp [lits])) (wl_append h2 (wl_cons (wd_lit (by simp [lits])) (wl_nil 0)))) (by omega)
    exact wl_mono (wl_append (wl_cons (wd_lit (lk (by simp [keywords]))) (wl_cons (wd_lit (by simp [lits])) (wl_cons (wd_title hl) (wl_nil 0)))) (wl_append hb (wl_cons (wd_lit (by simp [lits])) (wl_nil 0)))) (by omega)
  · obtain ⟨hn, e⟩ := h
    have k6 : q.kind = 6 := by rw [e]
    have hw : queryW q = [kCALL, q.name] := by unfold queryW; rw [if_pos k6]
    rw [hw]
    exact wl_mono (wl_cons (wd_lit (lk (by simp [keywords]))) (wl_cons (wd_name hn) (wl_nil 0))) (by omega)
theorem spaced_len : ∀ l : List ByteArray, (∀ w ∈ l, Wd w) → (spaced l).length ≤ l.length * 12
  | [], _ => by simp [spaced_nil]
  | w :: r, h => by
    rw [spaced_cons]
    have h1 := (h w (by simp)).2
    have h2 := spaced_len r (fun x hx => h x (by simp [hx]))
    have hb : (bl w).length = w.size := len_toList w
    simp only [List.length_cons, List.length_append, hb]
    omega
theorem joined_len {l : List ByteArray} (h : WL 160 l) : (joined l).length ≤ 2000 := by
  cases l with
  | nil => simp [joined, Lib.join]
  | cons w r =>
    rw [joined_cons]
    have h1 := (h.1 w (by simp)).2
    have h2 := spaced_len r (fun x hx => h.1 x (by simp [hx]))
    have h3 := h.2
    have hb : (bl w).length = w.size := len_toList w
    simp only [List.length_cons, List.length_append, hb] at h3 ⊢
    omega
/-- What was written is cut into its words. -/
theorem size_written {q : PQuery} (h : GoodQ q) : (⟨(joined (queryW q)).toArray⟩ : ByteArray).size ≤ 2000 := by
  have hz : (⟨(joined (queryW q)).toArray⟩ : ByteArray).size = (joined (queryW q)).length := by simp [ByteArray.size]
  rw [hz]
  exact joined_len (wl_query h)
theorem run_written {q : PQuery} (h : GoodQ q) : run ⟨(joined (queryW q)).toArray⟩ 0 = some (K (queryW q)) := by
  have hw := wl_query h
  have e1 : queryW q = ((queryW q).map fun w => (w, tokOf w)).map (·.1) := by rw [List.map_map]; exact (List.map_id _).symm
  have hr := run_joined (ps := (queryW q).map fun w => (w, tokOf w)) (by
    intro p hp
    obtain ⟨w, hw2, rfl⟩ := List.mem_map.1 hp
    exact (hw.1 w hw2).1)
  rw [← e1] at hr
  rw [hr]
  unfold K
  simp
/-- A query that was read, written and read again is the same. -/
theorem round_trip {ts : List Tok} (h : (parseP ts).2 = 0) : parseP (K (queryW (parseP ts).1)) = ((parseP ts).1, 0) ∧ GoodQ (parseP ts).1 := by
  obtain ⟨q, hq⟩ : ∃ q, (parseP ts).1 = q := ⟨_, rfl⟩
  have hgs : GoodQ q ∧ inScopeP q = true := by
    unfold parseP at h hq
    simp only at h hq
    split at h
    · cases h
    · rename_i hb
      rw [if_neg hb] at hq
      split at h
      · rename_i hs
        rw [if_pos hs] at hq
        subst hq
        refine ⟨query_good ?_, hs⟩
        simp only [Bool.or_eq_true, not_or] at hb
        simpa using hb.1
      · cases h
  rw [hq]
  refine ⟨?_, hgs.1⟩
  unfold parseP
  simp only [query_ok hgs.1, hgs.2]
  rfl

end Go.Proofs.YtobgbmfpicmpcaaGreatDoor.Pure

/- The library's contracts for strings.Clone's inner call, strconv.Atoi and strings.TrimPrefix, laid at this program's own numbers by the shelf's one command and its plain mode. -/
namespace Go.Proofs
open Go.Shelf
def Tryz.laysM316_ren : Go.Shelf.Ren := ⟨fun | 316 => 148 | n => n, fun | 9 => 9 | 3 => 3 | 4 => 4 | 37 => 168 | 0 => 0 | 127 => 247 | 5 => 5 | n => n, fun | n => n⟩
theorem Tryz.laysM316 : Go.Proofs.LaysM.n316 Tryz.prog Tryz.laysM316_ren := {
  mixed := by kernel_rfl
  f316 := Tryz.func148.trans (congrArg some (by kernel_rfl))
  t0 := Tryz.underlying0
  a0 := Tryz.isAgg0
  z0 := Tryz.sizeOf0
  v0 := Tryz.zeroValue0
  t3 := Tryz.underlying3
  a3 := Tryz.isAgg3
  z3 := Tryz.sizeOf3
  v3 := Tryz.zeroValue3
  t4 := Tryz.underlying4
  a4 := Tryz.isAgg4
  z4 := Tryz.sizeOf4
  v4 := Tryz.zeroValue4
  t9 := Tryz.underlying9
  a9 := Tryz.isAgg9
  z9 := Tryz.sizeOf9
  v9 := Tryz.zeroValue9
  t37 := Tryz.underlying168
  a37 := Tryz.isAgg168
  z37 := Tryz.sizeOf168
  v37 := Tryz.zeroValue168
  t127 := Tryz.underlying247
  a127 := Tryz.isAgg247
  z127 := Tryz.sizeOf247
  v127 := Tryz.zeroValue247
  t5 := Tryz.underlying5
  a5 := Tryz.isAgg5
  z5 := Tryz.sizeOf5
  v5 := Tryz.zeroValue5
  i0 := by kernel_rfl
  i3 := by kernel_rfl
  i4 := by kernel_rfl
  i5 := by kernel_rfl
  i9 := by kernel_rfl
  i37 := by kernel_rfl
  i127 := by kernel_rfl }
open Go.RowKit in
theorem Tryz.stringslite_Clone (s : ByteArray) (w : World) (hlim : s.size ≤ 281474976710656) :
    Calls Tryz.prog 148 #[.string s] w fun e w' => e = .returned (.string s) ∧ Below w.heap.size w w' := Any.stringslite_Clone Tryz.laysM316 s w hlim
def Tryz.laysC172_ren : Go.Shelf.Ren := ⟨fun | 172 => 274 | 244 => 319 | 245 => 320 | 247 => 346 | 279 => 347 | 280 => 348 | 281 => 349 | 282 => 350 | 287 => 360 | 316 => 148 | 171 => 36 | 205 => 361 | 321 => 384 | 322 => 385 | 243 => 77 | 246 => 149 | 283 => 206 | 284 => 207 | 285 => 208 | 286 => 209 | 129 => 253 | 317 => 269 | 318 => 270 | 319 => 271 | 320 => 272 | 337 => 316 | 338 => 317 | n => n, fun | 9 => 9 | 3 => 3 | 75 => 177 | 76 => 178 | 4 => 4 | 5 => 5 | 167 => 409 | 37 => 168 | 0 => 0 | 85 => 410 | 2 => 2 | 168 => 412 | 53 => 278 | 175 => 423 | 46 => 204 | 210 => 426 | 127 => 247 | 145 => 442 | 143 => 440 | 21 => 21 | 171 => 277 | 173 => 281 | 212 => 348 | 51 => 327 | 20 => 20 | 213 => 349 | 232 => 407 | 233 => 408 | 80 => 79 | n => n, fun | 15 => 4 | 16 => 5 | 17 => 0 | 18 => 2 | 19 => 3 | n => n⟩
theorem Tryz.laysC172 : Go.Proofs.LaysC.n172 Tryz.prog Tryz.laysC172_ren := {
  mixed := by kernel_rfl
  f129 := Tryz.func253.trans (congrArg some (by kernel_rfl))
  f171 := Tryz.func36.trans (congrArg some (by kernel_rfl))
  f172 := Tryz.func274.trans (congrArg some (by kernel_rfl))
  f205 := Tryz.func361.trans (congrArg some (by kernel_rfl))
  f243 := Tryz.func77.trans (congrArg some (by kernel_rfl))
  f244 := Tryz.func319.trans (congrArg some (by kernel_rfl))
  f245 := Tryz.func320.trans (congrArg some (by kernel_rfl))
  f246 := Tryz.func149.trans (congrArg some (by kernel_rfl))
  f247 := Tryz.func346.trans (congrArg some (by kernel_rfl))
  f279 := Tryz.func347.trans (congrArg some (by kernel_rfl))
  f280 := Tryz.func348.trans (congrArg some (by kernel_rfl))
  f281 := Tryz.func349.trans (congrArg some (by kernel_rfl))
  f282 := Tryz.func350.trans (congrArg some (by kernel_rfl))
  f283 := Tryz.func206.trans (congrArg some (by kernel_rfl))
  f284 := Tryz.func207.trans (congrArg some (by kernel_rfl))
  f285 := Tryz.func208.trans (congrArg some (by kernel_rfl))
  f286 := Tryz.func209.trans (congrArg some (by kernel_rfl))
  f287 := Tryz.func360.trans (congrArg some (by kernel_rfl))
  f316 := Tryz.func148.trans (congrArg some (by kernel_rfl))
  f317 := Tryz.func269.trans (congrArg some (by kernel_rfl))
  f318 := Tryz.func270.trans (congrArg some (by kernel_rfl))
  f319 := Tryz.func271.trans (congrArg some (by kernel_rfl))
  f320 := Tryz.func272.trans (congrArg some (by kernel_rfl))
  f321 := Tryz.func384.trans (congrArg some (by kernel_rfl))
  f322 := Tryz.func385.trans (congrArg some (by kernel_rfl))
  f337 := Tryz.func316.trans (congrArg some (by kernel_rfl))
  f338 := Tryz.func317.trans (congrArg some (by kernel_rfl))
  t0 := Tryz.underlying0
  a0 := Tryz.isAgg0
  z0 := Tryz.sizeOf0
  v0 := Tryz.zeroValue0
  t2 := Tryz.underlying2
  a2 := Tryz.isAgg2
  z2 := Tryz.sizeOf2
  v2 := Tryz.zeroValue2
  t3 := Tryz.underlying3
  a3 := Tryz.isAgg3
  z3 := Tryz.sizeOf3
  v3 := Tryz.zeroValue3
  t4 := Tryz.underlying4
  a4 := Tryz.isAgg4
  z4 := Tryz.sizeOf4
  v4 := Tryz.zeroValue4
  t5 := Tryz.underlying5
  a5 := Tryz.isAgg5
  z5 := Tryz.sizeOf5
  v5 := Tryz.zeroValue5
  t9 := Tryz.underlying9
  a9 := Tryz.isAgg9
  z9 := Tryz.sizeOf9
  v9 := Tryz.zeroValue9
  t20 := Tryz.underlying20
  a20 := Tryz.isAgg20
  z20 := Tryz.sizeOf20
  v20 := Tryz.zeroValue20
  t21 := Tryz.underlying21
  a21 := Tryz.isAgg21
  z21 := Tryz.sizeOf21
  v21 := Tryz.zeroValue21
  t37 := Tryz.underlying168
  a37 := Tryz.isAgg168
  z37 := Tryz.sizeOf168
  v37 := Tryz.zeroValue168
  t46 := Tryz.underlying204
  a46 := Tryz.isAgg204
  z46 := Tryz.sizeOf204
  v46 := Tryz.zeroValue204
  t51 := Tryz.underlying327
  a51 := Tryz.isAgg327
  z51 := Tryz.sizeOf327
  v51 := Tryz.zeroValue327
  t53 := Tryz.underlying278
  a53 := Tryz.isAgg278
  z53 := Tryz.sizeOf278
  v53 := Tryz.zeroValue278
  t75 := Tryz.underlying177
  a75 := Tryz.isAgg177
  z75 := Tryz.sizeOf177
  v75 := Tryz.zeroValue177
  t76 := Tryz.underlying178
  a76 := Tryz.isAgg178
  z76 := Tryz.sizeOf178
  v76 := Tryz.zeroValue178
  t85 := Tryz.underlying410
  a85 := Tryz.isAgg410
  z85 := Tryz.sizeOf410
  v85 := Tryz.zeroValue410
  t127 := Tryz.underlying247
  a127 := Tryz.isAgg247
  z127 := Tryz.sizeOf247
  v127 := Tryz.zeroValue247
  t143 := Tryz.underlying440
  a143 := Tryz.isAgg440
  z143 := Tryz.sizeOf440
  v143 := Tryz.zeroValue440
  t145 := Tryz.underlying442
  a145 := Tryz.isAgg442
  z145 := Tryz.sizeOf442
  v145 := Tryz.zeroValue442
  t167 := Tryz.underlying409
  a167 := Tryz.isAgg409
  z167 := Tryz.sizeOf409
  v167 := Tryz.zeroValue409
  t168 := Tryz.underlying412
  a168 := Tryz.isAgg412
  z168 := Tryz.sizeOf412
  v168 := Tryz.zeroValue412
  t171 := Tryz.underlying277
  a171 := Tryz.isAgg277
  z171 := Tryz.sizeOf277
  v171 := Tryz.zeroValue277
  t173 := Tryz.underlying281
  a173 := Tryz.isAgg281
  z173 := Tryz.sizeOf281
  v173 := Tryz.zeroValue281
  t175 := Tryz.underlying423
  a175 := Tryz.isAgg423
  z175 := Tryz.sizeOf423
  v175 := Tryz.zeroValue423
  t210 := Tryz.underlying426
  a210 := Tryz.isAgg426
  z210 := Tryz.sizeOf426
  v210 := Tryz.zeroValue426
  t212 := Tryz.underlying348
  a212 := Tryz.isAgg348
  z212 := Tryz.sizeOf348
  v212 := Tryz.zeroValue348
  t213 := Tryz.underlying349
  a213 := Tryz.isAgg349
  z213 := Tryz.sizeOf349
  t232 := Tryz.underlying407
  a232 := Tryz.isAgg407
  z232 := Tryz.sizeOf407
  v232 := Tryz.zeroValue407
  t233 := Tryz.underlying408
  a233 := Tryz.isAgg408
  z233 := Tryz.sizeOf408
  v233 := Tryz.zeroValue408
  g15 := by kernel_rfl
  g16 := by kernel_rfl
  g17 := by kernel_rfl
  g18 := by kernel_rfl
  g19 := by kernel_rfl
  t80 := Tryz.underlying79
  a80 := Tryz.isAgg79
  z80 := Tryz.sizeOf79
  v80 := Tryz.zeroValue79
  i0 := by kernel_rfl
  i2 := by kernel_rfl
  i3 := by kernel_rfl
  i4 := by kernel_rfl
  i5 := by kernel_rfl
  i9 := by kernel_rfl
  i20 := by kernel_rfl
  i21 := by kernel_rfl
  i37 := by kernel_rfl
  i46 := by kernel_rfl
  i51 := by kernel_rfl
  i53 := by kernel_rfl
  i75 := by kernel_rfl
  i76 := by kernel_rfl
  i80 := by kernel_rfl
  i85 := by kernel_rfl
  i127 := by kernel_rfl
  i143 := by kernel_rfl
  i145 := by kernel_rfl
  i167 := by kernel_rfl
  i168 := by kernel_rfl
  i171 := by kernel_rfl
  i173 := by kernel_rfl
  i175 := by kernel_rfl
  i210 := by kernel_rfl
  i212 := by kernel_rfl
  i232 := by kernel_rfl
  i233 := by kernel_rfl
  m15 := by kernel_rfl
  m16 := by kernel_rfl
  m17 := by kernel_rfl
  m18 := by kernel_rfl
  m19 := by kernel_rfl
  c0 := by kernel_rfl
  c2 := by kernel_rfl
  c3 := by kernel_rfl
  c4 := by kernel_rfl
  c5 := by kernel_rfl
  c9 := by kernel_rfl
  c20 := by kernel_rfl
  c21 := by kernel_rfl
  c37 := by kernel_rfl
  c46 := by kernel_rfl
  c51 := by kernel_rfl
  c53 := by kernel_rfl
  c75 := by kernel_rfl
  c76 := by kernel_rfl
  c80 := by kernel_rfl
  c85 := by kernel_rfl
  c127 := by kernel_rfl
  c143 := by kernel_rfl
  c145 := by kernel_rfl
  c167 := by kernel_rfl
  c168 := by kernel_rfl
  c171 := by kernel_rfl
  c173 := by kernel_rfl
  c175 := by kernel_rfl
  c210 := by kernel_rfl
  c212 := by kernel_rfl
  c213 := by kernel_rfl
  c232 := by kernel_rfl
  c233 := by kernel_rfl }
open Go.RowKit in
theorem Tryz.strconv_Atoi_ok (s : ByteArray) (hmax : s.size ≤ 9223372036854775806) (v : Int) (h : Lib.atoiAll s.data.toList = .ok v) (w : World) :
    Calls Tryz.prog 274 #[.string s] w fun e w' => e = .returned (.tuple #[.int .i64 v, .nilIface]) ∧ (w' = w ∨ ∃ t, w' = Lib.bytesWorld w 5 t) := Any.strconv_Atoi_ok Tryz.laysC172 s hmax v h w
open Go.RowKit in
theorem Tryz.strconv_Atoi_range (s : ByteArray) (hlim : s.size ≤ 281474976710656) (h : Lib.atoiAll s.data.toList = .range) (ev : Value) (w : World) (hv : w.cell? ⟨5, 0, none⟩ = some ev) (hev : ev = .nilIface ∨ ∃ te pe, ev = .iface te pe) :
    Calls Tryz.prog 274 #[.string s] w fun e w' => ∃ N, e = .returned (.tuple #[.int .i64 (Lib.atoiSat s.data.toList), .iface 412 (.pointer (some ⟨N, 0, none⟩))]) ∧ w.heap.size ≤ N ∧ w'.heap[N]? = some (.cells #[.string ⟨#[65, 116, 111, 105]⟩, .string s, ev] 426 (0, 0)) ∧ Below w.heap.size w w' := Any.strconv_Atoi_range Tryz.laysC172 s hlim h ev w hv hev
def Tryz.lays101_ren : Go.Shelf.Ren := ⟨fun | 101 => 273 | 208 => 318 | 206 => 326 | n => n, fun | 9 => 9 | 4 => 4 | 3 => 3 | n => n, fun | n => n⟩
theorem Tryz.lays101 : Go.Proofs.Lays.n101 Tryz.prog Tryz.lays101_ren := {
  mixed := by kernel_rfl
  f101 := Tryz.func273.trans (congrArg some (by kernel_rfl))
  f206 := Tryz.func326.trans (congrArg some (by kernel_rfl))
  f208 := Tryz.func318.trans (congrArg some (by kernel_rfl))
  t3 := Tryz.underlying3
  a3 := Tryz.isAgg3
  z3 := Tryz.sizeOf3
  v3 := Tryz.zeroValue3
  t4 := Tryz.underlying4
  a4 := Tryz.isAgg4
  z4 := Tryz.sizeOf4
  v4 := Tryz.zeroValue4
  t9 := Tryz.underlying9
  a9 := Tryz.isAgg9
  z9 := Tryz.sizeOf9
  v9 := Tryz.zeroValue9 }
open Go.RowKit Go.Lib in
theorem Tryz.strings_TrimPrefix (s p : ByteArray) (w : World) :
    Calls Tryz.prog 273 #[.string s, .string p] w fun e w' => e = .returned (.string ⟨(Lib.trimPrefix s.data.toList p.data.toList).toArray⟩) ∧ w' = w := Any.strings_TrimPrefix Tryz.lays101 s p w
end Go.Proofs

/- What the program's cutting machine holds between its steps, and the small facts that carry it. No walk in this text. -/
namespace Go.Proofs.YtobgbmfpicmpcaaGreatDoor
open Go.RowKit

/-- The block of a machine: the text, from, at, the list. -/
def Box (W : World) (b : Nat) (s : ByteArray) (f a : Int) (lv : Value) : Prop :=
  W.heap[b]? = some (.cells #[.string s, .int .i64 f, .int .i64 a, lv] 163 (0, 0))

/-- The machine in block b, begun in the world w0, has come to place a (the token in hand begins at f) and has gathered acc. -/
structure Inv (w0 : World) (b : Nat) (s : ByteArray) (f a : Int) (acc : List Tok) (W : World) : Prop where
  below : Below w0.heap.size w0 W
  bge : w0.heap.size ≤ b
  cut : ∃ lv, Box W b s f a lv ∧ W.ownsRow w0.heap.size 153 3 lv acc.length (tokCells acc)

theorem Box.lt {W : World} {b : Nat} {s : ByteArray} {f a : Int} {lv : Value} (h : Box W b s f a lv) : b < W.heap.size := lt_of_block h
theorem Box.cells {W : World} {b : Nat} {s : ByteArray} {f a : Int} {lv : Value} (h : Box W b s f a lv) :
    W.cell? ⟨b, 0, none⟩ = some (.string s) ∧ W.cell? ⟨b, 1, none⟩ = some (.int .i64 f) ∧ W.cell? ⟨b, 2, none⟩ = some (.int .i64 a) ∧ W.cell? ⟨b, 3, none⟩ = some lv := by
  unfold Box at h
  refine ⟨?_, ?_, ?_, ?_⟩ <;> simp [World.cell?, h]
theorem Box.free {W : World} {b : Nat} {s : ByteArray} {f a : Int} {lv : Value} (h : Box W b s f a lv) (j : Nat) : W.frozen? ⟨b, j, none⟩ = false := by
  unfold Box at h
  simp [World.frozen?, h]
theorem heap_setCell_at {w : World} {b j : Nat} {cs : Array Value} {t : TypeId} {u : Value} (h : w.heap[b]? = some (.cells cs t (0, 0))) : (w.setCell ⟨b, j, none⟩ u).heap[b]? = some (.cells (cs.setIfInBounds j u) t (0, 0)) := by
  simp [World.setCell, Array.getElem?_modify, h]
theorem Box.setAt {W : World} {b : Nat} {s : ByteArray} {f a : Int} {lv : Value} (h : Box W b s f a lv) (a' : Int) : Box (W.setCell ⟨b, 2, none⟩ (.int .i64 a')) b s f a' lv := heap_setCell_at h
theorem Box.setFrom {W : World} {b : Nat} {s : ByteArray} {f a : Int} {lv : Value} (h : Box W b s f a lv) (f' : Int) : Box (W.setCell ⟨b, 1, none⟩ (.int .i64 f')) b s f' a lv := heap_setCell_at h
theorem Box.setList {W : World} {b : Nat} {s : ByteArray} {f a : Int} {lv : Value} (h : Box W b s f a lv) (lv' : Value) : Box (W.setCell ⟨b, 3, none⟩ lv') b s f a lv' := heap_setCell_at h
theorem Box.drew {W : World} {b : Nat} {s : ByteArray} {f a : Int} {lv : Value} (h : Box W b s f a lv) (n : Nat) : Box (W.drewN n) b s f a lv := h
theorem Box.old {W W' : World} {b : Nat} {s : ByteArray} {f a : Int} {lv : Value} (h : Box W b s f a lv) (hb : Below W.heap.size W W') : Box W' b s f a lv := by
  unfold Box; rw [hb.block b h.lt]; exact h
/-- The machine's block is none of the list's. -/
theorem Box.ne {W : World} {b B : Nat} {s : ByteArray} {f a : Int} {lv v : Value} {n : Nat} {xs : List Value} (h : Box W b s f a lv) (ho : W.ownsRow B 153 3 v n xs) : v.ownBlock ≠ some b := by
  intro he
  rcases ho.2 with ⟨rfl, _⟩ | ⟨g, cap, cur, rfl, hb, hg, _⟩
  · simp [Value.ownBlock] at he
  · simp [Value.ownBlock] at he
    subst he
    unfold Box at h
    rw [hg] at h
    simp at h

theorem Inv.drew {w0 W : World} {b : Nat} {s : ByteArray} {f a : Int} {acc : List Tok} (h : Inv w0 b s f a acc W) (n : Nat) : Inv w0 b s f a acc (W.drewN n) :=
  ⟨below_drewN h.below n, h.bge, h.cut⟩
theorem Inv.old {w0 W W' : World} {b : Nat} {s : ByteArray} {f a : Int} {acc : List Tok} (h : Inv w0 b s f a acc W) (hb : Below W.heap.size W W') : Inv w0 b s f a acc W' := by
  obtain ⟨lv, hx, ho⟩ := h.cut
  exact ⟨h.below.trans (hb.mono h.below.size), h.bge, lv, hx.old hb, own_below ho hb⟩
theorem Inv.setAt {w0 W : World} {b : Nat} {s : ByteArray} {f a : Int} {acc : List Tok} (h : Inv w0 b s f a acc W) (a' : Int) : Inv w0 b s f a' acc (W.setCell ⟨b, 2, none⟩ (.int .i64 a')) := by
  obtain ⟨lv, hx, ho⟩ := h.cut
  exact ⟨h.below.setCell h.bge _, h.bge, lv, hx.setAt a', ownsRow_setCell_other ho (hx.ne ho) _⟩
theorem Inv.setFrom {w0 W : World} {b : Nat} {s : ByteArray} {f a : Int} {acc : List Tok} (h : Inv w0 b s f a acc W) (f' : Int) : Inv w0 b s f' a acc (W.setCell ⟨b, 1, none⟩ (.int .i64 f')) := by
  obtain ⟨lv, hx, ho⟩ := h.cut
  exact ⟨h.below.setCell h.bge _, h.bge, lv, hx.setFrom f', ownsRow_setCell_other ho (hx.ne ho) _⟩
/-- A new block, laid for a closure's variable. -/
theorem Inv.alloc {w0 W : World} {b : Nat} {s : ByteArray} {f a : Int} {acc : List Tok} (h : Inv w0 b s f a acc W) (o : Obj) : Inv w0 b s f a acc (W.alloc o) :=
  h.old ((Below.refl _ _).alloc (Nat.le_refl _) o)

end Go.Proofs.YtobgbmfpicmpcaaGreatDoor

/- The program's small steps over the text: 'goesOn' with each class of bytes, and 'takes': each answers whether the next byte is of the class, and goes one place on if so. -/
namespace Go.Proofs.YtobgbmfpicmpcaaGreatDoor
open Go.RowKit

set_option maxHeartbeats 400000 in
theorem takes1 (c d : Int) (p : Nat) (w : World) (hp : w.cell? ⟨p, 0, none⟩ = some (.int .u8 d)) : Calls Tryz.prog 212 #[.int .u8 c, .pointer (some ⟨p, 0, none⟩)] w fun e w' => e = .returned (.bool (c == d)) ∧ w' = w := by
  go_enter Tryz.func212, Tryz.ntmps212
  go_wp2
  go_ret
  exact ⟨rfl, rfl⟩

theorem lt_of_class {p : Int → Bool} {s : ByteArray} {a : Nat} (hp : p (bt s a) = true) (hno : p (-1) = false) : a < s.size := by
  by_cases h : a < s.size
  · exact h
  · rw [bt_out h, hno] at hp; cases hp
theorem letB_end : letB (-1) = false := letB_no (by omega)
theorem digB_end : digB (-1) = false := digB_no (by omega)

set_option maxRecDepth 100000 in
set_option maxHeartbeats 1000000 in
theorem goesLetterYes {w0 W : World} {b : Nat} {s : ByteArray} {f : Int} {a : Nat} {acc : List Tok} (hinv : Inv w0 b s f (a : Nat) acc W) (hs : s.size ≤ 2000) (hp : letB (bt s a) = true) :
    Calls Tryz.prog 211 #[.pointer (some ⟨b, 0, none⟩), .func (.func 204) #[] #[]] W fun e W' => e = .returned (.bool true) ∧ Inv w0 b s f ((a + 1 : Nat) : Int) acc W' := by
  have hlt : a < s.size := lt_of_class hp letB_end
  rw [← bt_in hlt] at hp
  have HI : Hid (Inv w0 b s f (a : Nat) acc W) := hinv
  obtain ⟨lv, hx, ho⟩ := hinv.cut
  obtain ⟨c0, c1, c2, c3⟩ := hx.cells
  have f2 := hx.free 2
  clear hinv hx ho c1 c3
  have hne : ((a : Int) == (s.size : Int)) = false := by simp; omega
  go_enter Tryz.func211, Tryz.ntmps211
  go_wp2
  go_quiet ((go_at_call 204; exact Calls.quiet_of_same (isLetter _ _)))
  go_wp2
  go_ret
  exact ⟨rfl, (HI.out.drew nq).setAt _⟩
set_option maxRecDepth 100000 in
set_option maxHeartbeats 1000000 in
theorem goesLetterNo {w0 W : World} {b : Nat} {s : ByteArray} {f : Int} {a : Nat} {acc : List Tok} (hinv : Inv w0 b s f (a : Nat) acc W) (ha : a ≤ s.size) (hp : letB (bt s a) = false) :
    Calls Tryz.prog 211 #[.pointer (some ⟨b, 0, none⟩), .func (.func 204) #[] #[]] W fun e W' => e = .returned (.bool false) ∧ Inv w0 b s f (a : Nat) acc W' := by
  have HI : Hid (Inv w0 b s f (a : Nat) acc W) := hinv
  obtain ⟨lv, hx, ho⟩ := hinv.cut
  obtain ⟨c0, c1, c2, c3⟩ := hx.cells
  clear hinv hx ho c1 c3
  by_cases hlt : a < s.size
  · rw [← bt_in hlt] at hp
    have hne : ((a : Int) == (s.size : Int)) = false := by simp; omega
    go_enter Tryz.func211, Tryz.ntmps211
    go_wp2
    go_quiet ((go_at_call 204; exact Calls.quiet_of_same (isLetter _ _)))
    go_wp2
    go_ret
    exact ⟨rfl, HI.out.drew nq⟩
  · clear hp
    have hne : ((a : Int) == (s.size : Int)) = true := by simp; omega
    go_enter Tryz.func211, Tryz.ntmps211
    go_wp2
    go_quiet ((go_at_call 204; exact Calls.quiet_of_same (isLetter _ _)))
    go_wp2
    go_ret
    exact ⟨rfl, HI.out.drew nq⟩
set_option maxRecDepth 100000 in
set_option maxHeartbeats 1000000 in
theorem goesDigitYes {w0 W : World} {b : Nat} {s : ByteArray} {f : Int} {a : Nat} {acc : List Tok} (hinv : Inv w0 b s f (a : Nat) acc W) (hs : s.size ≤ 2000) (hp : digB (bt s a) = true) :
    Calls Tryz.prog 211 #[.pointer (some ⟨b, 0, none⟩), .func (.func 205) #[] #[]] W fun e W' => e = .returned (.bool true) ∧ Inv w0 b s f ((a + 1 : Nat) : Int) acc W' := by
  have hlt : a < s.size := lt_of_class hp digB_end
  rw [← bt_in hlt] at hp
  have HI : Hid (Inv w0 b s f (a : Nat) acc W) := hinv
  obtain ⟨lv, hx, ho⟩ := hinv.cut
  obtain ⟨c0, c1, c2, c3⟩ := hx.cells
  have f2 := hx.free 2
  clear hinv hx ho c1 c3
  have hne : ((a : Int) == (s.size : Int)) = false := by simp; omega
  go_enter Tryz.func211, Tryz.ntmps211
  go_wp2
  go_quiet ((go_at_call 205; exact Calls.quiet_of_same (isDigit _ _)))
  go_wp2
  go_ret
  exact ⟨rfl, (HI.out.drew nq).setAt _⟩
set_option maxRecDepth 100000 in
set_option maxHeartbeats 1000000 in
theorem goesDigitNo {w0 W : World} {b : Nat} {s : ByteArray} {f : Int} {a : Nat} {acc : List Tok} (hinv : Inv w0 b s f (a : Nat) acc W) (ha : a ≤ s.size) (hp : digB (bt s a) = false) :
    Calls Tryz.prog 211 #[.pointer (some ⟨b, 0, none⟩), .func (.func 205) #[] #[]] W fun e W' => e = .returned (.bool false) ∧ Inv w0 b s f (a : Nat) acc W' := by
  have HI : Hid (Inv w0 b s f (a : Nat) acc W) := hinv
  obtain ⟨lv, hx, ho⟩ := hinv.cut
  obtain ⟨c0, c1, c2, c3⟩ := hx.cells
  clear hinv hx ho c1 c3
  by_cases hlt : a < s.size
  · rw [← bt_in hlt] at hp
    have hne : ((a : Int) == (s.size : Int)) = false := by simp; omega
    go_enter Tryz.func211, Tryz.ntmps211
    go_wp2
    go_quiet ((go_at_call 205; exact Calls.quiet_of_same (isDigit _ _)))
    go_wp2
    go_ret
    exact ⟨rfl, HI.out.drew nq⟩
  · clear hp
    have hne : ((a : Int) == (s.size : Int)) = true := by simp; omega
    go_enter Tryz.func211, Tryz.ntmps211
    go_wp2
    go_quiet ((go_at_call 205; exact Calls.quiet_of_same (isDigit _ _)))
    go_wp2
    go_ret
    exact ⟨rfl, HI.out.drew nq⟩
set_option maxRecDepth 100000 in
set_option maxHeartbeats 1000000 in
theorem goesByteYes {w0 W : World} {b : Nat} {s : ByteArray} {f : Int} {a : Nat} {acc : List Tok} {d : Int} {q : Nat} (hd : 0 ≤ d) (hq : W.cell? ⟨q, 0, none⟩ = some (.int .u8 d)) (hinv : Inv w0 b s f (a : Nat) acc W) (hs : s.size ≤ 2000) (hp : ((bt s a) == d) = true) :
    Calls Tryz.prog 211 #[.pointer (some ⟨b, 0, none⟩), .func (.func 212) #[] #[.pointer (some ⟨q, 0, none⟩)]] W fun e W' => e = .returned (.bool true) ∧ Inv w0 b s f ((a + 1 : Nat) : Int) acc W' := by
  have hlt : a < s.size := lt_of_class (p := fun x => x == d) hp (by simp; omega)
  rw [← bt_in hlt] at hp
  have HI : Hid (Inv w0 b s f (a : Nat) acc W) := hinv
  obtain ⟨lv, hx, ho⟩ := hinv.cut
  obtain ⟨c0, c1, c2, c3⟩ := hx.cells
  have f2 := hx.free 2
  clear hinv hx ho c1 c3
  have hne : ((a : Int) == (s.size : Int)) = false := by simp; omega
  go_enter Tryz.func211, Tryz.ntmps211
  go_wp2
  go_quiet ((go_at_call 212; exact Calls.quiet_of_same (takes1 _ _ _ _ hq)))
  go_wp2
  go_ret
  exact ⟨rfl, (HI.out.drew nq).setAt _⟩
set_option maxRecDepth 100000 in
set_option maxHeartbeats 1000000 in
theorem goesByteNo {w0 W : World} {b : Nat} {s : ByteArray} {f : Int} {a : Nat} {acc : List Tok} {d : Int} {q : Nat} (hq : W.cell? ⟨q, 0, none⟩ = some (.int .u8 d)) (hinv : Inv w0 b s f (a : Nat) acc W) (ha : a ≤ s.size) (hp : ((bt s a) == d) = false) :
    Calls Tryz.prog 211 #[.pointer (some ⟨b, 0, none⟩), .func (.func 212) #[] #[.pointer (some ⟨q, 0, none⟩)]] W fun e W' => e = .returned (.bool false) ∧ Inv w0 b s f (a : Nat) acc W' := by
  have HI : Hid (Inv w0 b s f (a : Nat) acc W) := hinv
  obtain ⟨lv, hx, ho⟩ := hinv.cut
  obtain ⟨c0, c1, c2, c3⟩ := hx.cells
  clear hinv hx ho c1 c3
  by_cases hlt : a < s.size
  · rw [← bt_in hlt] at hp
    have hne : ((a : Int) == (s.size : Int)) = false := by simp; omega
    go_enter Tryz.func211, Tryz.ntmps211
    go_wp2
    go_quiet ((go_at_call 212; exact Calls.quiet_of_same (takes1 _ _ _ _ hq)))
    go_wp2
    go_ret
    exact ⟨rfl, HI.out.drew nq⟩
  · clear hp
    have hne : ((a : Int) == (s.size : Int)) = true := by simp; omega
    go_enter Tryz.func211, Tryz.ntmps211
    go_wp2
    go_quiet ((go_at_call 212; exact Calls.quiet_of_same (takes1 _ _ _ _ hq)))
    go_wp2
    go_ret
    exact ⟨rfl, HI.out.drew nq⟩

set_option maxHeartbeats 400000 in
theorem takesYes {w0 W : World} {b : Nat} {s : ByteArray} {f : Int} {a : Nat} {acc : List Tok} {d : Int} (hd : 0 ≤ d) (hinv : Inv w0 b s f (a : Nat) acc W) (hs : s.size ≤ 2000) (hp : (bt s a == d) = true) :
    Calls Tryz.prog 153 #[.pointer (some ⟨b, 0, none⟩), .int .u8 d] W fun e W' => e = .returned (.bool true) ∧ Inv w0 b s f ((a + 1 : Nat) : Int) acc W' := by
  have HI : Hid (Inv w0 b s f (a : Nat) acc W) := hinv
  have HP : Hid ((bt s a == d) = true) := hp
  clear hinv hp
  go_enter Tryz.func153, Tryz.ntmps153
  go_wp2_with (go_at_call 211; refine (goesByteYes hd (by simp) (HI.out.alloc _) hs HP.out).mono ?_; rintro e W' ⟨rfl, h1⟩)
  go_ret
  exact ⟨rfl, h1⟩
set_option maxHeartbeats 400000 in
theorem takesNo {w0 W : World} {b : Nat} {s : ByteArray} {f : Int} {a : Nat} {acc : List Tok} {d : Int} (hinv : Inv w0 b s f (a : Nat) acc W) (ha : a ≤ s.size) (hp : (bt s a == d) = false) :
    Calls Tryz.prog 153 #[.pointer (some ⟨b, 0, none⟩), .int .u8 d] W fun e W' => e = .returned (.bool false) ∧ Inv w0 b s f (a : Nat) acc W' := by
  have HI : Hid (Inv w0 b s f (a : Nat) acc W) := hinv
  have HP : Hid ((bt s a == d) = false) := hp
  clear hinv hp
  go_enter Tryz.func153, Tryz.ntmps153
  go_wp2_with (go_at_call 211; refine (goesByteNo (by simp) (HI.out.alloc _) ha HP.out).mono ?_; rintro e W' ⟨rfl, h1⟩)
  go_ret
  exact ⟨rfl, h1⟩

end Go.Proofs.YtobgbmfpicmpcaaGreatDoor

