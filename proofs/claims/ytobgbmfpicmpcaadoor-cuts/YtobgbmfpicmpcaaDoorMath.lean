/- What tokens a text has, as a plain function: the specification to which both sides are held. No program in this text. -/
import Derived.Lib.AtoiAllCases
namespace Go.Proofs.YtobgbmfpicmpcaaDoor

def letB (c : Int) : Bool := decide ((97 ≤ c ∧ c ≤ 122) ∨ (65 ≤ c ∧ c ≤ 90))
def digB (c : Int) : Bool := decide (48 ≤ c ∧ c ≤ 57)
def alnB (c : Int) : Bool := letB c || digB c

theorem letB_yes {c : Int} (h : (97 ≤ c ∧ c ≤ 122) ∨ (65 ≤ c ∧ c ≤ 90)) : letB c = true := by unfold letB; simpa using h
theorem letB_no {c : Int} (h : ¬ ((97 ≤ c ∧ c ≤ 122) ∨ (65 ≤ c ∧ c ≤ 90))) : letB c = false := by unfold letB; exact decide_eq_false h
theorem digB_yes {c : Int} (h : 48 ≤ c ∧ c ≤ 57) : digB c = true := by unfold digB; simpa using h
theorem digB_no {c : Int} (h : ¬ (48 ≤ c ∧ c ≤ 57)) : digB c = false := by unfold digB; exact decide_eq_false h
theorem of_letB {c : Int} (h : letB c = true) : (97 ≤ c ∧ c ≤ 122) ∨ (65 ≤ c ∧ c ≤ 90) := by unfold letB at h; exact of_decide_eq_true h
theorem of_letB_no {c : Int} (h : letB c = false) : ¬ ((97 ≤ c ∧ c ≤ 122) ∨ (65 ≤ c ∧ c ≤ 90)) := by unfold letB at h; exact of_decide_eq_false h
theorem of_digB {c : Int} (h : digB c = true) : 48 ≤ c ∧ c ≤ 57 := by unfold digB at h; exact of_decide_eq_true h
theorem of_digB_no {c : Int} (h : digB c = false) : ¬ (48 ≤ c ∧ c ≤ 57) := by unfold digB at h; exact of_decide_eq_false h

/-- The byte at k, or -1 behind the end. -/
def bt (s : ByteArray) (k : Nat) : Int := if h : k < s.size then ((s[k]'h).toNat : Int) else -1
theorem bt_in {s : ByteArray} {k : Nat} (h : k < s.size) : ((s[k]'h).toNat : Int) = bt s k := by unfold bt; rw [dif_pos h]
theorem bt_out {s : ByteArray} {k : Nat} (h : ¬ k < s.size) : bt s k = -1 := by unfold bt; rw [dif_neg h]
theorem bt_range (s : ByteArray) (k : Nat) : -1 ≤ bt s k ∧ bt s k ≤ 255 := by
  unfold bt; split
  · rename_i h; have := (s[k]'h).toNat_lt; omega
  · omega
theorem bt_lt {s : ByteArray} {k : Nat} (h : 0 ≤ bt s k) : k < s.size := by
  by_cases hk : k < s.size
  · exact hk
  · rw [bt_out hk] at h; omega

/-- Where the bytes of a class end that begin at k (n: how many may follow). -/
def spanN (p : Int → Bool) (s : ByteArray) : Nat → Nat → Nat
  | 0, k => k
  | n + 1, k => if k < s.size ∧ p (bt s k) = true then spanN p s n (k + 1) else k
def span (p : Int → Bool) (s : ByteArray) (k : Nat) : Nat := spanN p s (s.size - k) k
theorem span_go {p : Int → Bool} {s : ByteArray} {k : Nat} (h : k < s.size) (hp : p (bt s k) = true) : span p s k = span p s (k + 1) := by
  unfold span
  rw [show s.size - k = (s.size - (k + 1)) + 1 by omega]
  simp only [spanN]
  rw [if_pos ⟨h, hp⟩]
theorem span_stop {p : Int → Bool} {s : ByteArray} {k : Nat} (h : k < s.size → p (bt s k) = false) : span p s k = k := by
  unfold span
  cases hn : s.size - k with
  | zero => simp only [spanN]
  | succ n =>
    simp only [spanN]
    rw [if_neg]
    rintro ⟨h1, h2⟩
    rw [h h1] at h2; cases h2
theorem span_bounds (p : Int → Bool) (s : ByteArray) : ∀ n k, s.size - k = n → k ≤ s.size → k ≤ span p s k ∧ span p s k ≤ s.size
  | 0, k, h, hk => by rw [span_stop (by omega)]; omega
  | n + 1, k, h, hk => by
    by_cases hp : p (bt s k) = true
    · rw [span_go (by omega) hp]; have := span_bounds p s n (k + 1) (by omega) (by omega); omega
    · rw [span_stop (fun _ => by simpa using hp)]; omega
theorem span_le {p : Int → Bool} {s : ByteArray} {k : Nat} (hk : k ≤ s.size) : k ≤ span p s k ∧ span p s k ≤ s.size := span_bounds p s _ k rfl hk
theorem span_all (p : Int → Bool) (s : ByteArray) : ∀ n k, s.size - k = n → k ≤ s.size → ∀ j, k ≤ j → j < span p s k → p (bt s j) = true
  | 0, k, h, hk, j, h1, h2 => by rw [span_stop (by omega)] at h2; omega
  | n + 1, k, h, hk, j, h1, h2 => by
    by_cases hp : p (bt s k) = true
    · by_cases e : j = k
      · rw [e]; exact hp
      · rw [span_go (by omega) hp] at h2; exact span_all p s n (k + 1) (by omega) (by omega) j (by omega) h2
    · rw [span_stop (fun _ => by simpa using hp)] at h2; omega

/-- The value of digits. -/
def dgt (c : UInt8) : Nat := c.toNat - 48
theorem dgt_eq (c : UInt8) : dgt c = c.toNat - 48 := by unfold dgt; exact Eq.refl _
def digs (acc : Nat) (l : List UInt8) : Nat := l.foldl (fun a c => 10 * a + dgt c) acc
theorem digs_nil (acc : Nat) : digs acc [] = acc := by unfold digs; rw [List.foldl_nil]
theorem digs_cons (acc : Nat) (c : UInt8) (r : List UInt8) : digs acc (c :: r) = digs (10 * acc + dgt c) r := by unfold digs; rw [List.foldl_cons]
theorem digs_append (l m : List UInt8) (acc : Nat) : digs acc (l ++ m) = digs (digs acc l) m := by unfold digs; rw [List.foldl_append]
theorem digs_le (l : List UInt8) : ∀ (acc : Nat), acc ≤ digs acc l := by
  induction l with
  | nil => intro acc; rw [digs_nil]; exact Nat.le_refl _
  | cons c r ih => intro acc; have := ih (10 * acc + dgt c); rw [digs_cons]; omega
theorem digs_snoc (l : List UInt8) (c : UInt8) (acc : Nat) : digs acc (l ++ [c]) = 10 * digs acc l + dgt c := by
  rw [digs_append, digs_cons, digs_nil]

/-- A number's value: none where it may not be. -/
def numL : List UInt8 → Option Int
  | [] => none
  | c :: r =>
    if c.toNat = 45 then
      (if r.head?.map UInt8.toNat = some 48 ∨ 1000000000 < digs 0 r then none else some (-(digs 0 r : Int)))
    else (if (c.toNat = 48 ∧ r ≠ []) ∨ 1000000000 < digs 0 (c :: r) then none else some (digs 0 (c :: r) : Int))

structure Tok where
  kind : Int
  text : ByteArray
  val : Int

def markLen (s : ByteArray) (k : Nat) : Nat :=
  let c := bt s k
  let d := bt s (k + 1)
  if c = 93 then (if d = 45 ∧ bt s (k + 2) = 62 then 3 else 0)
  else if c = 45 then (if d = 91 then 2 else 0)
  else if c = 46 then (if d = 46 then 2 else 1)
  else if c = 60 then (if d = 61 ∨ d = 62 then 2 else 1)
  else if c = 62 then (if d = 61 then 2 else 1)
  else if c = 40 ∨ c = 41 ∨ c = 58 ∨ c = 44 ∨ c = 61 ∨ c = 42 ∨ c = 123 ∨ c = 125 then 1
  else 0
theorem markLen_le {s : ByteArray} {k : Nat} (h : k < s.size) : k + markLen s k ≤ s.size := by
  have h1 : ∀ j, bt s j = 45 ∨ bt s j = 62 ∨ bt s j = 91 ∨ bt s j = 46 ∨ bt s j = 61 → j < s.size := fun j hj => bt_lt (by omega)
  have a := h1 (k + 1); have b := h1 (k + 2)
  unfold markLen
  simp only
  repeat' split
  all_goals omega

/-- The token that begins at k (no blank stands there): where it ends, and what it is. -/
def one (s : ByteArray) (k : Nat) : Option (Nat × Tok) :=
  if letB (bt s k) then
    (if 8 < span alnB s k - k then none else some (span alnB s k, ⟨1, s.extract k (span alnB s k), 0⟩))
  else if digB (bt s k) || (decide (bt s k = 45) && digB (bt s (k + 1))) then
    (match numL (s.extract k (span digB s (k + 1))).data.toList with
      | none => none
      | some v => some (span digB s (k + 1), ⟨2, s.extract k (span digB s (k + 1)), v⟩))
  else if markLen s k = 0 then none else some (k + markLen s k, ⟨3, s.extract k (k + markLen s k), 0⟩)

theorem one_next {s : ByteArray} {k e : Nat} {t : Tok} (h : one s k = some (e, t)) (hk : k < s.size) : k < e ∧ e ≤ s.size := by
  unfold one at h
  split at h
  · rename_i hl
    split at h
    · cases h
    · injection h with h; injection h with h1 h2; subst h1
      have : span alnB s k = span alnB s (k + 1) := span_go hk (by unfold alnB; rw [hl]; rfl)
      have := span_le (p := alnB) (s := s) (k := k + 1) hk
      omega
  · split at h
    · split at h
      · cases h
      · injection h with h; injection h with h1 h2; subst h1
        have := span_le (p := digB) (s := s) (k := k + 1) hk
        omega
    · split at h
      · cases h
      · injection h with h; injection h with h1 h2; subst h1
        have := markLen_le hk
        omega

/-- The tokens from place k on (n: how many bytes may follow). -/
def runN (s : ByteArray) : Nat → Nat → Option (List Tok)
  | 0, k => if k < s.size then none else some []
  | n + 1, k =>
    if k < s.size then
      (if bt s k = 32 then runN s n (k + 1)
      else match one s k with
        | none => none
        | some (e, t) => if k < e then (runN s n e).map (t :: ·) else none)
    else some []
def run (s : ByteArray) (k : Nat) : Option (List Tok) := runN s (s.size - k) k
theorem runN_fuel (s : ByteArray) : ∀ n m k, s.size - k ≤ n → s.size - k ≤ m → runN s n k = runN s m k := by
  intro n
  induction n with
  | zero =>
    intro m k h1 h2
    have hk : ¬ k < s.size := by omega
    cases m with
    | zero => rfl
    | succ m => simp only [runN]; rw [if_neg hk, if_neg hk]
  | succ n ih =>
    intro m k h1 h2
    cases m with
    | zero =>
      have hk : ¬ k < s.size := by omega
      simp only [runN]; rw [if_neg hk, if_neg hk]
    | succ m =>
      simp only [runN]
      by_cases hk : k < s.size
      · rw [if_pos hk, if_pos hk]
        by_cases hb : bt s k = 32
        · rw [if_pos hb, if_pos hb]; exact ih m (k + 1) (by omega) (by omega)
        · rw [if_neg hb, if_neg hb]
          cases one s k with
          | none => rfl
          | some p =>
            obtain ⟨e, t⟩ := p
            simp only
            by_cases he : k < e
            · rw [if_pos he, if_pos he, ih m e (by omega) (by omega)]
            · rw [if_neg he, if_neg he]
      · rw [if_neg hk, if_neg hk]

theorem run_end {s : ByteArray} {k : Nat} (h : ¬ k < s.size) : run s k = some [] := by
  unfold run
  rw [show s.size - k = 0 by omega]
  simp only [runN]
  rw [if_neg h]
theorem run_step {s : ByteArray} {k : Nat} (h : k < s.size) : run s k = if bt s k = 32 then run s (k + 1) else match one s k with
    | none => none
    | some (e, t) => if k < e then (run s e).map (t :: ·) else none := by
  unfold run
  rw [show s.size - k = (s.size - (k + 1)) + 1 by omega]
  simp only [runN]
  rw [if_pos h]
  by_cases hb : bt s k = 32
  · rw [if_pos hb, if_pos hb]
  · rw [if_neg hb, if_neg hb]
    cases one s k with
    | none => rfl
    | some p =>
      obtain ⟨e, t⟩ := p
      simp only
      by_cases he : k < e
      · rw [if_pos he, if_pos he, runN_fuel s _ (s.size - e) e (by omega) (by omega)]
      · rw [if_neg he, if_neg he]
theorem run_blank {s : ByteArray} {k : Nat} (h : k < s.size) (hb : bt s k = 32) : run s k = run s (k + 1) := by rw [run_step h, if_pos hb]
theorem run_bad {s : ByteArray} {k : Nat} (h : k < s.size) (hb : bt s k ≠ 32) (ho : one s k = none) : run s k = none := by
  rw [run_step h, if_neg hb, ho]
theorem run_tok {s : ByteArray} {k e : Nat} {t : Tok} (h : k < s.size) (hb : bt s k ≠ 32) (ho : one s k = some (e, t)) : run s k = (run s e).map (t :: ·) := by
  rw [run_step h, if_neg hb, ho]
  simp only
  rw [if_pos (one_next ho h).1]

/-- How far a cut has come: what is gathered, and what is still to come, are the whole. -/
def Sofar (s : ByteArray) (k : Nat) (acc : List Tok) : Prop := (run s k).map (acc ++ ·) = run s 0
theorem sofar_start (s : ByteArray) : Sofar s 0 [] := by unfold Sofar; cases run s 0 <;> simp
theorem Sofar.blank {s : ByteArray} {k : Nat} {acc : List Tok} (h : Sofar s k acc) (hk : k < s.size) (hb : bt s k = 32) : Sofar s (k + 1) acc := by
  unfold Sofar at *; rw [← run_blank hk hb]; exact h
theorem Sofar.tok {s : ByteArray} {k e : Nat} {t : Tok} {acc : List Tok} (h : Sofar s k acc) (hk : k < s.size) (hb : bt s k ≠ 32) (ho : one s k = some (e, t)) : Sofar s e (acc ++ [t]) := by
  unfold Sofar at *; rw [run_tok hk hb ho] at h; rw [← h]; cases run s e <;> simp
theorem Sofar.bad {s : ByteArray} {k : Nat} {acc : List Tok} (h : Sofar s k acc) (hk : k < s.size) (hb : bt s k ≠ 32) (ho : one s k = none) : run s 0 = none := by
  unfold Sofar at h; rw [run_bad hk hb ho] at h; rw [← h]; rfl
theorem Sofar.fin {s : ByteArray} {k : Nat} {acc : List Tok} (h : Sofar s k acc) (hk : ¬ k < s.size) : run s 0 = some acc := by
  unfold Sofar at h; rw [run_end hk] at h; rw [← h]; simp
/-- Every token takes a byte at least. -/
theorem run_length (s : ByteArray) : ∀ n k ts, s.size - k ≤ n → run s k = some ts → ts.length ≤ s.size - k := by
  intro n
  induction n with
  | zero =>
    intro k ts hn h
    rw [run_end (by omega)] at h; injection h with h; subst h; simp
  | succ n ih =>
    intro k ts hn h
    by_cases hk : k < s.size
    · by_cases hb : bt s k = 32
      · rw [run_blank hk hb] at h
        have := ih (k + 1) ts (by omega) h
        omega
      · cases ho : one s k with
        | none => rw [run_bad hk hb ho] at h; cases h
        | some p =>
          obtain ⟨e, t⟩ := p
          rw [run_tok hk hb ho] at h
          have := one_next ho hk
          cases hr : run s e with
          | none => rw [hr] at h; cases h
          | some us =>
            rw [hr] at h; simp at h; subst h
            have := ih e us (by omega) hr
            simp; omega
    · rw [run_end hk] at h; injection h with h; subst h; simp

end Go.Proofs.YtobgbmfpicmpcaaDoor
