/- The program's 'cut' and 'Tokens': the whole text is cut as the plain specification says, into memory of its own. -/
import Derived.Test.YtobgbmfpicmpcaaDoorToken
import Derived.Deep.LoopGhost
namespace Go.Proofs.YtobgbmfpicmpcaaDoor
open Go.RowKit

theorem tokenYes {w0 W : World} {ev : Value} (hg : w0.cell? ⟨1, 0, none⟩ = some ev) (hev : ev = .nilIface ∨ ∃ te pe, ev = .iface te pe) {b : Nat} {s : ByteArray} {f : Int} {k en : Nat} {t : Tok} {acc : List Tok}
    (hinv : Inv w0 b s f (k : Nat) acc W) (hs : s.size ≤ 2000) (hk : k < s.size) (hal : acc.length ≤ 2000) (ho : one s k = some (en, t)) :
    Calls Tryd.prog 15 #[.pointer (some ⟨b, 0, none⟩)] W fun e W' => e = .returned (.bool true) ∧ Inv w0 b s (k : Nat) (en : Nat) (acc ++ [t]) W' := by
  refine (token hg hev hinv hs hk hal).mono ?_
  rintro e W' (⟨he, en', t', h1, h2⟩ | ⟨_, h1, _⟩)
  · rw [ho] at h1
    injection h1 with h1; injection h1 with h1 h3; subst h1; subst h3
    exact ⟨he, h2⟩
  · rw [ho] at h1; cases h1
theorem tokenNo {w0 W : World} {ev : Value} (hg : w0.cell? ⟨1, 0, none⟩ = some ev) (hev : ev = .nilIface ∨ ∃ te pe, ev = .iface te pe) {b : Nat} {s : ByteArray} {f : Int} {k : Nat} {acc : List Tok}
    (hinv : Inv w0 b s f (k : Nat) acc W) (hs : s.size ≤ 2000) (hk : k < s.size) (hal : acc.length ≤ 2000) (ho : one s k = none) :
    Calls Tryd.prog 15 #[.pointer (some ⟨b, 0, none⟩)] W fun e W' => e = .returned (.bool false) ∧ Below w0.heap.size w0 W' := by
  refine (token hg hev hinv hs hk hal).mono ?_
  rintro e W' (⟨he, en', t', h1, h2⟩ | ⟨he, _, h2⟩)
  · rw [ho] at h1; cases h1
  · exact ⟨he, h2⟩

/-- What 'cut' leaves. -/
def CutPost (w0 : World) (b : Nat) (s : ByteArray) (e : Ending) (W : World) : Prop :=
  (e = .returned (.bool true) ∧ ∃ ts f k, run s 0 = some ts ∧ Inv w0 b s f k ts W) ∨ (e = .returned (.bool false) ∧ run s 0 = none ∧ Below w0.heap.size w0 W)

set_option maxRecDepth 100000 in
set_option maxHeartbeats 2000000 in
theorem cut {w0 W : World} {ev : Value} (hg : w0.cell? ⟨1, 0, none⟩ = some ev) (hev : ev = .nilIface ∨ ∃ te pe, ev = .iface te pe) {b : Nat} {s : ByteArray} {f : Int} (hinv : Inv w0 b s f ((0 : Nat) : Int) [] W) (hs : s.size ≤ 2000) :
    Calls Tryd.prog 9 #[.pointer (some ⟨b, 0, none⟩)] W (CutPost w0 b s) := by
  have HG : Hid (w0.cell? ⟨1, 0, none⟩ = some ev) := hg
  have HEV : Hid (ev = .nilIface ∨ ∃ te pe, ev = .iface te pe) := hev
  have HI0 : Hid (Inv w0 b s f ((0 : Nat) : Int) [] W) := hinv
  clear hg hev hinv
  go_enter Tryd.func9, Tryd.ntmps9
  go_wp2
  go_loopg [2] s.size (fun g u wr => u = .bool false ∧ ∃ (k : Nat) (f : Int) (acc : List Tok), k ≤ s.size ∧ g = s.size - k ∧ Sofar s k acc ∧ acc.length ≤ k ∧ Inv w0 b s f (k : Nat) acc wr)
  case atStart => exact ⟨rfl, 0, f, [], by omega, by omega, sofar_start s, by simp, HI0.out⟩
  case round =>
    obtain ⟨rfl, k, f, acc, hk, rfl, hsf, hal, hI⟩ := hrel
    have HSF : Hid (Sofar s k acc) := hsf
    have HI : Hid (Inv w0 b s f (k : Nat) acc wr) := hI
    obtain ⟨lv, hx, ho⟩ := hI.cut
    obtain ⟨c0, c1, c2, c3⟩ := hx.cells
    clear hI hx ho c1 c3 hsf HI0
    by_cases hlt : k < s.size
    · go_wp2
      go_quiet (fail)
      cases hb : (bt s k == 32) with
      | true =>
        have HB : Hid ((bt s k == 32) = true) := hb
        clear hb
        go_wp2_with (go_at_call 14; refine (takesYes (by omega) (HI.out.drew nq) hs HB.out).mono ?_; rintro e1 W1 ⟨rfl, hI1⟩; have HI1 := Lib.hid hI1; clear hI1)
        go_roundg (s.size - (k + 1))
        case measure => omega
        case rel => exact ⟨rfl, k + 1, f, acc, by omega, rfl, HSF.out.blank hlt (eq_of_beq HB.out), by omega, HI1.out⟩
      | false =>
        have HB : Hid ((bt s k == 32) = false) := hb
        clear hb
        cases hone : one s k with
        | none =>
          have HO : Hid (one s k = none) := hone
          clear hone
          go_wp2_with (first | (go_at_call 14; refine (takesNo (HI.out.drew nq) hk HB.out).mono ?_; rintro e1 W1 ⟨rfl, hI1⟩; have HI1 := Lib.hid hI1; clear hI1) | (go_at_call 15; refine (tokenNo HG.out HEV.out HI1.out hs hlt (by omega) HO.out).mono ?_; rintro e2 W2 ⟨rfl, hI2⟩; have HI2 := Lib.hid hI2; clear hI2))
          go_ret
          exact Or.inr ⟨rfl, HSF.out.bad hlt (ne_of_beq_false HB.out) HO.out, HI2.out⟩
        | some p =>
          obtain ⟨en, t⟩ := p
          have HO : Hid (one s k = some (en, t)) := hone
          have hnx := one_next hone hlt
          clear hone
          go_wp2_with (first | (go_at_call 14; refine (takesNo (HI.out.drew nq) hk HB.out).mono ?_; rintro e1 W1 ⟨rfl, hI1⟩; have HI1 := Lib.hid hI1; clear hI1) | (go_at_call 15; refine (tokenYes HG.out HEV.out HI1.out hs hlt (by omega) HO.out).mono ?_; rintro e2 W2 ⟨rfl, hI2⟩; have HI2 := Lib.hid hI2; clear hI2))
          go_roundg (s.size - en)
          case measure => omega
          case rel => exact ⟨rfl, en, _, _, by omega, rfl, HSF.out.tok hlt (ne_of_beq_false HB.out) HO.out, by simp; omega, HI2.out⟩
    · go_wp2
      go_quiet (fail)
      go_wp2
      go_ret
      exact Or.inl ⟨rfl, acc, f, k, HSF.out.fin hlt, HI.out.drew nq⟩

theorem cutSome {w0 W : World} {ev : Value} (hg : w0.cell? ⟨1, 0, none⟩ = some ev) (hev : ev = .nilIface ∨ ∃ te pe, ev = .iface te pe) {b : Nat} {s : ByteArray} {f : Int} {ts : List Tok} (hinv : Inv w0 b s f ((0 : Nat) : Int) [] W) (hs : s.size ≤ 2000) (hr : run s 0 = some ts) :
    Calls Tryd.prog 9 #[.pointer (some ⟨b, 0, none⟩)] W fun e W' => e = .returned (.bool true) ∧ ∃ f k, Inv w0 b s f k ts W' := by
  refine (cut hg hev hinv hs).mono ?_
  rintro e W' (⟨he, ts', f, k, h1, h2⟩ | ⟨_, h1, _⟩)
  · rw [hr] at h1; injection h1 with h1; subst h1; exact ⟨he, f, k, h2⟩
  · rw [hr] at h1; cases h1
theorem cutNone {w0 W : World} {ev : Value} (hg : w0.cell? ⟨1, 0, none⟩ = some ev) (hev : ev = .nilIface ∨ ∃ te pe, ev = .iface te pe) {b : Nat} {s : ByteArray} {f : Int} (hinv : Inv w0 b s f ((0 : Nat) : Int) [] W) (hs : s.size ≤ 2000) (hr : run s 0 = none) :
    Calls Tryd.prog 9 #[.pointer (some ⟨b, 0, none⟩)] W fun e W' => e = .returned (.bool false) ∧ Below w0.heap.size w0 W' := by
  refine (cut hg hev hinv hs).mono ?_
  rintro e W' (⟨he, ts', f, k, h1, h2⟩ | ⟨he, _, h2⟩)
  · rw [hr] at h1; cases h1
  · exact ⟨he, h2⟩

theorem inv_new (w : World) (s : ByteArray) : Inv w w.heap.size s 0 ((0 : Nat) : Int) [] (w.alloc (.cells #[.string s, .int .i64 0, .int .i64 0, .slice none 0 0] 34)) :=
  ⟨(Below.refl _ _).alloc (Nat.le_refl _) _, Nat.le_refl _, .slice none 0 0, heap_alloc_new w _, World.ownsRow_nil _ _ _ _⟩

set_option maxRecDepth 100000 in
set_option maxHeartbeats 1000000 in
theorem tokens (s : ByteArray) (w : World) {ev : Value} (hg : w.cell? ⟨1, 0, none⟩ = some ev) (hev : ev = .nilIface ∨ ∃ te pe, ev = .iface te pe) (hm : s.size ≤ maxLen) :
    Calls Tryd.prog 4 #[.string s] w (TokPost s w) := by
  unfold maxLen at hm
  have HG : Hid (w.cell? ⟨1, 0, none⟩ = some ev) := hg
  have HEV : Hid (ev = .nilIface ∨ ∃ te pe, ev = .iface te pe) := hev
  clear hg hev
  by_cases hs : s.size ≤ 2000
  · cases hr : run s 0 with
    | none =>
      have HR : Hid (run s 0 = none) := hr
      clear hr
      go_enter Tryd.func4, Tryd.ntmps4
      go_wp2_with (go_at_call 9; refine (cutNone HG.out HEV.out (inv_new w s) hs HR.out).mono ?_; rintro e1 W1 ⟨rfl, hb1⟩)
      go_ret2
      exact ⟨hb1, Or.inl ⟨toks_none hs HR.out, rfl⟩⟩
    | some ts =>
      have HR : Hid (run s 0 = some ts) := hr
      clear hr
      go_enter Tryd.func4, Tryd.ntmps4
      go_wp2_with (go_at_call 9; refine (cutSome HG.out HEV.out (inv_new w s) hs HR.out).mono ?_; rintro e1 W1 ⟨rfl, f1, k1, hI1⟩; have HI1 := Lib.hid hI1; obtain ⟨lv, hx, ho⟩ := hI1.cut; have c3 := hx.cells.2.2.2; have HOW := Lib.hid ho; clear hI1 hx ho)
      go_ret2
      exact ⟨HI1.out.below, Or.inr ⟨ts, lv, toks_some hs HR.out, rfl, HOW.out⟩⟩
  · go_enter Tryd.func4, Tryd.ntmps4
    go_wp2
    go_ret2
    exact ⟨Below.refl _ _, Or.inl ⟨by unfold toks; rw [if_pos (by omega)], rfl⟩⟩

end Go.Proofs.YtobgbmfpicmpcaaDoor
