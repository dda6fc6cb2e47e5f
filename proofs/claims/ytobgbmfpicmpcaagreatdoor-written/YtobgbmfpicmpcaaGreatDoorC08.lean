/- The program's writer: a match. -/
import Derived.Test.YtobgbmfpicmpcaaGreatDoorC07
namespace Go.Proofs.YtobgbmfpicmpcaaGreatDoor
open Go.RowKit

theorem between_ {W0 W : World} {b k : Nat} {ws : List ByteArray} {s : ByteArray} (h : WI W0 b ws W) (hl : ws.length ≤ 2900) :
    Calls Tryz.prog 168 #[.pointer (some ⟨b, 0, none⟩), .int .i64 (k : Int), .string s] W fun e W' => e = .returned (.tuple #[]) ∧ WI W0 b (ws ++ (if k = 0 then [] else [s])) W' ∧ FrW W W' := by
  by_cases hk : k = 0
  · rw [if_pos hk, List.append_nil]
    exact betweenNo h (by omega)
  · rw [if_neg hk]
    exact betweenYes h (by omega) hl
/-- A query that is only read, and whose numbers are numbers. -/
structure QSees (w : World) (q : PQuery) (vs vc vi vp : Value) : Prop where
  rs : Sees w 5 vs q.spots.length (spotCells q.spots)
  rc : Sees w 7 vc q.conds.length (condCells q.conds)
  rt : Sees w 2 vi q.items.length (itemCells q.items)
  rp : Sees w 2 vp q.pairs.length (pairCells q.pairs)
theorem QSees.below {w w' : World} {q : PQuery} {vs vc vi vp : Value} (h : QSees w q vs vc vi vp) (hb : Below w.heap.size w w') : QSees w' q vs vc vi vp := ⟨h.rs.below hb, h.rc.below hb, h.rt.below hb, h.rp.below hb⟩
theorem qsees_of {B : Nat} {w : World} {q : PQuery} {vs vc vi vp : Value} (h : QRows B q vs vc vi vp w) : QSees w q vs vc vi vp := by
  have flat : ∀ {α : Type} (f : α → List Value) (k : Nat) (_ : ∀ a, (f a).length = k) (l : List α), (l.flatMap f).length = l.length * k := by
    intro α f k hk l
    induction l with
    | nil => simp
    | cons a r ih => rw [List.flatMap_cons, List.length_append, hk, ih, List.length_cons, Nat.succ_mul]; omega
  exact ⟨sees_of_own h.rs (flat fSpot 5 (fun _ => rfl) _), sees_of_own h.rc (flat fCond 7 (fun _ => rfl) _), sees_of_own h.rt (flat fItem 2 (fun _ => rfl) _), sees_of_own h.rp (flat fPair 2 (fun _ => rfl) _)⟩
structure QFits (q : PQuery) : Prop where
  sp : ∀ s ∈ q.spots, I64 s.least ∧ I64 s.most
  co : ∀ c ∈ q.conds, I64 c.a.val ∧ I64 c.b.val
  pa : ∀ p ∈ q.pairs, I64 p.val
  va : I64 q.value.val
  od : I64 q.order
  sk : I64 q.skip
  li : I64 q.limit
theorem stepW_len (s : PSpot) : (stepW s).length ≤ 7 := by unfold stepW; split <;> simp
theorem nodeW_len (s : PSpot) : (nodeW s).length ≤ 5 := by unfold nodeW; split <;> simp
theorem spotW_len (b : Bool) (s : PSpot) : (spotW b s).length ≤ 12 := by
  unfold spotW
  rw [List.length_append]
  have := nodeW_len s
  have := stepW_len s
  split
  · split <;> simp <;> omega
  · omega
theorem termW_len (t : PTerm) : (termW t).length ≤ 3 := by unfold termW; split <;> simp
theorem opW_len (c : PCond) : (opW c).length ≤ 4 := by
  unfold opW
  have := termW_len c.b
  split
  · simp
  · split
    · simp
    · simp; omega
theorem condW_len (b : Bool) (c : PCond) : (condW b c).length ≤ 8 := by
  unfold condW
  have := termW_len c.a
  have := opW_len c
  simp; omega
theorem gatherW_len {α : Type} (f : Bool → α → List ByteArray) (n : Nat) (hf : ∀ b x, (f b x).length ≤ n) : ∀ (l : List α) (b : Bool), (gather f b l).length ≤ l.length * n
  | [], _ => by simp [gather]
  | x :: r, b => by
    rw [gather, List.length_append, List.length_cons, Nat.succ_mul]
    have := hf b x
    have := gatherW_len f n hf r false
    omega
theorem gather_next {α : Type} (f : Bool → α → List ByteArray) {l : List α} {k : Nat} (h : k < l.length) : gather f true (l.take (k + 1)) = gather f true (l.take k) ++ f (decide (k = 0)) l[k] := by
  rw [List.take_succ_eq_append_getElem h, gather_snoc]
  congr 2
  cases k with
  | zero => rfl
  | succ k =>
    cases l with
    | nil => simp at h
    | cons a r => simp

set_option maxRecDepth 100000 in
set_option maxHeartbeats 4000000 in
theorem wmatch {W0 W : World} {b : Nat} {ws : List ByteArray} {q : PQuery} {vs vc vi vp : Value} (h : WI W0 b ws W) (ht : Tab W0) (hq : QSees W0 q vs vc vi vp) (hf : QFits q) (n1 : q.spots.length ≤ 6) (n2 : q.conds.length ≤ 6) (hl : ws.length ≤ 1000) :
    Calls Tryz.prog 106 #[.pointer (some ⟨b, 0, none⟩), .agg (qC q vs vc vi vp)] W fun e W' => e = .returned (.tuple #[]) ∧ WI W0 b (ws ++ matchW q) W' ∧ FrW W W' := by
  obtain ⟨aos, cas, rfl, hcas⟩ := sees_slice (l := q.spots) hq.rs
  obtain ⟨aoc, cac, rfl, hcac⟩ := sees_slice (l := q.conds) hq.rc
  obtain ⟨aoi, cai, rfl, hcai⟩ := sees_slice (l := q.items) hq.rt
  obtain ⟨aop, cap, rfl, hcap⟩ := sees_slice (l := q.pairs) hq.rp
  have HQS := Lib.hid hq
  have HQF := Lib.hid hf
  clear hq hf hcai hcap
  have HI0 := Lib.hid (h.alloc (.cells (qC q (.slice aos q.spots.length cas) (.slice aoc q.conds.length cac) (.slice aoi q.items.length cai) (.slice aop q.pairs.length cap)) 29))
  have HX0 := Lib.hid (Loc.new W (qC q (.slice aos q.spots.length cas) (.slice aoc q.conds.length cac) (.slice aoi q.items.length cai) (.slice aop q.pairs.length cap)) 29)
  have F0 : Hid (FrW W (W.alloc (.cells (qC q (.slice aos q.spots.length cas) (.slice aoc q.conds.length cac) (.slice aoi q.items.length cai) (.slice aop q.pairs.length cap)) 29))) := (FrW.refl W).alloc _
  clear h
  go_enter Tryz.func106, Tryz.ntmps106
  go_upto_region 1 with fail
  obtain ⟨X, hX⟩ : ∃ X, X = W.heap.size := ⟨_, rfl⟩
  rw [← hX] at HX0 ⊢
  clear hX
  generalize W.alloc (.cells (qC q (.slice aos q.spots.length cas) (.slice aoc q.conds.length cac) (.slice aoi q.items.length cai) (.slice aop q.pairs.length cap)) 29) = W0_ at HI0 HX0 F0 ⊢
  have HA := Lib.hid (HI0.out.alloc (.cells #[.string ⟨#[77, 65, 84, 67, 72]⟩] 9))
  have HG := Lib.hid (Loc.new W0_ #[.string ⟨#[77, 65, 84, 67, 72]⟩] 9)
  go_wp2_with fail
  refine (add_ (m := 1) (new := [⟨#[77, 65, 84, 67, 72]⟩]) HA.out HG.out rfl rfl (by omega) (by simp; omega)).mono ?_
  rintro e W1_ ⟨rfl, h1, f1⟩
  have HI1 := Lib.hid h1
  have HX1 := Lib.hid (f1 X _ _ (HX0.out.alloc _) (by decide) (by decide))
  have F1 := Lib.hid ((F0.out.alloc _).trans f1)
  clear h1 f1 HI0 HX0 F0 HA HG
  have cs : W1_.cell? ⟨X, 1, none⟩ = some (.slice aos q.spots.length cas) := (HX1.out.cell 1).trans rfl
  go_upto_block 0 with fail
  clear cs
  go_cut [] (fun w => WI W0 b (ws ++ [kMATCH] ++ gather spotW true q.spots) w ∧ Loc w X (qC q (.slice aos q.spots.length cas) (.slice aoc q.conds.length cac) (.slice aoi q.items.length cai) (.slice aop q.pairs.length cap)) 29 ∧ FrW W w)
  case first =>
    go_wp2_with fail
    go_loopg [14] q.spots.length (fun m iv w => ∃ k : Nat, iv = .int .i64 (k : Int) ∧ k + m = q.spots.length ∧ WI W0 b (ws ++ [kMATCH] ++ gather spotW true (q.spots.take k)) w ∧ Loc w X (qC q (.slice aos q.spots.length cas) (.slice aoc q.conds.length cac) (.slice aoi q.items.length cai) (.slice aop q.pairs.length cap)) 29 ∧ FrW W w)
    case atStart => exact ⟨0, rfl, by omega, by rw [List.take_zero]; simp only [gather, List.append_nil]; exact HI1.out, HX1.out, F1.out⟩
    case round =>
      obtain ⟨k, rfl, hk, hi, hx, hfr⟩ := hrel
      have HI := Lib.hid hi
      have HX := Lib.hid hx
      have HF := Lib.hid hfr
      clear hi hx hfr HI1 HX1 F1
      by_cases hlt : k < q.spots.length
      · obtain ⟨g, o, rfl, hcell⟩ := sees_at (l := q.spots) fSpot (fun _ => rfl) ((HQS.out.rs).below HI.out.low) hlt
        obtain ⟨y, hy⟩ : ∃ y, q.spots[k] = y := ⟨_, rfl⟩
        have hmem : y ∈ q.spots := by rw [← hy]; exact List.getElem_mem hlt
        rw [hy] at hcell
        have p0 : wr.cell? ⟨g, o + k * 5, none⟩ = some (.string y.name) := hcell 0 (by decide)
        have p1 : wr.cell? ⟨g, o + k * 5 + 1, none⟩ = some (.string y.label) := hcell 1 (by decide)
        have p2 : wr.cell? ⟨g, o + k * 5 + 2, none⟩ = some (.string y.type) := hcell 2 (by decide)
        have p3 : wr.cell? ⟨g, o + k * 5 + 3, none⟩ = some (.int .i64 y.least) := hcell 3 (by decide)
        have p4 : wr.cell? ⟨g, o + k * 5 + 4, none⟩ = some (.int .i64 y.most) := hcell 4 (by decide)
        have hki : (k : Int) < (q.spots.length : Int) := by omega
        have HNX : Hid ((ws ++ [kMATCH] ++ gather spotW true (q.spots.take (k + 1))) = (ws ++ [kMATCH] ++ gather spotW true (q.spots.take k)) ++ spotW (decide (k = 0)) y) := by show _ = _; rw [gather_next spotW hlt, hy]; simp only [List.append_assoc]
        have hlen : (ws ++ [kMATCH] ++ gather spotW true (q.spots.take k)).length ≤ 1100 := by
          have := gatherW_len spotW 12 spotW_len (q.spots.take k) true
          rw [List.length_take_of_le (by omega)] at this
          simp only [List.length_append, List.length_singleton]
          omega
        obtain ⟨us, hus⟩ : ∃ us, (ws ++ [kMATCH] ++ gather spotW true (q.spots.take k)) = us := ⟨_, rfl⟩
        rw [hus] at HI HNX hlen
        have HZ0 := Lib.hid (Loc.new wr #[.string y.name, .string y.label, .string y.type, .int .i64 y.least, .int .i64 y.most] 85)
        have HI0 := Lib.hid (HI.out.alloc (.cells #[.string y.name, .string y.label, .string y.type, .int .i64 y.least, .int .i64 y.most] 85))
        have HX0 := Lib.hid (HX.out.alloc (.cells #[.string y.name, .string y.label, .string y.type, .int .i64 y.least, .int .i64 y.most] 85))
        have F0 := Lib.hid (HF.out.alloc (.cells #[.string y.name, .string y.label, .string y.type, .int .i64 y.least, .int .i64 y.most] 85))
        clear hus hcell hy HI HX HF
        go_upto_region 5 with fail
        obtain ⟨Z, hZ⟩ : ∃ Z, Z = wr.heap.size := ⟨_, rfl⟩
        rw [← hZ] at HZ0 ⊢
        clear hZ
        generalize wr.alloc (.cells #[.string y.name, .string y.label, .string y.type, .int .i64 y.least, .int .i64 y.most] 85) = V0 at HZ0 HI0 HX0 F0 ⊢
        clear p0 p1 p2 p3 p4
        obtain ⟨f0, f1⟩ := HQF.out.sp y hmem
        have HF0 := Lib.hid f0
        have HF1 := Lib.hid f1
        clear hmem f0 f1
        cases hty : y.type.toList.isEmpty with
        | true =>
          have HEQ : Hid (us ++ spotW (decide (k = 0)) y = us ++ (if k = 0 then [] else [mComma]) ++ nodeW y) := by show _ = _; unfold spotW; rw [if_pos hty]; simp
          have z2 : V0.cell? ⟨Z, 2, none⟩ = some (.string y.type) := (HZ0.out.cell 2).trans rfl
          go_wp2_with fail
          refine (between_ (k := k) (s := ⟨#[44]⟩) HI0.out (by omega)).mono ?_
          rintro e V1 ⟨rfl, h1, f1⟩
          have HI1 := Lib.hid h1
          have HZ1 := Lib.hid (f1 Z _ _ HZ0.out (by decide) (by decide))
          have HX1 := Lib.hid (f1 X _ _ HX0.out (by decide) (by decide))
          have F1 := Lib.hid (F0.out.trans f1)
          clear z2
          clear h1 f1 HI0 HX0 HZ0 F0
          have hlen2 : (us ++ (if k = 0 then [] else [mComma])).length ≤ 1101 := by rw [List.length_append]; split <;> simp <;> omega
          obtain ⟨us2, hus2⟩ : ∃ us2, us ++ (if k = 0 then [] else [mComma]) = us2 := ⟨_, rfl⟩
          have HI1b : Hid (WI W0 b us2 V1) := by show WI _ _ _ _; rw [← hus2]; exact HI1.out
          rw [hus2] at HEQ hlen2
          clear hus2 HI1
          have HI1 := HI1b
          have z0 : V1.cell? ⟨Z, 0, none⟩ = some (.string y.name) := (HZ1.out.cell 0).trans rfl
          have z1 : V1.cell? ⟨Z, 1, none⟩ = some (.string y.label) := (HZ1.out.cell 1).trans rfl
          have z2 : V1.cell? ⟨Z, 2, none⟩ = some (.string y.type) := (HZ1.out.cell 2).trans rfl
          have z3 : V1.cell? ⟨Z, 3, none⟩ = some (.int .i64 y.least) := (HZ1.out.cell 3).trans rfl
          have z4 : V1.cell? ⟨Z, 4, none⟩ = some (.int .i64 y.most) := (HZ1.out.cell 4).trans rfl
          go_wp2_with fail
          refine (wspot (s := y) HI1.out (by omega)).mono ?_
          rintro e V2 ⟨rfl, h1, f1⟩
          have HI2 := Lib.hid h1
          have HZ2 := Lib.hid (f1 Z _ _ HZ1.out (by decide) (by decide))
          have HX2 := Lib.hid (f1 X _ _ HX1.out (by decide) (by decide))
          have F2 := Lib.hid (F1.out.trans f1)
          clear z0 z1 z2 z3 z4
          clear h1 f1 HI1 HX1 HZ1 F1
          clear HI1b
          go_wp2_with fail
          go_roundg (gk - 1)
          case measure => omega
          case rel => exact ⟨k + 1, by simp, by omega, by rw [HNX.out]; rw [HEQ.out]; exact HI2.out, HX2.out, F2.out⟩
        | false =>
          have HEQ : Hid (us ++ spotW (decide (k = 0)) y = us ++ stepW y ++ nodeW y) := by show _ = _; unfold spotW; rw [hty]; simp
          have hsl := stepW_len y
          have z0 : V0.cell? ⟨Z, 0, none⟩ = some (.string y.name) := (HZ0.out.cell 0).trans rfl
          have z1 : V0.cell? ⟨Z, 1, none⟩ = some (.string y.label) := (HZ0.out.cell 1).trans rfl
          have z2 : V0.cell? ⟨Z, 2, none⟩ = some (.string y.type) := (HZ0.out.cell 2).trans rfl
          have z3 : V0.cell? ⟨Z, 3, none⟩ = some (.int .i64 y.least) := (HZ0.out.cell 3).trans rfl
          have z4 : V0.cell? ⟨Z, 4, none⟩ = some (.int .i64 y.most) := (HZ0.out.cell 4).trans rfl
          go_wp2_with fail
          refine (wstep (s := y) HI0.out ht HF0.out HF1.out (by omega)).mono ?_
          rintro e V1 ⟨rfl, h1, f1⟩
          have HI1 := Lib.hid h1
          have HZ1 := Lib.hid (f1 Z _ _ HZ0.out (by decide) (by decide))
          have HX1 := Lib.hid (f1 X _ _ HX0.out (by decide) (by decide))
          have F1 := Lib.hid (F0.out.trans f1)
          clear z0 z1 z2 z3 z4
          clear h1 f1 HI0 HX0 HZ0 F0
          have z0 : V1.cell? ⟨Z, 0, none⟩ = some (.string y.name) := (HZ1.out.cell 0).trans rfl
          have z1 : V1.cell? ⟨Z, 1, none⟩ = some (.string y.label) := (HZ1.out.cell 1).trans rfl
          have z2 : V1.cell? ⟨Z, 2, none⟩ = some (.string y.type) := (HZ1.out.cell 2).trans rfl
          have z3 : V1.cell? ⟨Z, 3, none⟩ = some (.int .i64 y.least) := (HZ1.out.cell 3).trans rfl
          have z4 : V1.cell? ⟨Z, 4, none⟩ = some (.int .i64 y.most) := (HZ1.out.cell 4).trans rfl
          go_wp2_with fail
          refine (wspot (s := y) HI1.out (by simp; omega)).mono ?_
          rintro e V2 ⟨rfl, h1, f1⟩
          have HI2 := Lib.hid h1
          have HZ2 := Lib.hid (f1 Z _ _ HZ1.out (by decide) (by decide))
          have HX2 := Lib.hid (f1 X _ _ HX1.out (by decide) (by decide))
          have F2 := Lib.hid (F1.out.trans f1)
          clear z0 z1 z2 z3 z4
          clear h1 f1 HI1 HX1 HZ1 F1
          go_wp2_with fail
          go_roundg (gk - 1)
          case measure => omega
          case rel => exact ⟨k + 1, by simp, by omega, by rw [HNX.out]; rw [HEQ.out]; exact HI2.out, HX2.out, F2.out⟩
      · have hki : ¬ (k : Int) < (q.spots.length : Int) := by omega
        have hk2 : k = q.spots.length := by omega
        have HK := Lib.hid hk2
        clear hk2
        go_wp2_with fail
        go_meet
        case rel => exact ⟨by have h := HI.out; rw [HK.out, List.take_length] at h; exact h, HX.out, HF.out⟩
  case rest =>
    obtain ⟨hi, hx, hfr⟩ := hcut
    have hlen0 : (ws ++ [kMATCH] ++ gather spotW true q.spots).length ≤ 1100 := by
      have := gatherW_len spotW 12 spotW_len q.spots true
      simp only [List.length_append, List.length_singleton]
      omega
    have HEM : Hid (ws ++ matchW q = ws ++ [kMATCH] ++ gather spotW true q.spots ++ gather condW true q.conds) := by show _ = _; unfold matchW; simp
    obtain ⟨ws1, hws1⟩ : ∃ ws1, ws ++ [kMATCH] ++ gather spotW true q.spots = ws1 := ⟨_, rfl⟩
    rw [hws1] at hi hlen0 HEM
    have HI9 := Lib.hid hi
    have HX9 := Lib.hid hx
    have F9 := Lib.hid hfr
    clear hi hx hfr hws1 HI1 HX1 F1
    have cs : wc.cell? ⟨X, 2, none⟩ = some (.slice aoc q.conds.length cac) := (HX9.out.cell 2).trans rfl
    go_wp2_with fail
    clear cs
    go_loopg [35] q.conds.length (fun m iv w => ∃ k : Nat, iv = .int .i64 (k : Int) ∧ k + m = q.conds.length ∧ WI W0 b (ws1 ++ gather condW true (q.conds.take k)) w ∧ Loc w X (qC q (.slice aos q.spots.length cas) (.slice aoc q.conds.length cac) (.slice aoi q.items.length cai) (.slice aop q.pairs.length cap)) 29 ∧ FrW W w)
    case atStart => exact ⟨0, rfl, by omega, by rw [List.take_zero]; simp only [gather, List.append_nil]; exact HI9.out, HX9.out, F9.out⟩
    case round =>
      obtain ⟨k, rfl, hk, hi, hx, hfr⟩ := hrel
      have HI := Lib.hid hi
      have HX := Lib.hid hx
      have HF := Lib.hid hfr
      clear hi hx hfr HI9 HX9 F9
      by_cases hlt : k < q.conds.length
      · obtain ⟨g, o, rfl, hcell⟩ := sees_at (l := q.conds) fCond (fun _ => rfl) ((HQS.out.rc).below HI.out.low) hlt
        obtain ⟨y, hy⟩ : ∃ y, q.conds[k] = y := ⟨_, rfl⟩
        have hmem : y ∈ q.conds := by rw [← hy]; exact List.getElem_mem hlt
        rw [hy] at hcell
        have p0 : wr.cell? ⟨g, o + k * 7, none⟩ = some (.int .i64 y.op) := hcell 0 (by decide)
        have p1 : wr.cell? ⟨g, o + k * 7 + 1, none⟩ = some (.string y.a.name) := hcell 1 (by decide)
        have p2 : wr.cell? ⟨g, o + k * 7 + 2, none⟩ = some (.string y.a.key) := hcell 2 (by decide)
        have p3 : wr.cell? ⟨g, o + k * 7 + 3, none⟩ = some (.int .i64 y.a.val) := hcell 3 (by decide)
        have p4 : wr.cell? ⟨g, o + k * 7 + 4, none⟩ = some (.string y.b.name) := hcell 4 (by decide)
        have p5 : wr.cell? ⟨g, o + k * 7 + 5, none⟩ = some (.string y.b.key) := hcell 5 (by decide)
        have p6 : wr.cell? ⟨g, o + k * 7 + 6, none⟩ = some (.int .i64 y.b.val) := hcell 6 (by decide)
        have hki : (k : Int) < (q.conds.length : Int) := by omega
        have HNX : Hid ((ws1 ++ gather condW true (q.conds.take (k + 1))) = (ws1 ++ gather condW true (q.conds.take k)) ++ condW (decide (k = 0)) y) := by show _ = _; rw [gather_next condW hlt, hy]; simp only [List.append_assoc]
        have hlen : (ws1 ++ gather condW true (q.conds.take k)).length ≤ 1200 := by
          have := gatherW_len condW 8 condW_len (q.conds.take k) true
          rw [List.length_take_of_le (by omega)] at this
          simp only [List.length_append]
          omega
        obtain ⟨us, hus⟩ : ∃ us, (ws1 ++ gather condW true (q.conds.take k)) = us := ⟨_, rfl⟩
        rw [hus] at HI HNX hlen
        have HZ0 := Lib.hid (Loc.new wr #[.int .i64 y.op, .string y.a.name, .string y.a.key, .int .i64 y.a.val, .string y.b.name, .string y.b.key, .int .i64 y.b.val] 87)
        have HI0 := Lib.hid (HI.out.alloc (.cells #[.int .i64 y.op, .string y.a.name, .string y.a.key, .int .i64 y.a.val, .string y.b.name, .string y.b.key, .int .i64 y.b.val] 87))
        have HX0 := Lib.hid (HX.out.alloc (.cells #[.int .i64 y.op, .string y.a.name, .string y.a.key, .int .i64 y.a.val, .string y.b.name, .string y.b.key, .int .i64 y.b.val] 87))
        have F0 := Lib.hid (HF.out.alloc (.cells #[.int .i64 y.op, .string y.a.name, .string y.a.key, .int .i64 y.a.val, .string y.b.name, .string y.b.key, .int .i64 y.b.val] 87))
        clear hus hcell hy HI HX HF
        go_upto_region 13 with fail
        obtain ⟨Z, hZ⟩ : ∃ Z, Z = wr.heap.size := ⟨_, rfl⟩
        rw [← hZ] at HZ0 ⊢
        clear hZ
        generalize wr.alloc (.cells #[.int .i64 y.op, .string y.a.name, .string y.a.key, .int .i64 y.a.val, .string y.b.name, .string y.b.key, .int .i64 y.b.val] 87) = V0 at HZ0 HI0 HX0 F0 ⊢
        clear p0 p1 p2 p3 p4 p5 p6
        obtain ⟨f0, f1⟩ := HQF.out.co y hmem
        have HF0 := Lib.hid f0
        have HF1 := Lib.hid f1
        clear hmem f0 f1
        by_cases hk0 : k = 0
        · have HEQ : Hid (us ++ condW (decide (k = 0)) y = us ++ [kWHERE] ++ (termW y.a ++ opW y)) := by show _ = _; unfold condW; rw [hk0]; simp
          have hkb : ((k : Int) == 0) = true := by rw [hk0]; rfl
          have hkz : ¬ 0 < (k : Int) := by omega
          have HK0 := Lib.hid hk0
          clear hk0
          have HA := Lib.hid (HI0.out.alloc (.cells #[.string ⟨#[87, 72, 69, 82, 69]⟩] 9))
          have HG := Lib.hid (Loc.new V0 #[.string ⟨#[87, 72, 69, 82, 69]⟩] 9)
          go_wp2_with fail
          refine (add_ (m := 1) (new := [⟨#[87, 72, 69, 82, 69]⟩]) HA.out HG.out rfl rfl (by omega) (by simp; omega)).mono ?_
          rintro e V1 ⟨rfl, h1, f1⟩
          have HI1 := Lib.hid h1
          have HZ1 := Lib.hid (f1 Z _ _ (HZ0.out.alloc _) (by decide) (by decide))
          have HX1 := Lib.hid (f1 X _ _ (HX0.out.alloc _) (by decide) (by decide))
          have F1 := Lib.hid ((F0.out.alloc _).trans f1)
          clear h1 f1 HI0 HX0 HZ0 F0 HA HG
          go_wp2_with fail
          refine (betweenNo (s := ⟨#[65, 78, 68]⟩) HI1.out (by omega)).mono ?_
          rintro e V2 ⟨rfl, h1, f1⟩
          have HI2 := Lib.hid h1
          have HZ2 := Lib.hid (f1 Z _ _ HZ1.out (by decide) (by decide))
          have HX2 := Lib.hid (f1 X _ _ HX1.out (by decide) (by decide))
          have F2 := Lib.hid (F1.out.trans f1)
          clear h1 f1 HI1 HX1 HZ1 F1
          have z0 : V2.cell? ⟨Z, 0, none⟩ = some (.int .i64 y.op) := (HZ2.out.cell 0).trans rfl
          have z1 : V2.cell? ⟨Z, 1, none⟩ = some (.string y.a.name) := (HZ2.out.cell 1).trans rfl
          have z2 : V2.cell? ⟨Z, 2, none⟩ = some (.string y.a.key) := (HZ2.out.cell 2).trans rfl
          have z3 : V2.cell? ⟨Z, 3, none⟩ = some (.int .i64 y.a.val) := (HZ2.out.cell 3).trans rfl
          have z4 : V2.cell? ⟨Z, 4, none⟩ = some (.string y.b.name) := (HZ2.out.cell 4).trans rfl
          have z5 : V2.cell? ⟨Z, 5, none⟩ = some (.string y.b.key) := (HZ2.out.cell 5).trans rfl
          have z6 : V2.cell? ⟨Z, 6, none⟩ = some (.int .i64 y.b.val) := (HZ2.out.cell 6).trans rfl
          go_wp2_with fail
          refine (wcond (c := y) HI2.out ht HF0.out HF1.out (by simp; omega)).mono ?_
          rintro e V3 ⟨rfl, h1, f1⟩
          have HI3 := Lib.hid h1
          have HZ3 := Lib.hid (f1 Z _ _ HZ2.out (by decide) (by decide))
          have HX3 := Lib.hid (f1 X _ _ HX2.out (by decide) (by decide))
          have F3 := Lib.hid (F2.out.trans f1)
          clear z0 z1 z2 z3 z4 z5 z6
          clear h1 f1 HI2 HX2 HZ2 F2
          go_wp2_with fail
          go_roundg (gk - 1)
          case measure => omega
          case rel => exact ⟨k + 1, by simp, by omega, by rw [HNX.out]; rw [HEQ.out]; exact HI3.out, HX3.out, F3.out⟩
        · have HEQ : Hid (us ++ condW (decide (k = 0)) y = us ++ [kAND] ++ (termW y.a ++ opW y)) := by show _ = _; unfold condW; rw [decide_eq_false hk0]; simp
          have hkb : ((k : Int) == 0) = false := by simp; omega
          go_wp2_with fail
          refine (betweenYes (k := k) (s := ⟨#[65, 78, 68]⟩) HI0.out (by omega) (by omega)).mono ?_
          rintro e V1 ⟨rfl, h1, f1⟩
          have HI1 := Lib.hid h1
          have HZ1 := Lib.hid (f1 Z _ _ HZ0.out (by decide) (by decide))
          have HX1 := Lib.hid (f1 X _ _ HX0.out (by decide) (by decide))
          have F1 := Lib.hid (F0.out.trans f1)
          clear h1 f1 HI0 HX0 HZ0 F0
          have z0 : V1.cell? ⟨Z, 0, none⟩ = some (.int .i64 y.op) := (HZ1.out.cell 0).trans rfl
          have z1 : V1.cell? ⟨Z, 1, none⟩ = some (.string y.a.name) := (HZ1.out.cell 1).trans rfl
          have z2 : V1.cell? ⟨Z, 2, none⟩ = some (.string y.a.key) := (HZ1.out.cell 2).trans rfl
          have z3 : V1.cell? ⟨Z, 3, none⟩ = some (.int .i64 y.a.val) := (HZ1.out.cell 3).trans rfl
          have z4 : V1.cell? ⟨Z, 4, none⟩ = some (.string y.b.name) := (HZ1.out.cell 4).trans rfl
          have z5 : V1.cell? ⟨Z, 5, none⟩ = some (.string y.b.key) := (HZ1.out.cell 5).trans rfl
          have z6 : V1.cell? ⟨Z, 6, none⟩ = some (.int .i64 y.b.val) := (HZ1.out.cell 6).trans rfl
          go_wp2_with fail
          refine (wcond (c := y) HI1.out ht HF0.out HF1.out (by simp; omega)).mono ?_
          rintro e V2 ⟨rfl, h1, f1⟩
          have HI2 := Lib.hid h1
          have HZ2 := Lib.hid (f1 Z _ _ HZ1.out (by decide) (by decide))
          have HX2 := Lib.hid (f1 X _ _ HX1.out (by decide) (by decide))
          have F2 := Lib.hid (F1.out.trans f1)
          clear z0 z1 z2 z3 z4 z5 z6
          clear h1 f1 HI1 HX1 HZ1 F1
          go_wp2_with fail
          go_roundg (gk - 1)
          case measure => omega
          case rel => exact ⟨k + 1, by simp, by omega, by rw [HNX.out]; rw [HEQ.out]; exact HI2.out, HX2.out, F2.out⟩
      · have hki : ¬ (k : Int) < (q.conds.length : Int) := by omega
        have hk2 : k = q.conds.length := by omega
        have HK := Lib.hid hk2
        clear hk2
        go_wp2_with fail
        go_end0
        exact ⟨rfl, by have h := HI.out; rw [HK.out, List.take_length] at h; rw [HEM.out]; exact h, HF.out⟩

end Go.Proofs.YtobgbmfpicmpcaaGreatDoor

/- The program's writer: a read, a make, a whole query. -/
namespace Go.Proofs.YtobgbmfpicmpcaaGreatDoor
open Go.RowKit

theorem oneW_len (x : PItem) : (oneW x).length ≤ 3 := by
  unfold oneW
  split
  · simp
  · split <;> simp
theorem itemW_len (b : Bool) (x : PItem) : (itemW b x).length ≤ 4 := by
  unfold itemW
  have := oneW_len x
  rw [List.length_append]
  split <;> simp <;> omega
theorem pairW_len (b : Bool) (p : PPair) : (pairW b p).length ≤ 4 := by
  unfold pairW
  rw [List.length_append]
  split <;> simp
theorem orderW_len (q : PQuery) : (orderW q).length ≤ 4 := by
  unfold orderW
  split
  · simp
  · split <;> simp
theorem skipW_len (q : PQuery) : (skipW q).length ≤ 2 := by unfold skipW; split <;> simp

set_option maxRecDepth 100000 in
set_option maxHeartbeats 4000000 in
theorem wread {W0 W : World} {b : Nat} {ws : List ByteArray} {q : PQuery} {vs vc vi vp : Value} (h : WI W0 b ws W) (ht : Tab W0) (hq : QSees W0 q vs vc vi vp) (hf : QFits q) (n3 : q.items.length ≤ 6) (hl : ws.length ≤ 2000) :
    Calls Tryz.prog 107 #[.pointer (some ⟨b, 0, none⟩), .agg (qC q vs vc vi vp)] W fun e W' => e = .returned (.tuple #[]) ∧ WI W0 b (ws ++ readW q) W' ∧ FrW W W' := by
  obtain ⟨aos, cas, rfl, hcas⟩ := sees_slice (l := q.spots) hq.rs
  obtain ⟨aoc, cac, rfl, hcac⟩ := sees_slice (l := q.conds) hq.rc
  obtain ⟨aoi, cai, rfl, hcai⟩ := sees_slice (l := q.items) hq.rt
  obtain ⟨aop, cap, rfl, hcap⟩ := sees_slice (l := q.pairs) hq.rp
  have HQS := Lib.hid hq
  have HQF := Lib.hid hf
  clear hq hf hcas hcac hcai hcap
  have HI0 := Lib.hid (h.alloc (.cells (qC q (.slice aos q.spots.length cas) (.slice aoc q.conds.length cac) (.slice aoi q.items.length cai) (.slice aop q.pairs.length cap)) 29))
  have HX0 := Lib.hid (Loc.new W (qC q (.slice aos q.spots.length cas) (.slice aoc q.conds.length cac) (.slice aoi q.items.length cai) (.slice aop q.pairs.length cap)) 29)
  have F0 : Hid (FrW W (W.alloc (.cells (qC q (.slice aos q.spots.length cas) (.slice aoc q.conds.length cac) (.slice aoi q.items.length cai) (.slice aop q.pairs.length cap)) 29))) := (FrW.refl W).alloc _
  clear h
  go_enter Tryz.func107, Tryz.ntmps107
  go_upto_region 1 with fail
  obtain ⟨X, hX⟩ : ∃ X, X = W.heap.size := ⟨_, rfl⟩
  rw [← hX] at HX0 ⊢
  clear hX
  generalize W.alloc (.cells (qC q (.slice aos q.spots.length cas) (.slice aoc q.conds.length cac) (.slice aoi q.items.length cai) (.slice aop q.pairs.length cap)) 29) = W0_ at HI0 HX0 F0 ⊢
  have HA := Lib.hid (HI0.out.alloc (.cells #[.string ⟨#[82, 69, 84, 85, 82, 78]⟩] 9))
  have HG := Lib.hid (Loc.new W0_ #[.string ⟨#[82, 69, 84, 85, 82, 78]⟩] 9)
  go_wp2_with fail
  refine (add_ (m := 1) (new := [⟨#[82, 69, 84, 85, 82, 78]⟩]) HA.out HG.out rfl rfl (by omega) (by simp; omega)).mono ?_
  rintro e W1_ ⟨rfl, h1, f1⟩
  have HI1 := Lib.hid h1
  have HX1 := Lib.hid (f1 X _ _ (HX0.out.alloc _) (by decide) (by decide))
  have F1 := Lib.hid ((F0.out.alloc _).trans f1)
  clear h1 f1 HI0 HX0 F0 HA HG
  have cs : W1_.cell? ⟨X, 3, none⟩ = some (.slice aoi q.items.length cai) := (HX1.out.cell 3).trans rfl
  go_upto_block 0 with fail
  clear cs
  go_cut [] (fun w => WI W0 b (ws ++ [kRETURN] ++ gather itemW true q.items) w ∧ Loc w X (qC q (.slice aos q.spots.length cas) (.slice aoc q.conds.length cac) (.slice aoi q.items.length cai) (.slice aop q.pairs.length cap)) 29 ∧ FrW W w)
  case first =>
    go_wp2_with fail
    go_loopg [12] q.items.length (fun m iv w => ∃ k : Nat, iv = .int .i64 (k : Int) ∧ k + m = q.items.length ∧ WI W0 b (ws ++ [kRETURN] ++ gather itemW true (q.items.take k)) w ∧ Loc w X (qC q (.slice aos q.spots.length cas) (.slice aoc q.conds.length cac) (.slice aoi q.items.length cai) (.slice aop q.pairs.length cap)) 29 ∧ FrW W w)
    case atStart => exact ⟨0, rfl, by omega, by rw [List.take_zero]; simp only [gather, List.append_nil]; exact HI1.out, HX1.out, F1.out⟩
    case round =>
      obtain ⟨k, rfl, hk, hi, hx, hfr⟩ := hrel
      have HI := Lib.hid hi
      have HX := Lib.hid hx
      have HF := Lib.hid hfr
      clear hi hx hfr HI1 HX1 F1
      by_cases hlt : k < q.items.length
      · obtain ⟨g, o, rfl, hcell⟩ := sees_at (l := q.items) fItem (fun _ => rfl) ((HQS.out.rt).below HI.out.low) hlt
        obtain ⟨y, hy⟩ : ∃ y, q.items[k] = y := ⟨_, rfl⟩
        have hmem : y ∈ q.items := by rw [← hy]; exact List.getElem_mem hlt
        rw [hy] at hcell
        have p0 : wr.cell? ⟨g, o + k * 2, none⟩ = some (.string y.name) := hcell 0 (by decide)
        have p1 : wr.cell? ⟨g, o + k * 2 + 1, none⟩ = some (.string y.key) := hcell 1 (by decide)
        have hki : (k : Int) < (q.items.length : Int) := by omega
        have HNX : Hid ((ws ++ [kRETURN] ++ gather itemW true (q.items.take (k + 1))) = (ws ++ [kRETURN] ++ gather itemW true (q.items.take k)) ++ itemW (decide (k = 0)) y) := by show _ = _; rw [gather_next itemW hlt, hy]; simp only [List.append_assoc]
        have hlen : (ws ++ [kRETURN] ++ gather itemW true (q.items.take k)).length ≤ 2100 := by
          have := gatherW_len itemW 4 itemW_len (q.items.take k) true
          rw [List.length_take_of_le (by omega)] at this
          simp only [List.length_append, List.length_singleton]
          omega
        obtain ⟨us, hus⟩ : ∃ us, (ws ++ [kRETURN] ++ gather itemW true (q.items.take k)) = us := ⟨_, rfl⟩
        rw [hus] at HI HNX hlen
        have HZ0 := Lib.hid (Loc.new wr #[.string y.name, .string y.key] 89)
        have HI0 := Lib.hid (HI.out.alloc (.cells #[.string y.name, .string y.key] 89))
        have HX0 := Lib.hid (HX.out.alloc (.cells #[.string y.name, .string y.key] 89))
        have F0 := Lib.hid (HF.out.alloc (.cells #[.string y.name, .string y.key] 89))
        clear hus hcell hy HI HX HF
        go_upto_region 5 with fail
        obtain ⟨Z, hZ⟩ : ∃ Z, Z = wr.heap.size := ⟨_, rfl⟩
        rw [← hZ] at HZ0 ⊢
        clear hZ
        generalize wr.alloc (.cells #[.string y.name, .string y.key] 89) = V0 at HZ0 HI0 HX0 F0 ⊢
        clear p0 p1
        have HEQ : Hid (us ++ itemW (decide (k = 0)) y = us ++ (if k = 0 then [] else [mComma]) ++ oneW y) := by show _ = _; unfold itemW; by_cases hk0 : k = 0 <;> simp [hk0]
        clear hmem
        go_wp2_with fail
        refine (between_ (k := k) (s := ⟨#[44]⟩) HI0.out (by omega)).mono ?_
        rintro e V1 ⟨rfl, h1, f1⟩
        have HI1 := Lib.hid h1
        have HZ1 := Lib.hid (f1 Z _ _ HZ0.out (by decide) (by decide))
        have HX1 := Lib.hid (f1 X _ _ HX0.out (by decide) (by decide))
        have F1 := Lib.hid (F0.out.trans f1)
        clear h1 f1 HI0 HX0 HZ0 F0
        have hlen2 : (us ++ (if k = 0 then [] else [mComma])).length ≤ 2101 := by rw [List.length_append]; split <;> simp <;> omega
        obtain ⟨us2, hus2⟩ : ∃ us2, us ++ (if k = 0 then [] else [mComma]) = us2 := ⟨_, rfl⟩
        have HI1b : Hid (WI W0 b us2 V1) := by show WI _ _ _ _; rw [← hus2]; exact HI1.out
        rw [hus2] at HEQ hlen2
        clear hus2 HI1
        have HI1 := HI1b
        have z0 : V1.cell? ⟨Z, 0, none⟩ = some (.string y.name) := (HZ1.out.cell 0).trans rfl
        have z1 : V1.cell? ⟨Z, 1, none⟩ = some (.string y.key) := (HZ1.out.cell 1).trans rfl
        go_wp2_with fail
        refine (witem (x := y) HI1.out (by omega)).mono ?_
        rintro e V2 ⟨rfl, h1, f1⟩
        have HI2 := Lib.hid h1
        have HZ2 := Lib.hid (f1 Z _ _ HZ1.out (by decide) (by decide))
        have HX2 := Lib.hid (f1 X _ _ HX1.out (by decide) (by decide))
        have F2 := Lib.hid (F1.out.trans f1)
        clear z0 z1
        clear h1 f1 HI1 HX1 HZ1 F1
        clear HI1b
        go_wp2_with fail
        go_roundg (gk - 1)
        case measure => omega
        case rel => exact ⟨k + 1, by simp, by omega, by rw [HNX.out]; rw [HEQ.out]; exact HI2.out, HX2.out, F2.out⟩
      · have hki : ¬ (k : Int) < (q.items.length : Int) := by omega
        have hk2 : k = q.items.length := by omega
        have HK := Lib.hid hk2
        clear hk2
        go_wp2_with fail
        go_meet
        case rel => exact ⟨by have h := HI.out; rw [HK.out, List.take_length] at h; exact h, HX.out, HF.out⟩
  case rest =>
    obtain ⟨hi, hx, hfr⟩ := hcut
    have hlen0 : (ws ++ [kRETURN] ++ gather itemW true q.items).length ≤ 2100 := by
      have := gatherW_len itemW 4 itemW_len q.items true
      simp only [List.length_append, List.length_singleton]
      omega
    have HEM : Hid (ws ++ readW q = ws ++ [kRETURN] ++ gather itemW true q.items ++ orderW q ++ skipW q ++ limitW q) := by show _ = _; unfold readW partW; simp
    obtain ⟨ws1, hws1⟩ : ∃ ws1, ws ++ [kRETURN] ++ gather itemW true q.items = ws1 := ⟨_, rfl⟩
    rw [hws1] at hi hlen0 HEM
    have HI9 := Lib.hid hi
    have HX9 := Lib.hid hx
    have F9 := Lib.hid hfr
    clear hi hx hfr hws1 HI1 HX1 F1
    have c4 : wc.cell? ⟨X, 4, none⟩ = some (.int .i64 q.order) := (HX9.out.cell 4).trans rfl
    go_upto_if 26 with fail
    clear c4
    go_cut [] (fun w => WI W0 b (ws1 ++ orderW q) w ∧ Loc w X (qC q (.slice aos q.spots.length cas) (.slice aoc q.conds.length cac) (.slice aoi q.items.length cai) (.slice aop q.pairs.length cap)) 29 ∧ FrW W w)
    case first =>
      by_cases ho : q.order = 0
      · have HE : Hid (orderW q = []) := by show _ = _; unfold orderW; rw [if_pos ho]
        have hb : (q.order != 0) = false := by rw [ho]; rfl
        clear ho
        go_wp2_with fail
        go_meet
        case rel => exact ⟨by rw [HE.out, List.append_nil]; exact HI9.out, HX9.out, F9.out⟩
      · have hb : (q.order != 0) = true := by simp only [bne_iff_ne]; exact ho
        have HO := Lib.hid HQF.out.od
        cases hd : q.down with
        | false =>
          have HE : Hid (ws1 ++ orderW q = ws1 ++ [kORDER, kBY, decB q.order]) := by show _ = _; unfold orderW; rw [if_neg ho, hd]; simp
          clear ho
          have c9_4 : wc.cell? ⟨X, 4, none⟩ = some (.int .i64 q.order) := (HX9.out.cell 4).trans rfl
          go_wp2_with fail
          refine (itoa_ HO.out (HI9.out.tab ht)).mono ?_
          rintro e W10_ ⟨rfl, hb⟩
          have HI10 := Lib.hid (HI9.out.later hb)
          have HX10 := Lib.hid (HX9.out.grown (grown_below hb none) (by simp))
          have F10 := Lib.hid (F9.out.later hb)
          clear c9_4
          clear hb HI9 HX9 F9
          have HA := Lib.hid (HI10.out.alloc (.cells #[.string ⟨#[79, 82, 68, 69, 82]⟩, .string ⟨#[66, 89]⟩, .string (decB q.order)] 9))
          have HG := Lib.hid (Loc.new W10_ #[.string ⟨#[79, 82, 68, 69, 82]⟩, .string ⟨#[66, 89]⟩, .string (decB q.order)] 9)
          go_wp2_with fail
          refine (add_ (m := 3) (new := [⟨#[79, 82, 68, 69, 82]⟩, ⟨#[66, 89]⟩, (decB q.order)]) HA.out HG.out rfl rfl (by omega) (by simp; omega)).mono ?_
          rintro e W11_ ⟨rfl, h1, f1⟩
          have HI11 := Lib.hid h1
          have HX11 := Lib.hid (f1 X _ _ (HX10.out.alloc _) (by decide) (by decide))
          have F11 := Lib.hid ((F10.out.alloc _).trans f1)
          clear h1 f1 HI10 HX10 F10 HA HG
          have c11_5 : W11_.cell? ⟨X, 5, none⟩ = some (.bool q.down) := (HX11.out.cell 5).trans rfl
          go_wp2_with fail
          go_meet
          case rel => exact ⟨by rw [HE.out]; exact HI11.out, HX11.out, F11.out⟩
        | true =>
          have HE : Hid (ws1 ++ orderW q = ws1 ++ [kORDER, kBY, decB q.order] ++ [kDESC]) := by show _ = _; unfold orderW; rw [if_neg ho, hd]; simp
          clear ho
          have c9_4 : wc.cell? ⟨X, 4, none⟩ = some (.int .i64 q.order) := (HX9.out.cell 4).trans rfl
          go_wp2_with fail
          refine (itoa_ HO.out (HI9.out.tab ht)).mono ?_
          rintro e W10_ ⟨rfl, hb⟩
          have HI10 := Lib.hid (HI9.out.later hb)
          have HX10 := Lib.hid (HX9.out.grown (grown_below hb none) (by simp))
          have F10 := Lib.hid (F9.out.later hb)
          clear c9_4
          clear hb HI9 HX9 F9
          have HA := Lib.hid (HI10.out.alloc (.cells #[.string ⟨#[79, 82, 68, 69, 82]⟩, .string ⟨#[66, 89]⟩, .string (decB q.order)] 9))
          have HG := Lib.hid (Loc.new W10_ #[.string ⟨#[79, 82, 68, 69, 82]⟩, .string ⟨#[66, 89]⟩, .string (decB q.order)] 9)
          go_wp2_with fail
          refine (add_ (m := 3) (new := [⟨#[79, 82, 68, 69, 82]⟩, ⟨#[66, 89]⟩, (decB q.order)]) HA.out HG.out rfl rfl (by omega) (by simp; omega)).mono ?_
          rintro e W11_ ⟨rfl, h1, f1⟩
          have HI11 := Lib.hid h1
          have HX11 := Lib.hid (f1 X _ _ (HX10.out.alloc _) (by decide) (by decide))
          have F11 := Lib.hid ((F10.out.alloc _).trans f1)
          clear h1 f1 HI10 HX10 F10 HA HG
          have c11_5 : W11_.cell? ⟨X, 5, none⟩ = some (.bool q.down) := (HX11.out.cell 5).trans rfl
          have HA := Lib.hid (HI11.out.alloc (.cells #[.string ⟨#[68, 69, 83, 67]⟩] 9))
          have HG := Lib.hid (Loc.new W11_ #[.string ⟨#[68, 69, 83, 67]⟩] 9)
          go_wp2_with fail
          refine (add_ (m := 1) (new := [⟨#[68, 69, 83, 67]⟩]) HA.out HG.out rfl rfl (by omega) (by simp; omega)).mono ?_
          rintro e W12_ ⟨rfl, h1, f1⟩
          have HI12 := Lib.hid h1
          have HX12 := Lib.hid (f1 X _ _ (HX11.out.alloc _) (by decide) (by decide))
          have F12 := Lib.hid ((F11.out.alloc _).trans f1)
          clear c11_5
          clear h1 f1 HI11 HX11 F11 HA HG
          go_wp2_with fail
          go_meet
          case rel => exact ⟨by rw [HE.out]; exact HI12.out, HX12.out, F12.out⟩
    case rest =>
      obtain ⟨hi, hx, hfr⟩ := hcut
      have hlen1 : (ws1 ++ orderW q).length ≤ 2104 := by have := orderW_len q; rw [List.length_append]; omega
      obtain ⟨ws2, hws2⟩ : ∃ ws2, ws1 ++ orderW q = ws2 := ⟨_, rfl⟩
      rw [hws2] at hi hlen1 HEM
      clear HI9 HX9 F9
      have HI9 := Lib.hid hi
      have HX9 := Lib.hid hx
      have F9 := Lib.hid hfr
      clear hi hx hfr hws2
      have c6 : wc.cell? ⟨X, 6, none⟩ = some (.int .i64 q.skip) := (HX9.out.cell 6).trans rfl
      go_upto_if 40 with fail
      clear c6
      go_cut [] (fun w => WI W0 b (ws2 ++ skipW q) w ∧ Loc w X (qC q (.slice aos q.spots.length cas) (.slice aoc q.conds.length cac) (.slice aoi q.items.length cai) (.slice aop q.pairs.length cap)) 29 ∧ FrW W w)
      case first =>
        by_cases ho : q.skip = 0
        · have HE : Hid (skipW q = []) := by show _ = _; unfold skipW; rw [if_pos ho]
          have hb : (q.skip != 0) = false := by rw [ho]; rfl
          clear ho
          go_wp2_with fail
          go_meet
          case rel => exact ⟨by rw [HE.out, List.append_nil]; exact HI9.out, HX9.out, F9.out⟩
        · have hb : (q.skip != 0) = true := by simp only [bne_iff_ne]; exact ho
          have HO := Lib.hid HQF.out.sk
          have HE : Hid (skipW q = [kSKIP, decB q.skip]) := by show _ = _; unfold skipW; rw [if_neg ho]
          clear ho
          have c9_6 : wc.cell? ⟨X, 6, none⟩ = some (.int .i64 q.skip) := (HX9.out.cell 6).trans rfl
          go_wp2_with fail
          refine (itoa_ HO.out (HI9.out.tab ht)).mono ?_
          rintro e W10_ ⟨rfl, hb⟩
          have HI10 := Lib.hid (HI9.out.later hb)
          have HX10 := Lib.hid (HX9.out.grown (grown_below hb none) (by simp))
          have F10 := Lib.hid (F9.out.later hb)
          clear c9_6
          clear hb HI9 HX9 F9
          have HA := Lib.hid (HI10.out.alloc (.cells #[.string ⟨#[83, 75, 73, 80]⟩, .string (decB q.skip)] 9))
          have HG := Lib.hid (Loc.new W10_ #[.string ⟨#[83, 75, 73, 80]⟩, .string (decB q.skip)] 9)
          go_wp2_with fail
          refine (add_ (m := 2) (new := [⟨#[83, 75, 73, 80]⟩, (decB q.skip)]) HA.out HG.out rfl rfl (by omega) (by simp; omega)).mono ?_
          rintro e W11_ ⟨rfl, h1, f1⟩
          have HI11 := Lib.hid h1
          have HX11 := Lib.hid (f1 X _ _ (HX10.out.alloc _) (by decide) (by decide))
          have F11 := Lib.hid ((F10.out.alloc _).trans f1)
          clear h1 f1 HI10 HX10 F10 HA HG
          go_wp2_with fail
          go_meet
          case rel => exact ⟨by rw [HE.out]; exact HI11.out, HX11.out, F11.out⟩
      case rest =>
        obtain ⟨hi, hx, hfr⟩ := hcut
        have hlen2 : (ws2 ++ skipW q).length ≤ 2106 := by have := skipW_len q; rw [List.length_append]; omega
        obtain ⟨ws3, hws3⟩ : ∃ ws3, ws2 ++ skipW q = ws3 := ⟨_, rfl⟩
        rw [hws3] at hi hlen2 HEM
        clear HI9 HX9 F9
        have HI9 := Lib.hid hi
        have HX9 := Lib.hid hx
        have F9 := Lib.hid hfr
        clear hi hx hfr hws3
        have c7 : wc.cell? ⟨X, 7, none⟩ = some (.int .i64 q.limit) := (HX9.out.cell 7).trans rfl
        by_cases ho : q.limit = -1
        · have HE : Hid (limitW q = []) := by show _ = _; unfold limitW; rw [if_pos ho]
          have hb : (q.limit != -1) = false := by rw [ho]; rfl
          clear ho
          go_wp2_with fail
          go_end0
          exact ⟨rfl, by rw [HEM.out, HE.out, List.append_nil]; exact HI9.out, F9.out⟩
        · have hb : (q.limit != -1) = true := by simp only [bne_iff_ne]; exact ho
          clear c7
          have HO := Lib.hid HQF.out.li
          have HE : Hid (limitW q = [kLIMIT, decB q.limit]) := by show _ = _; unfold limitW; rw [if_neg ho]
          clear ho
          have c9_7 : wc.cell? ⟨X, 7, none⟩ = some (.int .i64 q.limit) := (HX9.out.cell 7).trans rfl
          go_wp2_with fail
          refine (itoa_ HO.out (HI9.out.tab ht)).mono ?_
          rintro e W10_ ⟨rfl, hb⟩
          have HI10 := Lib.hid (HI9.out.later hb)
          have HX10 := Lib.hid (HX9.out.grown (grown_below hb none) (by simp))
          have F10 := Lib.hid (F9.out.later hb)
          clear c9_7
          clear hb HI9 HX9 F9
          have HA := Lib.hid (HI10.out.alloc (.cells #[.string ⟨#[76, 73, 77, 73, 84]⟩, .string (decB q.limit)] 9))
          have HG := Lib.hid (Loc.new W10_ #[.string ⟨#[76, 73, 77, 73, 84]⟩, .string (decB q.limit)] 9)
          go_wp2_with fail
          refine (add_ (m := 2) (new := [⟨#[76, 73, 77, 73, 84]⟩, (decB q.limit)]) HA.out HG.out rfl rfl (by omega) (by simp; omega)).mono ?_
          rintro e W11_ ⟨rfl, h1, f1⟩
          have HI11 := Lib.hid h1
          have HX11 := Lib.hid (f1 X _ _ (HX10.out.alloc _) (by decide) (by decide))
          have F11 := Lib.hid ((F10.out.alloc _).trans f1)
          clear h1 f1 HI10 HX10 F10 HA HG
          go_wp2_with fail
          go_end0
          exact ⟨rfl, by rw [HEM.out, HE.out]; exact HI11.out, F11.out⟩

end Go.Proofs.YtobgbmfpicmpcaaGreatDoor

/- The program's writer: a make, a whole query. -/
namespace Go.Proofs.YtobgbmfpicmpcaaGreatDoor
open Go.RowKit

set_option maxRecDepth 100000 in
set_option maxHeartbeats 4000000 in
theorem wmakeNo {W0 W : World} {b : Nat} {ws : List ByteArray} {q : PQuery} {vs vc vi vp : Value} (h : WI W0 b ws W) (ht : Tab W0) (hq : QSees W0 q vs vc vi vp) (hf : QFits q) (n0 : q.pairs.length = 0) (hl : ws.length ≤ 2000) :
    Calls Tryz.prog 105 #[.pointer (some ⟨b, 0, none⟩), .agg (qC q vs vc vi vp)] W fun e W' => e = .returned (.tuple #[]) ∧ WI W0 b (ws ++ makeW q) W' ∧ FrW W W' := by
  have hu := ht
  clear hu
  obtain ⟨aos, cas, rfl, hcas⟩ := sees_slice (l := q.spots) hq.rs
  obtain ⟨aoc, cac, rfl, hcac⟩ := sees_slice (l := q.conds) hq.rc
  obtain ⟨aoi, cai, rfl, hcai⟩ := sees_slice (l := q.items) hq.rt
  obtain ⟨aop, cap, rfl, hcap⟩ := sees_slice (l := q.pairs) hq.rp
  have HQS := Lib.hid hq
  have HQF := Lib.hid hf
  clear hq hf hcas hcac hcai hcap
  have HE : Hid (ws ++ makeW q = ws ++ [kCREATE, mOpen, q.label] ++ [mClose]) := by show _ = _; unfold makeW; rw [List.length_eq_zero_iff.1 n0]; simp
  have HN0 := Lib.hid n0
  have hz : ¬ 0 < (q.pairs.length : Int) := by omega
  clear n0
  have HI0 := Lib.hid (h.alloc (.cells (qC q (.slice aos q.spots.length cas) (.slice aoc q.conds.length cac) (.slice aoi q.items.length cai) (.slice aop q.pairs.length cap)) 29))
  have HX0 := Lib.hid (Loc.new W (qC q (.slice aos q.spots.length cas) (.slice aoc q.conds.length cac) (.slice aoi q.items.length cai) (.slice aop q.pairs.length cap)) 29)
  have F0 : Hid (FrW W (W.alloc (.cells (qC q (.slice aos q.spots.length cas) (.slice aoc q.conds.length cac) (.slice aoi q.items.length cai) (.slice aop q.pairs.length cap)) 29))) := (FrW.refl W).alloc _
  clear h
  go_enter Tryz.func105, Tryz.ntmps105
  go_upto_region 1 with fail
  obtain ⟨X, hX⟩ : ∃ X, X = W.heap.size := ⟨_, rfl⟩
  rw [← hX] at HX0 ⊢
  clear hX
  generalize W.alloc (.cells (qC q (.slice aos q.spots.length cas) (.slice aoc q.conds.length cac) (.slice aoi q.items.length cai) (.slice aop q.pairs.length cap)) 29) = W0_ at HI0 HX0 F0 ⊢
  have c0_15 : W0_.cell? ⟨X, 15, none⟩ = some (.string q.label) := (HX0.out.cell 15).trans rfl
  have HA := Lib.hid (HI0.out.alloc (.cells #[.string ⟨#[67, 82, 69, 65, 84, 69]⟩, .string ⟨#[40]⟩, .string q.label] 9))
  have HG := Lib.hid (Loc.new W0_ #[.string ⟨#[67, 82, 69, 65, 84, 69]⟩, .string ⟨#[40]⟩, .string q.label] 9)
  go_wp2_with fail
  refine (add_ (m := 3) (new := [⟨#[67, 82, 69, 65, 84, 69]⟩, ⟨#[40]⟩, q.label]) HA.out HG.out rfl rfl (by omega) (by simp; omega)).mono ?_
  rintro e W1_ ⟨rfl, h1, f1⟩
  have HI1 := Lib.hid h1
  have HX1 := Lib.hid (f1 X _ _ (HX0.out.alloc _) (by decide) (by decide))
  have F1 := Lib.hid ((F0.out.alloc _).trans f1)
  clear c0_15
  clear h1 f1 HI0 HX0 F0 HA HG
  have c1_16 : W1_.cell? ⟨X, 16, none⟩ = some (.slice aop q.pairs.length cap) := (HX1.out.cell 16).trans rfl
  have HA := Lib.hid (HI1.out.alloc (.cells #[.string ⟨#[41]⟩] 9))
  have HG := Lib.hid (Loc.new W1_ #[.string ⟨#[41]⟩] 9)
  go_wp2_with fail
  refine (add_ (m := 1) (new := [⟨#[41]⟩]) HA.out HG.out rfl rfl (by omega) (by simp; omega)).mono ?_
  rintro e W2_ ⟨rfl, h1, f1⟩
  have HI2 := Lib.hid h1
  have HX2 := Lib.hid (f1 X _ _ (HX1.out.alloc _) (by decide) (by decide))
  have F2 := Lib.hid ((F1.out.alloc _).trans f1)
  clear c1_16
  clear h1 f1 HI1 HX1 F1 HA HG
  go_wp2_with fail
  go_end0
  exact ⟨rfl, by rw [HE.out]; exact HI2.out, F2.out⟩

set_option maxRecDepth 100000 in
set_option maxHeartbeats 4000000 in
theorem wmakeYes {W0 W : World} {b : Nat} {ws : List ByteArray} {q : PQuery} {vs vc vi vp : Value} (h : WI W0 b ws W) (ht : Tab W0) (hq : QSees W0 q vs vc vi vp) (hf : QFits q) (n0 : 0 < q.pairs.length) (n4 : q.pairs.length ≤ 6) (hl : ws.length ≤ 2000) :
    Calls Tryz.prog 105 #[.pointer (some ⟨b, 0, none⟩), .agg (qC q vs vc vi vp)] W fun e W' => e = .returned (.tuple #[]) ∧ WI W0 b (ws ++ makeW q) W' ∧ FrW W W' := by
  obtain ⟨aos, cas, rfl, hcas⟩ := sees_slice (l := q.spots) hq.rs
  obtain ⟨aoc, cac, rfl, hcac⟩ := sees_slice (l := q.conds) hq.rc
  obtain ⟨aoi, cai, rfl, hcai⟩ := sees_slice (l := q.items) hq.rt
  obtain ⟨aop, cap, rfl, hcap⟩ := sees_slice (l := q.pairs) hq.rp
  have HQS := Lib.hid hq
  have HQF := Lib.hid hf
  clear hq hf hcas hcac hcai hcap
  have HE : Hid (ws ++ makeW q = ws ++ [kCREATE, mOpen, q.label] ++ [mBrace] ++ gather pairW true q.pairs ++ [mUnbrace] ++ [mClose]) := by
    show _ = _
    unfold makeW
    cases hp : q.pairs with
    | nil => rw [hp] at n0; simp at n0
    | cons x l => simp
  have hz : 0 < (q.pairs.length : Int) := by omega
  have HI0 := Lib.hid (h.alloc (.cells (qC q (.slice aos q.spots.length cas) (.slice aoc q.conds.length cac) (.slice aoi q.items.length cai) (.slice aop q.pairs.length cap)) 29))
  have HX0 := Lib.hid (Loc.new W (qC q (.slice aos q.spots.length cas) (.slice aoc q.conds.length cac) (.slice aoi q.items.length cai) (.slice aop q.pairs.length cap)) 29)
  have F0 : Hid (FrW W (W.alloc (.cells (qC q (.slice aos q.spots.length cas) (.slice aoc q.conds.length cac) (.slice aoi q.items.length cai) (.slice aop q.pairs.length cap)) 29))) := (FrW.refl W).alloc _
  clear h
  go_enter Tryz.func105, Tryz.ntmps105
  go_upto_region 1 with fail
  obtain ⟨X, hX⟩ : ∃ X, X = W.heap.size := ⟨_, rfl⟩
  rw [← hX] at HX0 ⊢
  clear hX
  generalize W.alloc (.cells (qC q (.slice aos q.spots.length cas) (.slice aoc q.conds.length cac) (.slice aoi q.items.length cai) (.slice aop q.pairs.length cap)) 29) = W0_ at HI0 HX0 F0 ⊢
  have c0_15 : W0_.cell? ⟨X, 15, none⟩ = some (.string q.label) := (HX0.out.cell 15).trans rfl
  have HA := Lib.hid (HI0.out.alloc (.cells #[.string ⟨#[67, 82, 69, 65, 84, 69]⟩, .string ⟨#[40]⟩, .string q.label] 9))
  have HG := Lib.hid (Loc.new W0_ #[.string ⟨#[67, 82, 69, 65, 84, 69]⟩, .string ⟨#[40]⟩, .string q.label] 9)
  go_wp2_with fail
  refine (add_ (m := 3) (new := [⟨#[67, 82, 69, 65, 84, 69]⟩, ⟨#[40]⟩, q.label]) HA.out HG.out rfl rfl (by omega) (by simp; omega)).mono ?_
  rintro e W1_ ⟨rfl, h1, f1⟩
  have HI1 := Lib.hid h1
  have HX1 := Lib.hid (f1 X _ _ (HX0.out.alloc _) (by decide) (by decide))
  have F1 := Lib.hid ((F0.out.alloc _).trans f1)
  clear c0_15
  clear h1 f1 HI0 HX0 F0 HA HG
  have c1_16 : W1_.cell? ⟨X, 16, none⟩ = some (.slice aop q.pairs.length cap) := (HX1.out.cell 16).trans rfl
  have HA := Lib.hid (HI1.out.alloc (.cells #[.string ⟨#[123]⟩] 9))
  have HG := Lib.hid (Loc.new W1_ #[.string ⟨#[123]⟩] 9)
  go_wp2_with fail
  refine (add_ (m := 1) (new := [⟨#[123]⟩]) HA.out HG.out rfl rfl (by omega) (by simp; omega)).mono ?_
  rintro e W2_ ⟨rfl, h1, f1⟩
  have HI2 := Lib.hid h1
  have HX2 := Lib.hid (f1 X _ _ (HX1.out.alloc _) (by decide) (by decide))
  have F2 := Lib.hid ((F1.out.alloc _).trans f1)
  clear c1_16
  clear h1 f1 HI1 HX1 F1 HA HG
  have cs : W2_.cell? ⟨X, 16, none⟩ = some (.slice aop q.pairs.length cap) := (HX2.out.cell 16).trans rfl
  go_upto_block 0 with fail
  clear cs
  go_cut [] (fun w => WI W0 b (ws ++ [kCREATE, mOpen, q.label] ++ [mBrace] ++ gather pairW true q.pairs) w ∧ Loc w X (qC q (.slice aos q.spots.length cas) (.slice aoc q.conds.length cac) (.slice aoi q.items.length cai) (.slice aop q.pairs.length cap)) 29 ∧ FrW W w)
  case first =>
    go_wp2_with fail
    go_loopg [21] q.pairs.length (fun m iv w => ∃ k : Nat, iv = .int .i64 (k : Int) ∧ k + m = q.pairs.length ∧ WI W0 b (ws ++ [kCREATE, mOpen, q.label] ++ [mBrace] ++ gather pairW true (q.pairs.take k)) w ∧ Loc w X (qC q (.slice aos q.spots.length cas) (.slice aoc q.conds.length cac) (.slice aoi q.items.length cai) (.slice aop q.pairs.length cap)) 29 ∧ FrW W w)
    case atStart => exact ⟨0, rfl, by omega, by rw [List.take_zero]; simp only [gather, List.append_nil]; exact HI2.out, HX2.out, F2.out⟩
    case round =>
      obtain ⟨k, rfl, hk, hi, hx, hfr⟩ := hrel
      have HI := Lib.hid hi
      have HX := Lib.hid hx
      have HF := Lib.hid hfr
      clear hi hx hfr HI2 HX2 F2
      by_cases hlt : k < q.pairs.length
      · obtain ⟨g, o, rfl, hcell⟩ := sees_at (l := q.pairs) fPair (fun _ => rfl) ((HQS.out.rp).below HI.out.low) hlt
        obtain ⟨y, hy⟩ : ∃ y, q.pairs[k] = y := ⟨_, rfl⟩
        have hmem : y ∈ q.pairs := by rw [← hy]; exact List.getElem_mem hlt
        rw [hy] at hcell
        have p0 : wr.cell? ⟨g, o + k * 2, none⟩ = some (.string y.key) := hcell 0 (by decide)
        have p1 : wr.cell? ⟨g, o + k * 2 + 1, none⟩ = some (.int .i64 y.val) := hcell 1 (by decide)
        have hki : (k : Int) < (q.pairs.length : Int) := by omega
        have HNX : Hid ((ws ++ [kCREATE, mOpen, q.label] ++ [mBrace] ++ gather pairW true (q.pairs.take (k + 1))) = (ws ++ [kCREATE, mOpen, q.label] ++ [mBrace] ++ gather pairW true (q.pairs.take k)) ++ pairW (decide (k = 0)) y) := by show _ = _; rw [gather_next pairW hlt, hy]; simp only [List.append_assoc]
        have hlen : (ws ++ [kCREATE, mOpen, q.label] ++ [mBrace] ++ gather pairW true (q.pairs.take k)).length ≤ 2100 := by
          have := gatherW_len pairW 4 pairW_len (q.pairs.take k) true
          rw [List.length_take_of_le (by omega)] at this
          simp only [List.length_append, List.length_cons, List.length_nil]
          omega
        obtain ⟨us, hus⟩ : ∃ us, (ws ++ [kCREATE, mOpen, q.label] ++ [mBrace] ++ gather pairW true (q.pairs.take k)) = us := ⟨_, rfl⟩
        rw [hus] at HI HNX hlen
        have HZ0 := Lib.hid (Loc.new wr #[.string y.key, .int .i64 y.val] 91)
        have HI0 := Lib.hid (HI.out.alloc (.cells #[.string y.key, .int .i64 y.val] 91))
        have HX0 := Lib.hid (HX.out.alloc (.cells #[.string y.key, .int .i64 y.val] 91))
        have F0 := Lib.hid (HF.out.alloc (.cells #[.string y.key, .int .i64 y.val] 91))
        clear hus hcell hy HI HX HF
        go_upto_region 7 with fail
        obtain ⟨Z, hZ⟩ : ∃ Z, Z = wr.heap.size := ⟨_, rfl⟩
        rw [← hZ] at HZ0 ⊢
        clear hZ
        generalize wr.alloc (.cells #[.string y.key, .int .i64 y.val] 91) = V0 at HZ0 HI0 HX0 F0 ⊢
        clear p0 p1
        have HEQ : Hid (us ++ pairW (decide (k = 0)) y = us ++ (if k = 0 then [] else [mComma]) ++ [y.key, mColon, decB y.val]) := by show _ = _; unfold pairW; by_cases hk0 : k = 0 <;> simp [hk0]
        have HF0 := Lib.hid (HQF.out.pa y hmem)
        clear hmem
        go_wp2_with fail
        refine (between_ (k := k) (s := ⟨#[44]⟩) HI0.out (by omega)).mono ?_
        rintro e V1 ⟨rfl, h1, f1⟩
        have HI1 := Lib.hid h1
        have HZ1 := Lib.hid (f1 Z _ _ HZ0.out (by decide) (by decide))
        have HX1 := Lib.hid (f1 X _ _ HX0.out (by decide) (by decide))
        have F1 := Lib.hid (F0.out.trans f1)
        clear h1 f1 HI0 HX0 HZ0 F0
        have hlen2 : (us ++ (if k = 0 then [] else [mComma])).length ≤ 2101 := by rw [List.length_append]; split <;> simp <;> omega
        obtain ⟨us2, hus2⟩ : ∃ us2, us ++ (if k = 0 then [] else [mComma]) = us2 := ⟨_, rfl⟩
        have HI1b : Hid (WI W0 b us2 V1) := by show WI _ _ _ _; rw [← hus2]; exact HI1.out
        rw [hus2] at HEQ hlen2
        clear hus2 HI1
        have HD := Lib.hid (HI1b.out.drew 1)
        have HZD : Hid (Loc V1.drew Z #[.string y.key, .int .i64 y.val] 91) := HZ1.out.drew 1
        have HXD : Hid (Loc V1.drew X (qC q (.slice aos q.spots.length cas) (.slice aoc q.conds.length cac) (.slice aoi q.items.length cai) (.slice (some ⟨g, o, none⟩) q.pairs.length cap)) 29) := HX1.out.drew 1
        have FD : Hid (FrW W V1.drew) := F1.out.trans (FrW.quiet (grown_drew _ 1 none))
        have z0 : V1.cell? ⟨Z, 0, none⟩ = some (.string y.key) := (HZ1.out.cell 0).trans rfl
        have z1 : V1.cell? ⟨Z, 1, none⟩ = some (.int .i64 y.val) := (HZ1.out.cell 1).trans rfl
        have d0 : V1.drew.cell? ⟨Z, 0, none⟩ = some (.string y.key) := z0
        have d1 : V1.drew.cell? ⟨Z, 1, none⟩ = some (.int .i64 y.val) := z1
        go_upto_region 8 with fail
        clear z0 z1
        go_region_with (first
          | (go_at_call 36; refine (itoa_ HF0.out ?_).mono ?_; exact HD.out.tab ht; rintro e w5 ⟨rfl, hb5⟩; have HA := Lib.hid ((HD.out.later hb5).alloc (.cells #[.string y.key, .string ⟨#[58]⟩, .string (decB y.val)] 9)); have HG := Lib.hid (Loc.new w5 #[.string y.key, .string ⟨#[58]⟩, .string (decB y.val)] 9); have HX5 := Lib.hid (HXD.out.grown (grown_below hb5 none) (by simp)); have HZ5 := Lib.hid (HZD.out.grown (grown_below hb5 none) (by simp)); have F5 := Lib.hid (FD.out.later hb5); have c5 : w5.cell? ⟨Z, 0, none⟩ = some (.string y.key) := (HZ5.out.cell 0).trans rfl; clear hb5)
          | (go_at_call 104; refine (add_ (m := 3) (new := [y.key, mColon, decB y.val]) HA.out HG.out rfl rfl (by omega) (by omega)).mono ?_; rintro e w7 ⟨rfl, h7, f7⟩; have HI7 := Lib.hid h7; have HX7 := Lib.hid (f7 X _ _ (HX5.out.alloc _) (by decide) (by decide)); have F7 := Lib.hid ((F5.out.alloc _).trans f7); clear h7 f7))
        all_goals
          clear d0 d1 c5 HD HXD HZD FD HX5 HZ5 F5 HA HG HI1b
          go_wp2_with fail
          go_roundg (gk - 1)
          case measure => omega
          case rel => exact ⟨k + 1, by simp, by omega, by rw [HNX.out]; rw [HEQ.out]; exact HI7.out, HX7.out, F7.out⟩
      · have hki : ¬ (k : Int) < (q.pairs.length : Int) := by omega
        have hk2 : k = q.pairs.length := by omega
        have HK := Lib.hid hk2
        clear hk2
        go_wp2_with fail
        go_meet
        case rel => exact ⟨by have h := HI.out; rw [HK.out, List.take_length] at h; exact h, HX.out, HF.out⟩
  case rest =>
    obtain ⟨hi, hx, hfr⟩ := hcut
    have hlen0 : (ws ++ [kCREATE, mOpen, q.label] ++ [mBrace] ++ gather pairW true q.pairs).length ≤ 2100 := by
      have := gatherW_len pairW 4 pairW_len q.pairs true
      simp only [List.length_append, List.length_cons, List.length_nil]
      omega
    obtain ⟨ws1, hws1⟩ : ∃ ws1, ws ++ [kCREATE, mOpen, q.label] ++ [mBrace] ++ gather pairW true q.pairs = ws1 := ⟨_, rfl⟩
    rw [hws1] at hi hlen0 HE
    have HI9 := Lib.hid hi
    have HX9 := Lib.hid hx
    have F9 := Lib.hid hfr
    clear hi hx hfr hws1
    have HA := Lib.hid (HI9.out.alloc (.cells #[.string ⟨#[125]⟩] 9))
    have HG := Lib.hid (Loc.new wc #[.string ⟨#[125]⟩] 9)
    go_wp2_with fail
    refine (add_ (m := 1) (new := [⟨#[125]⟩]) HA.out HG.out rfl rfl (by omega) (by simp; omega)).mono ?_
    rintro e W10_ ⟨rfl, h1, f1⟩
    have HI10 := Lib.hid h1
    have HX10 := Lib.hid (f1 X _ _ (HX9.out.alloc _) (by decide) (by decide))
    have F10 := Lib.hid ((F9.out.alloc _).trans f1)
    clear h1 f1 HI9 HX9 F9 HA HG
    have HA := Lib.hid (HI10.out.alloc (.cells #[.string ⟨#[41]⟩] 9))
    have HG := Lib.hid (Loc.new W10_ #[.string ⟨#[41]⟩] 9)
    go_wp2_with fail
    refine (add_ (m := 1) (new := [⟨#[41]⟩]) HA.out HG.out rfl rfl (by omega) (by simp; omega)).mono ?_
    rintro e W11_ ⟨rfl, h1, f1⟩
    have HI11 := Lib.hid h1
    have HX11 := Lib.hid (f1 X _ _ (HX10.out.alloc _) (by decide) (by decide))
    have F11 := Lib.hid ((F10.out.alloc _).trans f1)
    clear h1 f1 HI10 HX10 F10 HA HG
    go_wp2_with fail
    go_end0
    exact ⟨rfl, by rw [HE.out]; exact HI11.out, F11.out⟩
theorem wmake {W0 W : World} {b : Nat} {ws : List ByteArray} {q : PQuery} {vs vc vi vp : Value} (h : WI W0 b ws W) (ht : Tab W0) (hq : QSees W0 q vs vc vi vp) (hf : QFits q) (n4 : q.pairs.length ≤ 6) (hl : ws.length ≤ 2000) :
    Calls Tryz.prog 105 #[.pointer (some ⟨b, 0, none⟩), .agg (qC q vs vc vi vp)] W fun e W' => e = .returned (.tuple #[]) ∧ WI W0 b (ws ++ makeW q) W' ∧ FrW W W' := by
  by_cases h0 : q.pairs.length = 0
  · exact wmakeNo h ht hq hf h0 hl
  · exact wmakeYes h ht hq hf (by omega) n4 hl

set_option maxRecDepth 100000 in
set_option maxHeartbeats 4000000 in
theorem wq6 {W0 W : World} {b : Nat} {ws : List ByteArray} {q : PQuery} {vs vc vi vp : Value} (h : WI W0 b ws W) (ht : Tab W0) (hq : QSees W0 q vs vc vi vp) (hf : QFits q) (n1 : q.spots.length ≤ 6) (n2 : q.conds.length ≤ 6) (n3 : q.items.length ≤ 6) (n4 : q.pairs.length ≤ 6) (hl : ws.length ≤ 100) (hk : q.kind = 6) :
    Calls Tryz.prog 53 #[.pointer (some ⟨b, 0, none⟩), .agg (qC q vs vc vi vp)] W fun e W' => e = .returned (.tuple #[]) ∧ WI W0 b (ws ++ queryW q) W' ∧ FrW W W' := by
  have hu := And.intro ht (And.intro n1 (And.intro n2 (And.intro n3 n4)))
  clear hu
  obtain ⟨aos, cas, rfl, hcas⟩ := sees_slice (l := q.spots) hq.rs
  obtain ⟨aoc, cac, rfl, hcac⟩ := sees_slice (l := q.conds) hq.rc
  obtain ⟨aoi, cai, rfl, hcai⟩ := sees_slice (l := q.items) hq.rt
  obtain ⟨aop, cap, rfl, hcap⟩ := sees_slice (l := q.pairs) hq.rp
  have HQS := Lib.hid hq
  have HQF := Lib.hid hf
  clear hq hf hcas hcac hcai hcap
  have HE : Hid (queryW q = [kCALL, q.name]) := by show _ = _; unfold queryW; rw [if_pos hk]
  have hk6 : (q.kind == 6) = true := by rw [hk]; rfl
  clear hk
  have HI0 := Lib.hid (h.alloc (.cells (qC q (.slice aos q.spots.length cas) (.slice aoc q.conds.length cac) (.slice aoi q.items.length cai) (.slice aop q.pairs.length cap)) 29))
  have HX0 := Lib.hid (Loc.new W (qC q (.slice aos q.spots.length cas) (.slice aoc q.conds.length cac) (.slice aoi q.items.length cai) (.slice aop q.pairs.length cap)) 29)
  have F0 : Hid (FrW W (W.alloc (.cells (qC q (.slice aos q.spots.length cas) (.slice aoc q.conds.length cac) (.slice aoi q.items.length cai) (.slice aop q.pairs.length cap)) 29))) := (FrW.refl W).alloc _
  clear h
  go_enter Tryz.func53, Tryz.ntmps53
  go_upto_region 1 with fail
  obtain ⟨X, hX⟩ : ∃ X, X = W.heap.size := ⟨_, rfl⟩
  rw [← hX] at HX0 ⊢
  clear hX
  generalize W.alloc (.cells (qC q (.slice aos q.spots.length cas) (.slice aoc q.conds.length cac) (.slice aoi q.items.length cai) (.slice aop q.pairs.length cap)) 29) = W0_ at HI0 HX0 F0 ⊢
  have c0_0 : W0_.cell? ⟨X, 0, none⟩ = some (.int .i64 q.kind) := (HX0.out.cell 0).trans rfl
  have c0_8 : W0_.cell? ⟨X, 8, none⟩ = some (.string q.name) := (HX0.out.cell 8).trans rfl
  have HA := Lib.hid (HI0.out.alloc (.cells #[.string ⟨#[67, 65, 76, 76]⟩, .string q.name] 9))
  have HG := Lib.hid (Loc.new W0_ #[.string ⟨#[67, 65, 76, 76]⟩, .string q.name] 9)
  go_wp2_with fail
  refine (add_ (m := 2) (new := [⟨#[67, 65, 76, 76]⟩, q.name]) HA.out HG.out rfl rfl (by omega) (by simp; omega)).mono ?_
  rintro e W1_ ⟨rfl, h1, f1⟩
  have HI1 := Lib.hid h1
  have HX1 := Lib.hid (f1 X _ _ (HX0.out.alloc _) (by decide) (by decide))
  have F1 := Lib.hid ((F0.out.alloc _).trans f1)
  clear c0_0 c0_8
  clear h1 f1 HI0 HX0 F0 HA HG
  go_wp2_with fail
  (try simp only [Exit.inBlock, Exit.then]); refine bodyPost_ret (results_none rfl _ _ _) rfl ?_
  exact ⟨rfl, by rw [HE.out]; exact HI1.out, F1.out⟩

set_option maxRecDepth 100000 in
set_option maxHeartbeats 4000000 in
theorem wq5 {W0 W : World} {b : Nat} {ws : List ByteArray} {q : PQuery} {vs vc vi vp : Value} (h : WI W0 b ws W) (ht : Tab W0) (hq : QSees W0 q vs vc vi vp) (hf : QFits q) (n1 : q.spots.length ≤ 6) (n2 : q.conds.length ≤ 6) (n3 : q.items.length ≤ 6) (n4 : q.pairs.length ≤ 6) (hl : ws.length ≤ 100) (hk : q.kind = 5) :
    Calls Tryz.prog 53 #[.pointer (some ⟨b, 0, none⟩), .agg (qC q vs vc vi vp)] W fun e W' => e = .returned (.tuple #[]) ∧ WI W0 b (ws ++ queryW q) W' ∧ FrW W W' := by
  have hu := And.intro ht (And.intro n1 (And.intro n2 (And.intro n3 n4)))
  clear hu
  obtain ⟨aos, cas, rfl, hcas⟩ := sees_slice (l := q.spots) hq.rs
  obtain ⟨aoc, cac, rfl, hcac⟩ := sees_slice (l := q.conds) hq.rc
  obtain ⟨aoi, cai, rfl, hcai⟩ := sees_slice (l := q.items) hq.rt
  obtain ⟨aop, cap, rfl, hcap⟩ := sees_slice (l := q.pairs) hq.rp
  have HQS := Lib.hid hq
  have HQF := Lib.hid hf
  clear hq hf hcas hcac hcai hcap
  have HE : Hid (queryW q = makeW q) := by show _ = _; unfold queryW; rw [if_neg (by omega), if_pos hk]
  have hk6 : (q.kind == 6) = false := by rw [hk]; rfl
  have hk5 : (q.kind == 5) = true := by rw [hk]; rfl
  clear hk
  have HI0 := Lib.hid (h.alloc (.cells (qC q (.slice aos q.spots.length cas) (.slice aoc q.conds.length cac) (.slice aoi q.items.length cai) (.slice aop q.pairs.length cap)) 29))
  have HX0 := Lib.hid (Loc.new W (qC q (.slice aos q.spots.length cas) (.slice aoc q.conds.length cac) (.slice aoi q.items.length cai) (.slice aop q.pairs.length cap)) 29)
  have F0 : Hid (FrW W (W.alloc (.cells (qC q (.slice aos q.spots.length cas) (.slice aoc q.conds.length cac) (.slice aoi q.items.length cai) (.slice aop q.pairs.length cap)) 29))) := (FrW.refl W).alloc _
  clear h
  go_enter Tryz.func53, Tryz.ntmps53
  go_upto_region 1 with fail
  obtain ⟨X, hX⟩ : ∃ X, X = W.heap.size := ⟨_, rfl⟩
  rw [← hX] at HX0 ⊢
  clear hX
  generalize W.alloc (.cells (qC q (.slice aos q.spots.length cas) (.slice aoc q.conds.length cac) (.slice aoi q.items.length cai) (.slice aop q.pairs.length cap)) 29) = W0_ at HI0 HX0 F0 ⊢
  have c0_0 : W0_.cell? ⟨X, 0, none⟩ = some (.int .i64 q.kind) := (HX0.out.cell 0).trans rfl
  go_upto_region 5 with fail
  refine wp_region_lit ?_
  refine wpList_move rfl rfl ?_
  refine wpList_load_mid rfl 29 _ rfl X 0 rfl (qC q (.slice aos q.spots.length cas) (.slice aoc q.conds.length cac) (.slice aoi q.items.length cai) (.slice aop q.pairs.length cap)).toList _ HX0.out.range Tryz.underlying29 rfl (by rw [Tryz.sizeQuery]; rfl) ?_
  go_wp2_with fail
  refine (wmake (q := q) HI0.out ht HQS.out HQF.out n4 (by omega)).mono ?_
  rintro e W1_ ⟨rfl, h1, f1⟩
  have HI1 := Lib.hid h1
  have HX1 := Lib.hid (f1 X _ _ HX0.out (by decide) (by decide))
  have F1 := Lib.hid (F0.out.trans f1)
  clear h1 f1 HI0 HX0 F0
  clear c0_0
  go_wp2_with fail
  (try simp only [Exit.inBlock, Exit.then]); refine bodyPost_ret (results_none rfl _ _ _) rfl ?_
  exact ⟨rfl, by rw [HE.out]; exact HI1.out, F1.out⟩

set_option maxRecDepth 100000 in
set_option maxHeartbeats 4000000 in
theorem wq1 {W0 W : World} {b : Nat} {ws : List ByteArray} {q : PQuery} {vs vc vi vp : Value} (h : WI W0 b ws W) (ht : Tab W0) (hq : QSees W0 q vs vc vi vp) (hf : QFits q) (n1 : q.spots.length ≤ 6) (n2 : q.conds.length ≤ 6) (n3 : q.items.length ≤ 6) (n4 : q.pairs.length ≤ 6) (hl : ws.length ≤ 100) (hk : q.kind = 1) :
    Calls Tryz.prog 53 #[.pointer (some ⟨b, 0, none⟩), .agg (qC q vs vc vi vp)] W fun e W' => e = .returned (.tuple #[]) ∧ WI W0 b (ws ++ queryW q) W' ∧ FrW W W' := by
  have hu := And.intro ht (And.intro n1 (And.intro n2 (And.intro n3 n4)))
  clear hu
  obtain ⟨aos, cas, rfl, hcas⟩ := sees_slice (l := q.spots) hq.rs
  obtain ⟨aoc, cac, rfl, hcac⟩ := sees_slice (l := q.conds) hq.rc
  obtain ⟨aoi, cai, rfl, hcai⟩ := sees_slice (l := q.items) hq.rt
  obtain ⟨aop, cap, rfl, hcap⟩ := sees_slice (l := q.pairs) hq.rp
  have HQS := Lib.hid hq
  have HQF := Lib.hid hf
  clear hq hf hcas hcac hcai hcap
  have HE : Hid (queryW q = matchW q ++ readW q) := by show _ = _; unfold queryW actW; rw [if_neg (by omega), if_neg (by omega), if_pos hk]
  have hml : (matchW q).length ≤ 121 := by
    unfold matchW
    have := gatherW_len spotW 12 spotW_len q.spots true
    have := gatherW_len condW 8 condW_len q.conds true
    simp only [List.length_append, List.length_cons]
    omega
  have hk6 : (q.kind == 6) = false := by rw [hk]; rfl
  have hk5 : (q.kind == 5) = false := by rw [hk]; rfl
  have hk1 : (q.kind == 1) = true := by rw [hk]; rfl
  clear hk
  have HI0 := Lib.hid (h.alloc (.cells (qC q (.slice aos q.spots.length cas) (.slice aoc q.conds.length cac) (.slice aoi q.items.length cai) (.slice aop q.pairs.length cap)) 29))
  have HX0 := Lib.hid (Loc.new W (qC q (.slice aos q.spots.length cas) (.slice aoc q.conds.length cac) (.slice aoi q.items.length cai) (.slice aop q.pairs.length cap)) 29)
  have F0 : Hid (FrW W (W.alloc (.cells (qC q (.slice aos q.spots.length cas) (.slice aoc q.conds.length cac) (.slice aoi q.items.length cai) (.slice aop q.pairs.length cap)) 29))) := (FrW.refl W).alloc _
  clear h
  go_enter Tryz.func53, Tryz.ntmps53
  go_upto_region 1 with fail
  obtain ⟨X, hX⟩ : ∃ X, X = W.heap.size := ⟨_, rfl⟩
  rw [← hX] at HX0 ⊢
  clear hX
  generalize W.alloc (.cells (qC q (.slice aos q.spots.length cas) (.slice aoc q.conds.length cac) (.slice aoi q.items.length cai) (.slice aop q.pairs.length cap)) 29) = W0_ at HI0 HX0 F0 ⊢
  have c0_0 : W0_.cell? ⟨X, 0, none⟩ = some (.int .i64 q.kind) := (HX0.out.cell 0).trans rfl
  go_upto_region 6 with fail
  refine wp_region_lit ?_
  refine wpList_move rfl rfl ?_
  refine wpList_load_mid rfl 29 _ rfl X 0 rfl (qC q (.slice aos q.spots.length cas) (.slice aoc q.conds.length cac) (.slice aoi q.items.length cai) (.slice aop q.pairs.length cap)).toList _ HX0.out.range Tryz.underlying29 rfl (by rw [Tryz.sizeQuery]; rfl) ?_
  go_wp2_with fail
  refine (wmatch (q := q) HI0.out ht HQS.out HQF.out n1 n2 (by omega)).mono ?_
  rintro e W1_ ⟨rfl, h1, f1⟩
  have HI1 := Lib.hid h1
  have HX1 := Lib.hid (f1 X _ _ HX0.out (by decide) (by decide))
  have F1 := Lib.hid (F0.out.trans f1)
  clear h1 f1 HI0 HX0 F0
  clear c0_0
  have c1_0 : W1_.cell? ⟨X, 0, none⟩ = some (.int .i64 q.kind) := (HX1.out.cell 0).trans rfl
  go_upto_region 9 with fail
  refine wp_region_lit ?_
  refine wpList_move rfl rfl ?_
  refine wpList_load_mid rfl 29 _ rfl X 0 rfl (qC q (.slice aos q.spots.length cas) (.slice aoc q.conds.length cac) (.slice aoi q.items.length cai) (.slice aop q.pairs.length cap)).toList _ HX1.out.range Tryz.underlying29 rfl (by rw [Tryz.sizeQuery]; rfl) ?_
  go_wp2_with fail
  refine (wread (q := q) HI1.out ht HQS.out HQF.out n3 (by rw [List.length_append]; omega)).mono ?_
  rintro e W2_ ⟨rfl, h1, f1⟩
  have HI2 := Lib.hid h1
  have HX2 := Lib.hid (f1 X _ _ HX1.out (by decide) (by decide))
  have F2 := Lib.hid (F1.out.trans f1)
  clear h1 f1 HI1 HX1 F1
  clear c1_0
  go_wp2_with fail
  go_end0
  exact ⟨rfl, by rw [HE.out, ← List.append_assoc]; exact HI2.out, F2.out⟩

set_option maxRecDepth 100000 in
set_option maxHeartbeats 4000000 in
theorem wq2 {W0 W : World} {b : Nat} {ws : List ByteArray} {q : PQuery} {vs vc vi vp : Value} (h : WI W0 b ws W) (ht : Tab W0) (hq : QSees W0 q vs vc vi vp) (hf : QFits q) (n1 : q.spots.length ≤ 6) (n2 : q.conds.length ≤ 6) (n3 : q.items.length ≤ 6) (n4 : q.pairs.length ≤ 6) (hl : ws.length ≤ 100) (hk : q.kind = 2) :
    Calls Tryz.prog 53 #[.pointer (some ⟨b, 0, none⟩), .agg (qC q vs vc vi vp)] W fun e W' => e = .returned (.tuple #[]) ∧ WI W0 b (ws ++ queryW q) W' ∧ FrW W W' := by
  have hu := And.intro ht (And.intro n1 (And.intro n2 (And.intro n3 n4)))
  clear hu
  obtain ⟨aos, cas, rfl, hcas⟩ := sees_slice (l := q.spots) hq.rs
  obtain ⟨aoc, cac, rfl, hcac⟩ := sees_slice (l := q.conds) hq.rc
  obtain ⟨aoi, cai, rfl, hcai⟩ := sees_slice (l := q.items) hq.rt
  obtain ⟨aop, cap, rfl, hcap⟩ := sees_slice (l := q.pairs) hq.rp
  have HQS := Lib.hid hq
  have HQF := Lib.hid hf
  clear hq hf hcas hcac hcai hcap
  have HE : Hid (queryW q = matchW q ++ ([kSET, q.name, mDot, q.key, mEq] ++ termW q.value)) := by show _ = _; unfold queryW actW; rw [if_neg (by omega), if_neg (by omega), if_neg (by omega), if_pos hk]
  have hml : (matchW q).length ≤ 121 := by
    unfold matchW
    have := gatherW_len spotW 12 spotW_len q.spots true
    have := gatherW_len condW 8 condW_len q.conds true
    simp only [List.length_append, List.length_cons]
    omega
  have hk6 : (q.kind == 6) = false := by rw [hk]; rfl
  have hk5 : (q.kind == 5) = false := by rw [hk]; rfl
  have hk1 : (q.kind == 1) = false := by rw [hk]; rfl
  have hk2 : (q.kind == 2) = true := by rw [hk]; rfl
  clear hk
  have HI0 := Lib.hid (h.alloc (.cells (qC q (.slice aos q.spots.length cas) (.slice aoc q.conds.length cac) (.slice aoi q.items.length cai) (.slice aop q.pairs.length cap)) 29))
  have HX0 := Lib.hid (Loc.new W (qC q (.slice aos q.spots.length cas) (.slice aoc q.conds.length cac) (.slice aoi q.items.length cai) (.slice aop q.pairs.length cap)) 29)
  have F0 : Hid (FrW W (W.alloc (.cells (qC q (.slice aos q.spots.length cas) (.slice aoc q.conds.length cac) (.slice aoi q.items.length cai) (.slice aop q.pairs.length cap)) 29))) := (FrW.refl W).alloc _
  clear h
  go_enter Tryz.func53, Tryz.ntmps53
  go_upto_region 1 with fail
  obtain ⟨X, hX⟩ : ∃ X, X = W.heap.size := ⟨_, rfl⟩
  rw [← hX] at HX0 ⊢
  clear hX
  generalize W.alloc (.cells (qC q (.slice aos q.spots.length cas) (.slice aoc q.conds.length cac) (.slice aoi q.items.length cai) (.slice aop q.pairs.length cap)) 29) = W0_ at HI0 HX0 F0 ⊢
  have c0_0 : W0_.cell? ⟨X, 0, none⟩ = some (.int .i64 q.kind) := (HX0.out.cell 0).trans rfl
  go_upto_region 6 with fail
  refine wp_region_lit ?_
  refine wpList_move rfl rfl ?_
  refine wpList_load_mid rfl 29 _ rfl X 0 rfl (qC q (.slice aos q.spots.length cas) (.slice aoc q.conds.length cac) (.slice aoi q.items.length cai) (.slice aop q.pairs.length cap)).toList _ HX0.out.range Tryz.underlying29 rfl (by rw [Tryz.sizeQuery]; rfl) ?_
  go_wp2_with fail
  refine (wmatch (q := q) HI0.out ht HQS.out HQF.out n1 n2 (by omega)).mono ?_
  rintro e W1_ ⟨rfl, h1, f1⟩
  have HI1 := Lib.hid h1
  have HX1 := Lib.hid (f1 X _ _ HX0.out (by decide) (by decide))
  have F1 := Lib.hid (F0.out.trans f1)
  clear h1 f1 HI0 HX0 F0
  clear c0_0
  have c1_0 : W1_.cell? ⟨X, 0, none⟩ = some (.int .i64 q.kind) := (HX1.out.cell 0).trans rfl
  have c1_8 : W1_.cell? ⟨X, 8, none⟩ = some (.string q.name) := (HX1.out.cell 8).trans rfl
  have c1_9 : W1_.cell? ⟨X, 9, none⟩ = some (.string q.key) := (HX1.out.cell 9).trans rfl
  have HA := Lib.hid (HI1.out.alloc (.cells #[.string ⟨#[83, 69, 84]⟩, .string q.name, .string ⟨#[46]⟩, .string q.key, .string ⟨#[61]⟩] 9))
  have HG := Lib.hid (Loc.new W1_ #[.string ⟨#[83, 69, 84]⟩, .string q.name, .string ⟨#[46]⟩, .string q.key, .string ⟨#[61]⟩] 9)
  go_wp2_with fail
  refine (add_ (m := 5) (new := [⟨#[83, 69, 84]⟩, q.name, ⟨#[46]⟩, q.key, ⟨#[61]⟩]) HA.out HG.out rfl rfl (by omega) (by simp only [List.length_append]; omega)).mono ?_
  rintro e W2_ ⟨rfl, h1, f1⟩
  have HI2 := Lib.hid h1
  have HX2 := Lib.hid (f1 X _ _ (HX1.out.alloc _) (by decide) (by decide))
  have F2 := Lib.hid ((F1.out.alloc _).trans f1)
  clear c1_0 c1_8 c1_9
  clear h1 f1 HI1 HX1 F1 HA HG
  have c2_10 : W2_.cell? ⟨X, 10, none⟩ = some (.string q.value.name) := (HX2.out.cell 10).trans rfl
  have c2_11 : W2_.cell? ⟨X, 11, none⟩ = some (.string q.value.key) := (HX2.out.cell 11).trans rfl
  have c2_12 : W2_.cell? ⟨X, 12, none⟩ = some (.int .i64 q.value.val) := (HX2.out.cell 12).trans rfl
  go_wp2_with fail
  refine (wterm (t := q.value) HI2.out ht HQF.out.va (by simp only [List.length_append, List.length_cons, List.length_nil]; omega)).mono ?_
  rintro e W3_ ⟨rfl, h1, f1⟩
  have HI3 := Lib.hid h1
  have HX3 := Lib.hid (f1 X _ _ HX2.out (by decide) (by decide))
  have F3 := Lib.hid (F2.out.trans f1)
  clear c2_10 c2_11 c2_12
  clear h1 f1 HI2 HX2 F2
  go_wp2_with fail
  go_end0
  exact ⟨rfl, by rw [HE.out]; simp only [← List.append_assoc]; exact HI3.out, F3.out⟩

set_option maxRecDepth 100000 in
set_option maxHeartbeats 4000000 in
theorem wq3 {W0 W : World} {b : Nat} {ws : List ByteArray} {q : PQuery} {vs vc vi vp : Value} (h : WI W0 b ws W) (ht : Tab W0) (hq : QSees W0 q vs vc vi vp) (hf : QFits q) (n1 : q.spots.length ≤ 6) (n2 : q.conds.length ≤ 6) (n3 : q.items.length ≤ 6) (n4 : q.pairs.length ≤ 6) (hl : ws.length ≤ 100) (hk : q.kind = 3) :
    Calls Tryz.prog 53 #[.pointer (some ⟨b, 0, none⟩), .agg (qC q vs vc vi vp)] W fun e W' => e = .returned (.tuple #[]) ∧ WI W0 b (ws ++ queryW q) W' ∧ FrW W W' := by
  have hu := And.intro ht (And.intro n1 (And.intro n2 (And.intro n3 n4)))
  clear hu
  obtain ⟨aos, cas, rfl, hcas⟩ := sees_slice (l := q.spots) hq.rs
  obtain ⟨aoc, cac, rfl, hcac⟩ := sees_slice (l := q.conds) hq.rc
  obtain ⟨aoi, cai, rfl, hcai⟩ := sees_slice (l := q.items) hq.rt
  obtain ⟨aop, cap, rfl, hcap⟩ := sees_slice (l := q.pairs) hq.rp
  have HQS := Lib.hid hq
  have HQF := Lib.hid hf
  clear hq hf hcas hcac hcai hcap
  have HE : Hid (queryW q = matchW q ++ [kDELETE, q.name]) := by show _ = _; unfold queryW actW; rw [if_neg (by omega), if_neg (by omega), if_neg (by omega), if_neg (by omega), if_pos hk]
  have hml : (matchW q).length ≤ 121 := by
    unfold matchW
    have := gatherW_len spotW 12 spotW_len q.spots true
    have := gatherW_len condW 8 condW_len q.conds true
    simp only [List.length_append, List.length_cons]
    omega
  have hk6 : (q.kind == 6) = false := by rw [hk]; rfl
  have hk5 : (q.kind == 5) = false := by rw [hk]; rfl
  have hk1 : (q.kind == 1) = false := by rw [hk]; rfl
  have hk2 : (q.kind == 2) = false := by rw [hk]; rfl
  have hk3 : (q.kind == 3) = true := by rw [hk]; rfl
  clear hk
  have HI0 := Lib.hid (h.alloc (.cells (qC q (.slice aos q.spots.length cas) (.slice aoc q.conds.length cac) (.slice aoi q.items.length cai) (.slice aop q.pairs.length cap)) 29))
  have HX0 := Lib.hid (Loc.new W (qC q (.slice aos q.spots.length cas) (.slice aoc q.conds.length cac) (.slice aoi q.items.length cai) (.slice aop q.pairs.length cap)) 29)
  have F0 : Hid (FrW W (W.alloc (.cells (qC q (.slice aos q.spots.length cas) (.slice aoc q.conds.length cac) (.slice aoi q.items.length cai) (.slice aop q.pairs.length cap)) 29))) := (FrW.refl W).alloc _
  clear h
  go_enter Tryz.func53, Tryz.ntmps53
  go_upto_region 1 with fail
  obtain ⟨X, hX⟩ : ∃ X, X = W.heap.size := ⟨_, rfl⟩
  rw [← hX] at HX0 ⊢
  clear hX
  generalize W.alloc (.cells (qC q (.slice aos q.spots.length cas) (.slice aoc q.conds.length cac) (.slice aoi q.items.length cai) (.slice aop q.pairs.length cap)) 29) = W0_ at HI0 HX0 F0 ⊢
  have c0_0 : W0_.cell? ⟨X, 0, none⟩ = some (.int .i64 q.kind) := (HX0.out.cell 0).trans rfl
  go_upto_region 6 with fail
  refine wp_region_lit ?_
  refine wpList_move rfl rfl ?_
  refine wpList_load_mid rfl 29 _ rfl X 0 rfl (qC q (.slice aos q.spots.length cas) (.slice aoc q.conds.length cac) (.slice aoi q.items.length cai) (.slice aop q.pairs.length cap)).toList _ HX0.out.range Tryz.underlying29 rfl (by rw [Tryz.sizeQuery]; rfl) ?_
  go_wp2_with fail
  refine (wmatch (q := q) HI0.out ht HQS.out HQF.out n1 n2 (by omega)).mono ?_
  rintro e W1_ ⟨rfl, h1, f1⟩
  have HI1 := Lib.hid h1
  have HX1 := Lib.hid (f1 X _ _ HX0.out (by decide) (by decide))
  have F1 := Lib.hid (F0.out.trans f1)
  clear h1 f1 HI0 HX0 F0
  clear c0_0
  have c1_0 : W1_.cell? ⟨X, 0, none⟩ = some (.int .i64 q.kind) := (HX1.out.cell 0).trans rfl
  have c1_8 : W1_.cell? ⟨X, 8, none⟩ = some (.string q.name) := (HX1.out.cell 8).trans rfl
  have HA := Lib.hid (HI1.out.alloc (.cells #[.string ⟨#[68, 69, 76, 69, 84, 69]⟩, .string q.name] 9))
  have HG := Lib.hid (Loc.new W1_ #[.string ⟨#[68, 69, 76, 69, 84, 69]⟩, .string q.name] 9)
  go_wp2_with fail
  refine (add_ (m := 2) (new := [⟨#[68, 69, 76, 69, 84, 69]⟩, q.name]) HA.out HG.out rfl rfl (by omega) (by simp only [List.length_append]; omega)).mono ?_
  rintro e W2_ ⟨rfl, h1, f1⟩
  have HI2 := Lib.hid h1
  have HX2 := Lib.hid (f1 X _ _ (HX1.out.alloc _) (by decide) (by decide))
  have F2 := Lib.hid ((F1.out.alloc _).trans f1)
  clear c1_0 c1_8
  clear h1 f1 HI1 HX1 F1 HA HG
  go_wp2_with fail
  go_end0
  exact ⟨rfl, by rw [HE.out, ← List.append_assoc]; exact HI2.out, F2.out⟩

set_option maxRecDepth 100000 in
set_option maxHeartbeats 4000000 in
theorem wq4 {W0 W : World} {b : Nat} {ws : List ByteArray} {q : PQuery} {vs vc vi vp : Value} (h : WI W0 b ws W) (ht : Tab W0) (hq : QSees W0 q vs vc vi vp) (hf : QFits q) (n1 : q.spots.length ≤ 6) (n2 : q.conds.length ≤ 6) (n3 : q.items.length ≤ 6) (n4 : q.pairs.length ≤ 6) (hl : ws.length ≤ 100) (hk : q.kind = 4) :
    Calls Tryz.prog 53 #[.pointer (some ⟨b, 0, none⟩), .agg (qC q vs vc vi vp)] W fun e W' => e = .returned (.tuple #[]) ∧ WI W0 b (ws ++ queryW q) W' ∧ FrW W W' := by
  have hu := And.intro ht (And.intro n1 (And.intro n2 (And.intro n3 n4)))
  clear hu
  obtain ⟨aos, cas, rfl, hcas⟩ := sees_slice (l := q.spots) hq.rs
  obtain ⟨aoc, cac, rfl, hcac⟩ := sees_slice (l := q.conds) hq.rc
  obtain ⟨aoi, cai, rfl, hcai⟩ := sees_slice (l := q.items) hq.rt
  obtain ⟨aop, cap, rfl, hcap⟩ := sees_slice (l := q.pairs) hq.rp
  have HQS := Lib.hid hq
  have HQF := Lib.hid hf
  clear hq hf hcas hcac hcai hcap
  have HE : Hid (queryW q = matchW q ++ [kCREATE, mOpen, q.name, mClose, mTo, q.type, mArrow, mOpen, q.to, mClose]) := by show _ = _; unfold queryW actW; rw [if_neg (by omega), if_neg (by omega), if_neg (by omega), if_neg (by omega), if_neg (by omega), if_pos hk]
  have hml : (matchW q).length ≤ 121 := by
    unfold matchW
    have := gatherW_len spotW 12 spotW_len q.spots true
    have := gatherW_len condW 8 condW_len q.conds true
    simp only [List.length_append, List.length_cons]
    omega
  have hk6 : (q.kind == 6) = false := by rw [hk]; rfl
  have hk5 : (q.kind == 5) = false := by rw [hk]; rfl
  have hk1 : (q.kind == 1) = false := by rw [hk]; rfl
  have hk2 : (q.kind == 2) = false := by rw [hk]; rfl
  have hk3 : (q.kind == 3) = false := by rw [hk]; rfl
  have hk4 : (q.kind == 4) = true := by rw [hk]; rfl
  clear hk
  have HI0 := Lib.hid (h.alloc (.cells (qC q (.slice aos q.spots.length cas) (.slice aoc q.conds.length cac) (.slice aoi q.items.length cai) (.slice aop q.pairs.length cap)) 29))
  have HX0 := Lib.hid (Loc.new W (qC q (.slice aos q.spots.length cas) (.slice aoc q.conds.length cac) (.slice aoi q.items.length cai) (.slice aop q.pairs.length cap)) 29)
  have F0 : Hid (FrW W (W.alloc (.cells (qC q (.slice aos q.spots.length cas) (.slice aoc q.conds.length cac) (.slice aoi q.items.length cai) (.slice aop q.pairs.length cap)) 29))) := (FrW.refl W).alloc _
  clear h
  go_enter Tryz.func53, Tryz.ntmps53
  go_upto_region 1 with fail
  obtain ⟨X, hX⟩ : ∃ X, X = W.heap.size := ⟨_, rfl⟩
  rw [← hX] at HX0 ⊢
  clear hX
  generalize W.alloc (.cells (qC q (.slice aos q.spots.length cas) (.slice aoc q.conds.length cac) (.slice aoi q.items.length cai) (.slice aop q.pairs.length cap)) 29) = W0_ at HI0 HX0 F0 ⊢
  have c0_0 : W0_.cell? ⟨X, 0, none⟩ = some (.int .i64 q.kind) := (HX0.out.cell 0).trans rfl
  go_upto_region 6 with fail
  refine wp_region_lit ?_
  refine wpList_move rfl rfl ?_
  refine wpList_load_mid rfl 29 _ rfl X 0 rfl (qC q (.slice aos q.spots.length cas) (.slice aoc q.conds.length cac) (.slice aoi q.items.length cai) (.slice aop q.pairs.length cap)).toList _ HX0.out.range Tryz.underlying29 rfl (by rw [Tryz.sizeQuery]; rfl) ?_
  go_wp2_with fail
  refine (wmatch (q := q) HI0.out ht HQS.out HQF.out n1 n2 (by omega)).mono ?_
  rintro e W1_ ⟨rfl, h1, f1⟩
  have HI1 := Lib.hid h1
  have HX1 := Lib.hid (f1 X _ _ HX0.out (by decide) (by decide))
  have F1 := Lib.hid (F0.out.trans f1)
  clear h1 f1 HI0 HX0 F0
  clear c0_0
  have c1_0 : W1_.cell? ⟨X, 0, none⟩ = some (.int .i64 q.kind) := (HX1.out.cell 0).trans rfl
  have c1_8 : W1_.cell? ⟨X, 8, none⟩ = some (.string q.name) := (HX1.out.cell 8).trans rfl
  have c1_13 : W1_.cell? ⟨X, 13, none⟩ = some (.string q.type) := (HX1.out.cell 13).trans rfl
  have c1_14 : W1_.cell? ⟨X, 14, none⟩ = some (.string q.to) := (HX1.out.cell 14).trans rfl
  have HA := Lib.hid (HI1.out.alloc (.cells #[.string ⟨#[67, 82, 69, 65, 84, 69]⟩, .string ⟨#[40]⟩, .string q.name, .string ⟨#[41]⟩, .string ⟨#[45, 91]⟩, .string q.type, .string ⟨#[93, 45, 62]⟩, .string ⟨#[40]⟩, .string q.to, .string ⟨#[41]⟩] 9))
  have HG := Lib.hid (Loc.new W1_ #[.string ⟨#[67, 82, 69, 65, 84, 69]⟩, .string ⟨#[40]⟩, .string q.name, .string ⟨#[41]⟩, .string ⟨#[45, 91]⟩, .string q.type, .string ⟨#[93, 45, 62]⟩, .string ⟨#[40]⟩, .string q.to, .string ⟨#[41]⟩] 9)
  go_wp2_with fail
  refine (add_ (m := 10) (new := [⟨#[67, 82, 69, 65, 84, 69]⟩, ⟨#[40]⟩, q.name, ⟨#[41]⟩, ⟨#[45, 91]⟩, q.type, ⟨#[93, 45, 62]⟩, ⟨#[40]⟩, q.to, ⟨#[41]⟩]) HA.out HG.out rfl rfl (by omega) (by simp only [List.length_append]; omega)).mono ?_
  rintro e W2_ ⟨rfl, h1, f1⟩
  have HI2 := Lib.hid h1
  have HX2 := Lib.hid (f1 X _ _ (HX1.out.alloc _) (by decide) (by decide))
  have F2 := Lib.hid ((F1.out.alloc _).trans f1)
  clear c1_0 c1_8 c1_13 c1_14
  clear h1 f1 HI1 HX1 F1 HA HG
  go_wp2_with fail
  go_end0
  exact ⟨rfl, by rw [HE.out, ← List.append_assoc]; exact HI2.out, F2.out⟩

set_option maxRecDepth 100000 in
set_option maxHeartbeats 4000000 in
theorem wq0 {W0 W : World} {b : Nat} {ws : List ByteArray} {q : PQuery} {vs vc vi vp : Value} (h : WI W0 b ws W) (ht : Tab W0) (hq : QSees W0 q vs vc vi vp) (hf : QFits q) (n1 : q.spots.length ≤ 6) (n2 : q.conds.length ≤ 6) (n3 : q.items.length ≤ 6) (n4 : q.pairs.length ≤ 6) (hl : ws.length ≤ 100) (g6 : q.kind ≠ 6) (g5 : q.kind ≠ 5) (g1 : q.kind ≠ 1) (g2 : q.kind ≠ 2) (g3 : q.kind ≠ 3) (g4 : q.kind ≠ 4) :
    Calls Tryz.prog 53 #[.pointer (some ⟨b, 0, none⟩), .agg (qC q vs vc vi vp)] W fun e W' => e = .returned (.tuple #[]) ∧ WI W0 b (ws ++ queryW q) W' ∧ FrW W W' := by
  have hu := And.intro ht (And.intro n1 (And.intro n2 (And.intro n3 n4)))
  clear hu
  obtain ⟨aos, cas, rfl, hcas⟩ := sees_slice (l := q.spots) hq.rs
  obtain ⟨aoc, cac, rfl, hcac⟩ := sees_slice (l := q.conds) hq.rc
  obtain ⟨aoi, cai, rfl, hcai⟩ := sees_slice (l := q.items) hq.rt
  obtain ⟨aop, cap, rfl, hcap⟩ := sees_slice (l := q.pairs) hq.rp
  have HQS := Lib.hid hq
  have HQF := Lib.hid hf
  clear hq hf hcas hcac hcai hcap
  have HE : Hid (queryW q = matchW q) := by show _ = _; unfold queryW actW; rw [if_neg g6, if_neg g5, if_neg g1, if_neg g2, if_neg g3, if_neg g4, List.append_nil]
  have hk6 : (q.kind == 6) = false := by simpa using g6
  have hk5 : (q.kind == 5) = false := by simpa using g5
  have hk1 : (q.kind == 1) = false := by simpa using g1
  have hk2 : (q.kind == 2) = false := by simpa using g2
  have hk3 : (q.kind == 3) = false := by simpa using g3
  have hk4 : (q.kind == 4) = false := by simpa using g4
  clear g6 g5 g1 g2 g3 g4
  have HI0 := Lib.hid (h.alloc (.cells (qC q (.slice aos q.spots.length cas) (.slice aoc q.conds.length cac) (.slice aoi q.items.length cai) (.slice aop q.pairs.length cap)) 29))
  have HX0 := Lib.hid (Loc.new W (qC q (.slice aos q.spots.length cas) (.slice aoc q.conds.length cac) (.slice aoi q.items.length cai) (.slice aop q.pairs.length cap)) 29)
  have F0 : Hid (FrW W (W.alloc (.cells (qC q (.slice aos q.spots.length cas) (.slice aoc q.conds.length cac) (.slice aoi q.items.length cai) (.slice aop q.pairs.length cap)) 29))) := (FrW.refl W).alloc _
  clear h
  go_enter Tryz.func53, Tryz.ntmps53
  go_upto_region 1 with fail
  obtain ⟨X, hX⟩ : ∃ X, X = W.heap.size := ⟨_, rfl⟩
  rw [← hX] at HX0 ⊢
  clear hX
  generalize W.alloc (.cells (qC q (.slice aos q.spots.length cas) (.slice aoc q.conds.length cac) (.slice aoi q.items.length cai) (.slice aop q.pairs.length cap)) 29) = W0_ at HI0 HX0 F0 ⊢
  have c0_0 : W0_.cell? ⟨X, 0, none⟩ = some (.int .i64 q.kind) := (HX0.out.cell 0).trans rfl
  go_upto_region 6 with fail
  refine wp_region_lit ?_
  refine wpList_move rfl rfl ?_
  refine wpList_load_mid rfl 29 _ rfl X 0 rfl (qC q (.slice aos q.spots.length cas) (.slice aoc q.conds.length cac) (.slice aoi q.items.length cai) (.slice aop q.pairs.length cap)).toList _ HX0.out.range Tryz.underlying29 rfl (by rw [Tryz.sizeQuery]; rfl) ?_
  go_wp2_with fail
  refine (wmatch (q := q) HI0.out ht HQS.out HQF.out n1 n2 (by omega)).mono ?_
  rintro e W1_ ⟨rfl, h1, f1⟩
  have HI1 := Lib.hid h1
  have HX1 := Lib.hid (f1 X _ _ HX0.out (by decide) (by decide))
  have F1 := Lib.hid (F0.out.trans f1)
  clear h1 f1 HI0 HX0 F0
  clear c0_0
  have c1_0 : W1_.cell? ⟨X, 0, none⟩ = some (.int .i64 q.kind) := (HX1.out.cell 0).trans rfl
  go_wp2_with fail
  go_end0
  exact ⟨rfl, by rw [HE.out]; exact HI1.out, F1.out⟩

theorem wquery {W0 W : World} {b : Nat} {ws : List ByteArray} {q : PQuery} {vs vc vi vp : Value} (h : WI W0 b ws W) (ht : Tab W0) (hq : QSees W0 q vs vc vi vp) (hf : QFits q) (n1 : q.spots.length ≤ 6) (n2 : q.conds.length ≤ 6) (n3 : q.items.length ≤ 6) (n4 : q.pairs.length ≤ 6) (hl : ws.length ≤ 100) :
    Calls Tryz.prog 53 #[.pointer (some ⟨b, 0, none⟩), .agg (qC q vs vc vi vp)] W fun e W' => e = .returned (.tuple #[]) ∧ WI W0 b (ws ++ queryW q) W' ∧ FrW W W' := by
  by_cases g6 : q.kind = 6
  · exact wq6 h ht hq hf n1 n2 n3 n4 hl g6
  by_cases g5 : q.kind = 5
  · exact wq5 h ht hq hf n1 n2 n3 n4 hl g5
  by_cases g1 : q.kind = 1
  · exact wq1 h ht hq hf n1 n2 n3 n4 hl g1
  by_cases g2 : q.kind = 2
  · exact wq2 h ht hq hf n1 n2 n3 n4 hl g2
  by_cases g3 : q.kind = 3
  · exact wq3 h ht hq hf n1 n2 n3 n4 hl g3
  by_cases g4 : q.kind = 4
  · exact wq4 h ht hq hf n1 n2 n3 n4 hl g4
  exact wq0 h ht hq hf n1 n2 n3 n4 hl g6 g5 g1 g2 g3 g4

end Go.Proofs.YtobgbmfpicmpcaaGreatDoor

/- The program's same, and hasTooMany. -/
namespace Go.Proofs.YtobgbmfpicmpcaaGreatDoor
open Go.RowKit

theorem Sees.drew {w : World} {k n : Nat} {v : Value} {xs : List Value} (h : Sees w k v n xs) (d : Nat) : Sees (w.drewN d) k v n xs := h
theorem ne_bool {a b : Bool} (h : a ≠ b) : (a == b) = false := by simpa using h
/-- Two queries of which a field parts. -/
theorem eqQ_no {a b : PQuery} (h : a ≠ b) : eqQ a b = false := by
  cases he : eqQ a b
  · rfl
  · exact absurd (Pure.eqQ_iff.1 he) h

end Go.Proofs.YtobgbmfpicmpcaaGreatDoor

