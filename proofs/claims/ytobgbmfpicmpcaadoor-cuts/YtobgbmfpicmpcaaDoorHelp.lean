/- The law's own helpers: two lists of the same tokens are the same; a list's owner leaves four lists of marks; lists of marks are kept. -/
import Derived.Test.YtobgbmfpicmpcaaDoorRowsOf
import Derived.Deep.QuietTactic
import Derived.BigQuiet
import Derived.Lib.Hide
namespace Go.Proofs.YtobgbmfpicmpcaaDoor
open Go.RowKit

/-- What a slice that owns tokens looks like to a walk that reads it. -/
theorem own_view {w : World} {B : Nat} {v : Value} {ts : List Tok} (h : w.ownsRow B 27 3 v ts.length (tokCells ts)) :
    ∃ ao cap, v = .slice ao ts.length cap ∧ ts.length ≤ cap ∧ ∀ k, (hk : k < ts.length) → ∃ g, ao = some ⟨g, 0, none⟩ ∧ w.cell? ⟨g, k * 3, none⟩ = some (.int .i64 ts[k].kind) ∧ w.cell? ⟨g, k * 3 + 1, none⟩ = some (.string ts[k].text) ∧ w.cell? ⟨g, k * 3 + 2, none⟩ = some (.int .i64 ts[k].val) := by
  rcases h.2 with ⟨hv, h0⟩ | ⟨g, cap, cur, hv, hb, hg, hnc, _⟩
  · exact ⟨none, 0, by rw [hv, h0], by omega, fun k hk => by omega⟩
  · rw [hv] at h
    exact ⟨some ⟨g, 0, none⟩, cap, hv, hnc, fun k hk => ⟨g, rfl, own_tok h rfl k hk⟩⟩

set_option maxRecDepth 100000 in
set_option maxHeartbeats 1000000 in
theorem same {w : World} {B1 B2 : Nat} {v1 v2 : Value} {ts : List Tok} (hn : ts.length ≤ 2000) (h1 : w.ownsRow B1 27 3 v1 ts.length (tokCells ts)) (h2 : w.ownsRow B2 27 3 v2 ts.length (tokCells ts)) :
    Calls Tryd.prog 6 #[v1, v2] w fun e w' => e = .returned (.bool true) ∧ ∃ d, w' = w.drewN d := by
  obtain ⟨a1, c1, rfl, hc1, V1⟩ := own_view h1
  obtain ⟨a2, c2, rfl, hc2, V2⟩ := own_view h2
  clear h1 h2
  obtain ⟨n, hnn⟩ : ∃ n, n = ts.length := ⟨_, rfl⟩
  rw [← hnn] at hn hc1 hc2 ⊢
  have HN : Hid (n = ts.length) := hnn
  have HV1 := Lib.hid V1
  have HV2 := Lib.hid V2
  clear V1 V2 hnn
  go_enter Tryd.func6, Tryd.ntmps6
  go_wp2
  go_loopw [5] (fun i wr => ∃ k : Nat, k ≤ n ∧ i = .int .i64 k ∧ ∃ d, wr = w.drewN d) (fun i _ => n - (intOf i).toNat)
  case atStart => exact ⟨0, by omega, rfl, 0, rfl⟩
  case round =>
    obtain ⟨k, hk, rfl, d, rfl⟩ := hrel
    by_cases hlt : k < n
    · have hlt' : k < ts.length := by have := HN.out; omega
      obtain ⟨g1, rfl, x0, x1, x2⟩ := HV1.out k hlt'
      obtain ⟨g2, rfl, y0, y1, y2⟩ := HV2.out k hlt'
      generalize ts[k] = t at x0 x1 x2 y0 y1 y2
      go_wp2
      go_quiet (fail)
      go_wp2
      go_roundw
      case rel => exact ⟨k + 1, by omega, by go_num, _, rfl⟩
      case measure => simp [intOf]; omega
    · go_wp2
      go_ret
      exact ⟨rfl, d, rfl⟩

set_option maxRecDepth 100000 in
set_option maxHeartbeats 1000000 in
theorem kept {w : World} {B : Nat} {v : Value} {m : Int} (h : Owned B m w v) : Calls Tryd.prog 8 #[v, .int .i64 m] w fun e w' => e = .returned (.bool true) ∧ w' = w := by
  obtain ⟨us, ho, hus⟩ := h
  have hlen : us.length = 4 := by have := ho.1; omega
  rcases ho.2 with ⟨_, h0⟩ | ⟨g, cap, cur, rfl, hb, hg, hnc, hrest⟩
  · omega
  have hcell : ∀ k, k < 4 → ∃ ao len c, w.cell? ⟨g, k, none⟩ = some (.slice ao len c) ∧ len ≤ 2003 ∧ len ≤ c ∧ ∀ j, j < len → ∃ g', ao = some ⟨g', 0, none⟩ ∧ w.cell? ⟨g', j * 3, none⟩ = some (.int .i64 m) ∧ w.cell? ⟨g', j * 3 + 1, none⟩ = some (.string ⟨#[]⟩) ∧ w.cell? ⟨g', j * 3 + 2, none⟩ = some (.int .i64 0) := by
    intro k hk
    have hku : k < us.length := by omega
    obtain ⟨len, hle, hm⟩ := hus us[k] (List.getElem_mem hku)
    rw [← marks_length m len] at hm
    rw [show (marks m (marks m len).length) = marks m len by rw [marks_length]] at hm
    obtain ⟨ao, c, hv, hlc, V⟩ := own_view hm
    rw [marks_length] at hv hlc
    refine ⟨ao, len, c, ?_, hle, hlc, ?_⟩
    · rw [ho.cellAt k (by omega), List.getElem?_eq_getElem hku, hv]
    · intro j hj
      obtain ⟨g', e, z0, z1, z2⟩ := V j (by rw [marks_length]; exact hj)
      have : (marks m len)[j]'(by rw [marks_length]; exact hj) = mk m := by unfold marks; exact List.getElem_replicate _
      rw [this] at z0 z1 z2
      exact ⟨g', e, z0, z1, z2⟩
  have HC := Lib.hid hcell
  clear hcell ho hus hlen hg hrest us
  go_enter Tryd.func8, Tryd.ntmps8
  go_wp2
  go_loop [5] (fun i => ∃ k : Nat, k ≤ 4 ∧ i = .int .i64 k) (fun i => 4 - (intOf i).toNat)
  case atStart => exact ⟨0, by omega, rfl⟩
  case round =>
    obtain ⟨k, hk, rfl⟩ := hrel
    by_cases hlt : k < 4
    · obtain ⟨ao, len, c, hck, hle, hlc, hmk⟩ := HC.out k hlt
      have HM := Lib.hid hmk
      clear hmk
      go_wp2
      go_loop [6] (fun i => ∃ j : Nat, j ≤ len ∧ i = .int .i64 j) (fun i => len - (intOf i).toNat)
      case atStart => exact ⟨0, by omega, rfl⟩
      case round =>
        obtain ⟨j, hj, rfl⟩ := hrel
        by_cases hjl : j < len
        · obtain ⟨g', rfl, z0, z1, z2⟩ := HM.out j hjl
          go_wp2
          go_round
          case rel => exact ⟨j + 1, by omega, by go_num⟩
          case measure => simp [intOf]; omega
        · go_wp2
          go_round
          case rel => exact ⟨k + 1, by omega, by go_num⟩
          case measure => simp [intOf]; omega
    · go_wp2
      go_ret
      exact ⟨rfl, rfl⟩

theorem Tryd.info22 : (Tryd.prog.info? 22).map (fun i => (i.zero, i.size, i.bytes)) = some (some (.slice none 0 0), 1, 24) := by kernel_rfl

theorem own_round1 {w wr w2 : World} {B n k : Nat} {m : Int} {vo vg v' : Value} {us : List Value} {o : Obj} (hB : Below B w wr) (hBs : B ≤ w.heap.size) (hvo : wr.ownsRow B 22 1 vo (k + 1) us) (hus : ∀ u ∈ us, Marked B m (n + k) wr u)
    (hvg : wr.ownsRow B 27 3 vg (n + k) (tokCells (marks m (n + k)))) (hnew : w2.ownsRow B 27 3 v' (n + k + 1) (tokCells (marks m (n + k)) ++ [.int .i64 m, .string ⟨#[]⟩, .int .i64 0])) (hg : (wr.alloc o).grownBy w2 vg.ownBlock)
    (hold : w2.ownsRow B 27 3 vg (n + k) (tokCells (marks m (n + k)))) :
    Below B w w2 ∧ w2.ownsRow B 22 1 vo (k + 1) us ∧ (∀ u ∈ us, Marked B m (n + k + 1) w2 u) ∧ w2.ownsRow B 27 3 v' (n + k + 1) (tokCells (marks m (n + k + 1))) := by
  have hs := hB.size
  have hal : Below wr.heap.size wr (wr.alloc o) := (Below.refl _ _).alloc (Nat.le_refl _) o
  refine ⟨(hB.alloc (by omega) o).grown hg (by simp; omega) (fun j hj => (hvg.lt j hj).1), ?_, ?_, ?_⟩
  · exact (hvo.alloc o).kept hg (lists_ne' hvo hvg)
  · intro u hu
    exact ((hus u hu).old hal).grown (hvg.alloc o) hg hold
  · rw [← marks_succ]; exact hnew
theorem own_round2 {w w2 w3 : World} {B n k : Nat} {m : Int} {vo vo' v' : Value} {us : List Value} {o : Obj} (hB : Below B w w2) (hBs : B ≤ w.heap.size) (hvo : w2.ownsRow B 22 1 vo (k + 1) us) (hus : ∀ u ∈ us, Marked B m (n + k + 1) w2 u)
    (hvg : w2.ownsRow B 27 3 v' (n + k + 1) (tokCells (marks m (n + k + 1)))) (hnew : w3.ownsRow B 22 1 vo' (k + 1 + 1) (us ++ [v'])) (hg : (w2.alloc o).grownBy w3 vo.ownBlock) :
    Below B w w3 ∧ w3.ownsRow B 22 1 vo' (k + 1 + 1) (us ++ [v']) ∧ (∀ u ∈ us ++ [v'], Marked B m (n + (k + 1)) w3 u) ∧ w3.ownsRow B 27 3 v' (n + (k + 1)) (tokCells (marks m (n + (k + 1)))) := by
  have hs := hB.size
  have hal : Below w2.heap.size w2 (w2.alloc o) := (Below.refl _ _).alloc (Nat.le_refl _) o
  have hk : ∀ u, Marked B m (n + k + 1) w2 u → Marked B m (n + k + 1) w3 u := by
    rintro u ⟨len, hle, ho⟩
    exact ⟨len, hle, (ho.alloc o).kept hg (lists_ne hvo ho)⟩
  have hv3 : w3.ownsRow B 27 3 v' (n + k + 1) (tokCells (marks m (n + k + 1))) := (hvg.alloc o).kept hg (lists_ne hvo hvg)
  refine ⟨(hB.alloc (by omega) o).grown hg (by simp; omega) (fun j hj => (hvo.lt j hj).1), hnew, ?_, hv3⟩
  intro u hu
  rcases List.mem_append.1 hu with hu | hu
  · exact hk u (hus u hu)
  · rw [List.mem_singleton.1 hu]; exact ⟨n + k + 1, Nat.le_refl _, hv3⟩
theorem one_cell {w : World} {a : Value} {T : TypeId} : ∀ (j : Nat) (u : Value), [a][j]? = some u → (w.alloc (.cells #[a] T)).cell? ((⟨w.heap.size, 0, none⟩ : Addr).add j) = some u := by
  intro j u hj
  match j, hj with
  | 0, hj => simp at hj; subst hj; simp [Addr.add]
theorem one_one {ao : Option Addr} {n c : Nat} : ∀ u ∈ [Value.slice ao n c], u.oneCell' = true := by
  intro u hu
  simp at hu
  subst hu; rfl
theorem own_shape2 {w : World} {B n : Nat} {v : Value} {xs : List Value} (h : w.ownsRow B 27 3 v (n + 1) xs) : ∃ g cap, v = .slice (some ⟨g, 0, none⟩) (n + 1) cap := by
  rcases h.2 with ⟨_, h0⟩ | ⟨g, cap, cur, rfl, _⟩
  · omega
  · exact ⟨g, cap, rfl⟩

set_option maxRecDepth 100000 in
set_option maxHeartbeats 2000000 in
theorem ownTokens {w : World} {B : Nat} {v : Value} {ts : List Tok} (m : Int) (hn : ts.length ≤ 2000) (hBs : B ≤ w.heap.size) (h : w.ownsRow B 27 3 v ts.length (tokCells ts)) :
    Calls Tryd.prog 7 #[v, .int .i64 m] w fun e w' => ∃ vo, e = .returned vo ∧ Below B w w' ∧ Owned B m w' vo := by
  obtain ⟨i0, hi, hz0, hz1, hz2⟩ := info_parts Tryd.info27
  obtain ⟨i1, hj, hy0, hy1, hy2⟩ := info_parts Tryd.info22
  obtain ⟨ao, cap, rfl, hcap, -⟩ := own_view h
  obtain ⟨n, hnn⟩ : ∃ n, n = ts.length := ⟨_, rfl⟩
  have HN : Hid (n = ts.length) := hnn
  rw [← hnn] at hn hcap h ⊢
  clear hnn
  go_enter Tryd.func7, Tryd.ntmps7
  go_wp2
  go_loopw [5] (fun i wr => ∃ k : Nat, k ≤ n ∧ i = .int .i64 k ∧ Below B w wr ∧ wr.ownsRow B 27 3 (.slice ao n cap) n (tokCells (over m ts k))) (fun i _ => n - (intOf i).toNat)
  case atStart => exact ⟨0, by omega, rfl, Below.refl _ _, h⟩
  case round =>
    obtain ⟨k, hk, rfl, hB, hrow⟩ := hrel
    have HB := Lib.hid hB
    have HR := Lib.hid hrow
    by_cases hlt : k < n
    · obtain ⟨g, c', hv⟩ : ∃ g c', Value.slice ao n cap = .slice (some ⟨g, 0, none⟩) n c' := by
        rcases hrow.2 with ⟨_, h0⟩ | ⟨g, c', cur, hv, _⟩
        · omega
        · exact ⟨g, c', hv⟩
      injection hv with e1 _ e3
      subst e1; subst e3
      have hol : (over m ts k).length = n := by rw [over_length (by have := HN.out; omega)]; exact HN.out.symm
      obtain ⟨c0, c1, c2⟩ := own_tok hrow hol k (by omega)
      have f0 := hrow.frozenAt (k * 3)
      have f1 := hrow.frozenAt (k * 3 + 1)
      have f2 := hrow.frozenAt (k * 3 + 2)
      have hgb := (own_block hrow).1
      generalize (over m ts k)[k]'(by omega) = t at c0 c1 c2
      clear hB hrow hol h
      go_wp2
      go_roundw
      case rel => exact ⟨k + 1, by omega, by go_num, ((HB.out.setCell hgb _).setCell hgb _).setCell hgb _, own_store HR.out HN.out.symm hlt⟩
      case measure => simp [intOf]; omega
    · have hkn : k = n := by omega
      have hmk : wr.ownsRow B 27 3 (.slice ao n cap) n (tokCells (marks m n)) := by
        have := over_all m ts
        rw [← HN.out] at this
        rw [← this, ← hkn]; exact hkn ▸ hrow
      have hsz := hB.size
      have HM := Lib.hid hmk
      clear hB hrow hmk h hkn HR
      go_wp2
      go_loopw [6, 7, 8] (fun vo vg i wr2 => ∃ (j : Nat) (us : List Value), j ≤ 3 ∧ i = .int .i64 j ∧ Below B w wr2 ∧ wr2.ownsRow B 22 1 vo (j + 1) us ∧ (∀ u ∈ us, Marked B m (n + j) wr2 u) ∧ wr2.ownsRow B 27 3 vg (n + j) (tokCells (marks m (n + j)))) (fun _ _ i _ => 3 - (intOf i).toNat)
      case atStart =>
        refine ⟨0, [.slice ao n cap], by omega, rfl, HB.out.alloc (by omega) _, ?_, ?_, HM.out.alloc _⟩
        · exact World.ownsRow_lit (size := 1) wr #[.slice ao n cap] 1 (by omega) (by unfold maxLen; omega) rfl
        · intro u hu
          rw [List.mem_singleton.1 hu]
          exact ⟨n, Nat.le_refl _, HM.out.alloc _⟩
      case round =>
        obtain ⟨j, us, hj3, rfl, hB2, hvo, hus, hvg⟩ := hrel
        have hsz2 := hB2.size
        have HB2 := Lib.hid hB2
        have HVO := Lib.hid hvo
        have HUS := Lib.hid hus
        have HVG := Lib.hid hvg
        clear hB2 hvo hus hvg
        by_cases hlt2 : j < 3
        · go_wp2_with (first | (at_builtin; refine wpList_append_keeps _ rfl (.tmp 27) (.tmp 30) 22 rfl B 27 i0 (.agg #[.int .i64 0, .string ⟨#[]⟩, .int .i64 0]) 3 32 Tryd.underlying22 hi hz0 hz1 hz2 rfl (by decide) _ _ _ rfl (HVG.out.alloc _) _ 1 1 [.int .i64 m, .string ⟨#[]⟩, .int .i64 0] rfl rfl three_cells three_one (by decide) (by unfold maxLen; omega) (by omega) (by simp; omega) ?_; intro v' w2 hnew hgrow hold; have R1 := Lib.hid (own_round1 HB2.out hBs HVO.out HUS.out HVG.out hnew hgrow hold); have hsz3 := R1.out.1.size; obtain ⟨g', cap', hsh⟩ := own_shape2 hnew; subst hsh; clear hnew hgrow hold) | (at_builtin; refine wpList_append_own _ rfl (.tmp 32) (.tmp 34) 29 rfl B 22 i1 (.slice none 0 0) 1 24 Tryd.underlying29 hj hy0 hy1 hy2 rfl (by decide) _ _ _ rfl (R1.out.2.1.alloc _) _ 1 1 [_] rfl rfl one_cell one_one (by unfold maxLen; omega) (by omega) (by simp; omega) ?_; intro vo' w3 hnew2 hgrow2 _; have R2 := Lib.hid (own_round2 R1.out.1 hBs R1.out.2.1 R1.out.2.2.1 R1.out.2.2.2 hnew2 hgrow2); clear hnew2 hgrow2))
          go_roundw
          case rel => exact ⟨j + 1, _, by omega, by go_num, R2.out.1, R2.out.2.1, R2.out.2.2.1, R2.out.2.2.2⟩
          case measure => simp [intOf]; omega
        · have hj4 : j = 3 := by omega
          have HJ : Hid (j = 3) := hj4
          clear hj4
          go_wp2
          go_ret
          have hvo4 := HVO.out
          have hus4 := HUS.out
          have e3 := HJ.out
          subst e3
          refine ⟨_, rfl, HB2.out, us, hvo4, ?_⟩
          intro u hu
          obtain ⟨len, hle, ho⟩ := hus4 u hu
          exact ⟨len, by omega, ho⟩

end Go.Proofs.YtobgbmfpicmpcaaDoor
