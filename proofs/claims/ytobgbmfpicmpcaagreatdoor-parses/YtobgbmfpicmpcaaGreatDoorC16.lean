/- The owner of a query writes over its lists, and behind them. -/
import Derived.Deep.RegionLaw
import Derived.Test.YtobgbmfpicmpcaaGreatDoorC15
namespace Go.Proofs.YtobgbmfpicmpcaaGreatDoor
open Go.RowKit

/-- What the owner leaves: of each kind four lists, each of marks. -/
structure OwnedQ (B : Nat) (n : Int) (b : UInt8) (os oc oi op : Value) (w : World) : Prop where
  ls : ∃ us, w.ownsRow B 22 1 os 4 us ∧ ∀ u ∈ us, MarkedK B 85 5 (mkS n) 3004 w u
  lc : ∃ us, w.ownsRow B 23 1 oc 4 us ∧ ∀ u ∈ us, MarkedK B 87 7 (mkC n) 3004 w u
  li : ∃ us, w.ownsRow B 24 1 oi 4 us ∧ ∀ u ∈ us, MarkedK B 89 2 (mkI b) 3004 w u
  lp : ∃ us, w.ownsRow B 27 1 op 4 us ∧ ∀ u ∈ us, MarkedK B 91 2 (mkP n) 3004 w u

set_option maxRecDepth 100000 in
set_option maxHeartbeats 9000000 in
theorem own_ {B : Nat} {W : World} {q : PQuery} {n : Int} {b : UInt8} {ds dc di dp : Option Addr} {ns ks nc kc ni ki np kp : Nat} {xs xc xi xp : List Value} (hB : B ≤ W.heap.size) (hrs : W.ownsRow B 85 5 (.slice ds ns ks) ns xs) (hrc : W.ownsRow B 87 7 (.slice dc nc kc) nc xc) (hri : W.ownsRow B 89 2 (.slice di ni ki) ni xi) (hrp : W.ownsRow B 91 2 (.slice dp np kp) np xp) (hns : ns ≤ 3000) (hnc : nc ≤ 3000) (hni : ni ≤ 3000) (hnp : np ≤ 3000)
    (hitem : ∀ w, Calls Tryz.prog 50 #[.int .i64 n] w fun e w' => e = .returned (.agg #[.string ⟨#[111, 119, 110]⟩, .string ⟨#[b]⟩]) ∧ Below w.heap.size w w') :
    Calls Tryz.prog 17 #[.agg (qC q (.slice ds ns ks) (.slice dc nc kc) (.slice di ni ki) (.slice dp np kp)), .int .i64 n] W fun e W' => ∃ os oc oi op, e = .returned (.agg #[os, oc, oi, op]) ∧ Below B W W' ∧ OwnedQ B n b os oc oi op W' := by
  obtain ⟨js, hjs, hzs0, hzs1, hzs2⟩ := info_parts Tryz.infoSpot
  obtain ⟨gs, hgs, hqqs0, hqqs1, hqqs2⟩ := info_parts Tryz.listS
  obtain ⟨jc, hjc, hzc0, hzc1, hzc2⟩ := info_parts Tryz.infoCond
  obtain ⟨gc, hgc, hqqc0, hqqc1, hqqc2⟩ := info_parts Tryz.listC
  obtain ⟨ji, hji, hzi0, hzi1, hzi2⟩ := info_parts Tryz.infoItem
  obtain ⟨gi, hgi, hqqi0, hqqi1, hqqi2⟩ := info_parts Tryz.listI
  obtain ⟨jp, hjp, hzp0, hzp1, hzp2⟩ := info_parts Tryz.infoPair
  obtain ⟨gp, hgp, hqqp0, hqqp1, hqqp2⟩ := info_parts Tryz.listP
  have H0 : Hid (OwnAt B W W.heap.size (W.heap.size + 1) (W.heap.size + 1 + 1) q (mkS n) (mkC n) (mkI b) (mkP n) (.slice ds ns ks) (.slice dc nc kc) (.slice di ni ki) (.slice dp np kp) ns nc ni np xs xc xi xp (.slice none 0 0) (.slice none 0 0) (.slice none 0 0) (.slice none 0 0) 0 0 0 0 [] [] [] [] (((W.alloc (.cells (qC q (.slice ds ns ks) (.slice dc nc kc) (.slice di ni ki) (.slice dp np kp)) 29)).alloc (.cells #[.slice none 0 0, .slice none 0 0, .slice none 0 0, .slice none 0 0] 39)).alloc (.cells #[.slice none 0 0, .slice none 0 0, .slice none 0 0, .slice none 0 0] 39))) := by
    have g1 := grown_alloc W (.cells (qC q (.slice ds ns ks) (.slice dc nc kc) (.slice di ni ki) (.slice dp np kp)) 29) none
    have s1 := size_alloc W (.cells (qC q (.slice ds ns ks) (.slice dc nc kc) (.slice di ni ki) (.slice dp np kp)) 29)
    have h1 := Loc.new W (qC q (.slice ds ns ks) (.slice dc nc kc) (.slice di ni ki) (.slice dp np kp)) 29
    generalize W.alloc (.cells (qC q (.slice ds ns ks) (.slice dc nc kc) (.slice di ni ki) (.slice dp np kp)) 29) = W1 at g1 s1 h1 ⊢
    have g2 := grown_alloc W1 (.cells #[.slice none 0 0, .slice none 0 0, .slice none 0 0, .slice none 0 0] 39) none
    have s2 := size_alloc W1 (.cells #[.slice none 0 0, .slice none 0 0, .slice none 0 0, .slice none 0 0] 39)
    have h2 := Loc.new W1 #[.slice none 0 0, .slice none 0 0, .slice none 0 0, .slice none 0 0] 39
    generalize W1.alloc (.cells #[.slice none 0 0, .slice none 0 0, .slice none 0 0, .slice none 0 0] 39) = W2 at g2 s2 h2 ⊢
    have g3 := grown_alloc W2 (.cells #[.slice none 0 0, .slice none 0 0, .slice none 0 0, .slice none 0 0] 39) none
    have h3 := Loc.new W2 #[.slice none 0 0, .slice none 0 0, .slice none 0 0, .slice none 0 0] 39
    generalize W2.alloc (.cells #[.slice none 0 0, .slice none 0 0, .slice none 0 0, .slice none 0 0] 39) = W3 at g3 h3 ⊢
    rw [s1] at h2 s2
    rw [s2] at h3
    have g := grown_trans (grown_trans g1 g2) g3
    exact ⟨below_grown (Below.refl _ _) hB g (fun x e => by cases e), hB, (h1.grown g2 (by simp)).grown g3 (by simp), h2.grown g3 (by simp), h3, hB, by omega, by omega, by omega, kept_none hrs g, World.ownsRow_nil _ _ _ _, fun u hu => absurd hu (List.not_mem_nil), kept_none hrc g, World.ownsRow_nil _ _ _ _, fun u hu => absurd hu (List.not_mem_nil), kept_none hri g, World.ownsRow_nil _ _ _ _, fun u hu => absurd hu (List.not_mem_nil), kept_none hrp g, World.ownsRow_nil _ _ _ _, fun u hu => absurd hu (List.not_mem_nil)⟩
  have HXs : Hid (xs.length = ns * 5) := hrs.1
  have HXc : Hid (xc.length = nc * 7) := hrc.1
  have HXi : Hid (xi.length = ni * 2) := hri.1
  have HXp : Hid (xp.length = np * 2) := hrp.1
  clear hrs hrc hri hrp
  go_enter Tryz.func17, Tryz.ntmps17
  go_upto_block 0 with fail
  obtain ⟨X, hX⟩ : ∃ X, X = W.heap.size := ⟨_, rfl⟩
  obtain ⟨R, hR⟩ : ∃ R, R = W.heap.size + 1 := ⟨_, rfl⟩
  obtain ⟨O, hO⟩ : ∃ O, O = W.heap.size + 1 + 1 := ⟨_, rfl⟩
  rw [← hO, ← hR, ← hX] at H0 ⊢
  clear hO hR hX
  generalize ((W.alloc (.cells (qC q (.slice ds ns ks) (.slice dc nc kc) (.slice di ni ki) (.slice dp np kp)) 29)).alloc (.cells #[.slice none 0 0, .slice none 0 0, .slice none 0 0, .slice none 0 0] 39)).alloc (.cells #[.slice none 0 0, .slice none 0 0, .slice none 0 0, .slice none 0 0] 39) = W1 at H0 ⊢
  go_cut [6] (fun _ w => OwnAt B W X R O q (mkS n) (mkC n) (mkI b) (mkP n) (.slice ds ns ks) (.slice dc nc kc) (.slice di ni ki) (.slice dp np kp) ns nc ni np (mC (mkS n) ns) xc xi xp (.slice none 0 0) (.slice none 0 0) (.slice none 0 0) (.slice none 0 0) 0 0 0 0 [] [] [] [] w)
  case first =>
    go_wp2_with fail
    go_loopg [6] ns (fun m iv w => ∃ k : Nat, iv = .int .i64 (k : Int) ∧ k + m = ns ∧ OwnAt B W X R O q (mkS n) (mkC n) (mkI b) (mkP n) (.slice ds ns ks) (.slice dc nc kc) (.slice di ni ki) (.slice dp np kp) ns nc ni np (mC (mkS n) k ++ xs.drop (k * 5)) xc xi xp (.slice none 0 0) (.slice none 0 0) (.slice none 0 0) (.slice none 0 0) 0 0 0 0 [] [] [] [] w)
    case atStart => exact ⟨0, rfl, by omega, by rw [mC_zero, Nat.zero_mul, List.drop_zero, List.nil_append]; exact H0.out⟩
    case round =>
      obtain ⟨k, rfl, hk, hq⟩ := hrel
      have HQ := Lib.hid hq
      clear H0
      have cx : wr.cell? ⟨X, 1, none⟩ = some (.slice ds ns ks) := (hq.lx.cell 1).trans rfl
      by_cases hlt : k < ns
      · obtain ⟨g, hao⟩ : ∃ g, ds = some ⟨g, 0, none⟩ := by
            obtain ⟨g, cap, e, _⟩ := hq.rs.form (by omega)
            injection e with e; exact ⟨g, e⟩
        subst hao
        obtain ⟨cur, hloc, _, hsz, _⟩ := row_loc' hq.rs
        have hkk : (k + 1) * 5 ≤ ns * 5 := Nat.mul_le_mul_right 5 hlt
        obtain ⟨y0, hy0⟩ : ∃ y, cur[k * 5]? = some y := ⟨_, Array.getElem?_eq_getElem (by omega)⟩
        obtain ⟨y1, hy1⟩ : ∃ y, cur[k * 5 + 1]? = some y := ⟨_, Array.getElem?_eq_getElem (by omega)⟩
        obtain ⟨y2, hy2⟩ : ∃ y, cur[k * 5 + 2]? = some y := ⟨_, Array.getElem?_eq_getElem (by omega)⟩
        obtain ⟨y3, hy3⟩ : ∃ y, cur[k * 5 + 3]? = some y := ⟨_, Array.getElem?_eq_getElem (by omega)⟩
        obtain ⟨y4, hy4⟩ : ∃ y, cur[k * 5 + 4]? = some y := ⟨_, Array.getElem?_eq_getElem (by omega)⟩
        have hki : (k : Int) < (ns : Int) := by omega
        have HD := Lib.hid (HQ.out.drew 1)
        have hlocD := hloc.drew 1
        have w0 : wr.drew.cell? ⟨g, k * 5, none⟩ = some y0 := (hlocD.cell _).trans hy0
        have z0 : wr.drew.frozen? ⟨g, k * 5, none⟩ = false := hlocD.free _
        have w1 : wr.drew.cell? ⟨g, k * 5 + 1, none⟩ = some y1 := (hlocD.cell _).trans hy1
        have z1 : wr.drew.frozen? ⟨g, k * 5 + 1, none⟩ = false := hlocD.free _
        have w2 : wr.drew.cell? ⟨g, k * 5 + 2, none⟩ = some y2 := (hlocD.cell _).trans hy2
        have z2 : wr.drew.frozen? ⟨g, k * 5 + 2, none⟩ = false := hlocD.free _
        have w3 : wr.drew.cell? ⟨g, k * 5 + 3, none⟩ = some y3 := (hlocD.cell _).trans hy3
        have z3 : wr.drew.frozen? ⟨g, k * 5 + 3, none⟩ = false := hlocD.free _
        have w4 : wr.drew.cell? ⟨g, k * 5 + 4, none⟩ = some y4 := (hlocD.cell _).trans hy4
        have z4 : wr.drew.frozen? ⟨g, k * 5 + 4, none⟩ = false := hlocD.free _
        have cxd : wr.drew.cell? ⟨X, 1, none⟩ = some (.slice (some ⟨g, 0, none⟩) ns ks) := cx
        clear hq
        go_upto_region 5 with fail
        go_region_with (go_at_call 48; refine (spotMark _ _).mono ?_; rintro e w5 ⟨rfl, hb5⟩; have H5 := Lib.hid (HD.out.later hb5); have hloc5 := hlocD.grown (grown_below hb5 none) (by simp); have c5 : w5.cell? ⟨X, 1, none⟩ = some (.slice (some ⟨g, 0, none⟩) ns ks) := (H5.out.lx.cell 1).trans rfl; have p0 : w5.cell? ⟨g, k * 5, none⟩ = some y0 := (hloc5.cell _).trans hy0; have f0 : w5.frozen? ⟨g, k * 5, none⟩ = false := hloc5.free _; have p1 : w5.cell? ⟨g, k * 5 + 1, none⟩ = some y1 := (hloc5.cell _).trans hy1; have f1 : w5.frozen? ⟨g, k * 5 + 1, none⟩ = false := hloc5.free _; have p2 : w5.cell? ⟨g, k * 5 + 2, none⟩ = some y2 := (hloc5.cell _).trans hy2; have f2 : w5.frozen? ⟨g, k * 5 + 2, none⟩ = false := hloc5.free _; have p3 : w5.cell? ⟨g, k * 5 + 3, none⟩ = some y3 := (hloc5.cell _).trans hy3; have f3 : w5.frozen? ⟨g, k * 5 + 3, none⟩ = false := hloc5.free _; have p4 : w5.cell? ⟨g, k * 5 + 4, none⟩ = some y4 := (hloc5.cell _).trans hy4; have f4 : w5.frozen? ⟨g, k * 5 + 4, none⟩ = false := hloc5.free _; clear hb5)
        all_goals
          have H6a : OwnAt B W X R O q (mkS n) (mkC n) (mkI b) (mkP n) (.slice (some ⟨g, 0, none⟩) ns ks) (.slice dc nc kc) (.slice di ni ki) (.slice dp np kp) ns nc ni np (mC (mkS n) (k + 1) ++ xs.drop ((k + 1) * 5)) xc xi xp (.slice none 0 0) (.slice none 0 0) (.slice none 0 0) (.slice none 0 0) 0 0 0 0 [] [] [] [] (w5.setCells g (k * 5) (mkS n)) := H5.out.fill_s (grown_setMany g (mkS n) (k * 5) w5) (row_fill H5.out.rs rfl hlt)
          have H6 : Hid (OwnAt B W X R O q (mkS n) (mkC n) (mkI b) (mkP n) (.slice (some ⟨g, 0, none⟩) ns ks) (.slice dc nc kc) (.slice di ni ki) (.slice dp np kp) ns nc ni np (mC (mkS n) (k + 1) ++ xs.drop ((k + 1) * 5)) xc xi xp (.slice none 0 0) (.slice none 0 0) (.slice none 0 0) (.slice none 0 0) 0 0 0 0 [] [] [] [] (((((w5.setCell ⟨g, k * 5, none⟩ (.string ⟨#[111, 119, 110]⟩)).setCell ⟨g, k * 5 + 1, none⟩ (.string ⟨#[]⟩)).setCell ⟨g, k * 5 + 2, none⟩ (.string ⟨#[]⟩)).setCell ⟨g, k * 5 + 3, none⟩ (.int .i64 n)).setCell ⟨g, k * 5 + 4, none⟩ (.int .i64 0))) := by
            have e := set_5 w5 g (k * 5) (.string ⟨#[111, 119, 110]⟩) (.string ⟨#[]⟩) (.string ⟨#[]⟩) (.int .i64 n) (.int .i64 0)
            show OwnAt B W X R O q (mkS n) (mkC n) (mkI b) (mkP n) (.slice (some ⟨g, 0, none⟩) ns ks) (.slice dc nc kc) (.slice di ni ki) (.slice dp np kp) ns nc ni np (mC (mkS n) (k + 1) ++ xs.drop ((k + 1) * 5)) xc xi xp (.slice none 0 0) (.slice none 0 0) (.slice none 0 0) (.slice none 0 0) 0 0 0 0 [] [] [] [] _
            rw [e]; exact H6a
          clear p0 f0 p1 f1 p2 f2 p3 f3 p4 f4 c5 H5 H6a
          go_wp2_with fail
          go_roundg (gk - 1)
          case measure => omega
          case rel => exact ⟨k + 1, by simp, by omega, H6.out⟩
      · have hki : ¬ (k : Int) < (ns : Int) := by omega
        have hk2 : k = ns := by omega
        go_wp2_with fail
        go_meet
        case rel =>
          have h := HQ.out
          have e : mC (mkS n) k ++ xs.drop (k * 5) = mC (mkS n) ns := by rw [hk2, List.drop_eq_nil_of_le (by rw [HXs.out]; exact Nat.le_refl _), List.append_nil]
          rw [e] at h; exact h
  case rest =>
    clear H0
    have H1 := Lib.hid hcut
    clear hcut
    go_upto_block 2 with fail
    go_cut [7] (fun _ w => OwnAt B W X R O q (mkS n) (mkC n) (mkI b) (mkP n) (.slice ds ns ks) (.slice dc nc kc) (.slice di ni ki) (.slice dp np kp) ns nc ni np (mC (mkS n) ns) (mC (mkC n) nc) xi xp (.slice none 0 0) (.slice none 0 0) (.slice none 0 0) (.slice none 0 0) 0 0 0 0 [] [] [] [] w)
    case first =>
      go_wp2_with fail
      go_loopg [7] nc (fun m iv w => ∃ k : Nat, iv = .int .i64 (k : Int) ∧ k + m = nc ∧ OwnAt B W X R O q (mkS n) (mkC n) (mkI b) (mkP n) (.slice ds ns ks) (.slice dc nc kc) (.slice di ni ki) (.slice dp np kp) ns nc ni np (mC (mkS n) ns) (mC (mkC n) k ++ xc.drop (k * 7)) xi xp (.slice none 0 0) (.slice none 0 0) (.slice none 0 0) (.slice none 0 0) 0 0 0 0 [] [] [] [] w)
      case atStart => exact ⟨0, rfl, by omega, by rw [mC_zero, Nat.zero_mul, List.drop_zero, List.nil_append]; exact H1.out⟩
      case round =>
        obtain ⟨k, rfl, hk, hq⟩ := hrel
        have HQ := Lib.hid hq
        clear H1
        have cx : wr.cell? ⟨X, 2, none⟩ = some (.slice dc nc kc) := (hq.lx.cell 2).trans rfl
        by_cases hlt : k < nc
        · obtain ⟨g, hao⟩ : ∃ g, dc = some ⟨g, 0, none⟩ := by
              obtain ⟨g, cap, e, _⟩ := hq.rc.form (by omega)
              injection e with e; exact ⟨g, e⟩
          subst hao
          obtain ⟨cur, hloc, _, hsz, _⟩ := row_loc' hq.rc
          have hkk : (k + 1) * 7 ≤ nc * 7 := Nat.mul_le_mul_right 7 hlt
          obtain ⟨y0, hy0⟩ : ∃ y, cur[k * 7]? = some y := ⟨_, Array.getElem?_eq_getElem (by omega)⟩
          obtain ⟨y1, hy1⟩ : ∃ y, cur[k * 7 + 1]? = some y := ⟨_, Array.getElem?_eq_getElem (by omega)⟩
          obtain ⟨y2, hy2⟩ : ∃ y, cur[k * 7 + 2]? = some y := ⟨_, Array.getElem?_eq_getElem (by omega)⟩
          obtain ⟨y3, hy3⟩ : ∃ y, cur[k * 7 + 3]? = some y := ⟨_, Array.getElem?_eq_getElem (by omega)⟩
          obtain ⟨y4, hy4⟩ : ∃ y, cur[k * 7 + 4]? = some y := ⟨_, Array.getElem?_eq_getElem (by omega)⟩
          obtain ⟨y5, hy5⟩ : ∃ y, cur[k * 7 + 5]? = some y := ⟨_, Array.getElem?_eq_getElem (by omega)⟩
          obtain ⟨y6, hy6⟩ : ∃ y, cur[k * 7 + 6]? = some y := ⟨_, Array.getElem?_eq_getElem (by omega)⟩
          have hki : (k : Int) < (nc : Int) := by omega
          have HD := Lib.hid (HQ.out.drew 1)
          have hlocD := hloc.drew 1
          have w0 : wr.drew.cell? ⟨g, k * 7, none⟩ = some y0 := (hlocD.cell _).trans hy0
          have z0 : wr.drew.frozen? ⟨g, k * 7, none⟩ = false := hlocD.free _
          have w1 : wr.drew.cell? ⟨g, k * 7 + 1, none⟩ = some y1 := (hlocD.cell _).trans hy1
          have z1 : wr.drew.frozen? ⟨g, k * 7 + 1, none⟩ = false := hlocD.free _
          have w2 : wr.drew.cell? ⟨g, k * 7 + 2, none⟩ = some y2 := (hlocD.cell _).trans hy2
          have z2 : wr.drew.frozen? ⟨g, k * 7 + 2, none⟩ = false := hlocD.free _
          have w3 : wr.drew.cell? ⟨g, k * 7 + 3, none⟩ = some y3 := (hlocD.cell _).trans hy3
          have z3 : wr.drew.frozen? ⟨g, k * 7 + 3, none⟩ = false := hlocD.free _
          have w4 : wr.drew.cell? ⟨g, k * 7 + 4, none⟩ = some y4 := (hlocD.cell _).trans hy4
          have z4 : wr.drew.frozen? ⟨g, k * 7 + 4, none⟩ = false := hlocD.free _
          have w5 : wr.drew.cell? ⟨g, k * 7 + 5, none⟩ = some y5 := (hlocD.cell _).trans hy5
          have z5 : wr.drew.frozen? ⟨g, k * 7 + 5, none⟩ = false := hlocD.free _
          have w6 : wr.drew.cell? ⟨g, k * 7 + 6, none⟩ = some y6 := (hlocD.cell _).trans hy6
          have z6 : wr.drew.frozen? ⟨g, k * 7 + 6, none⟩ = false := hlocD.free _
          have cxd : wr.drew.cell? ⟨X, 2, none⟩ = some (.slice (some ⟨g, 0, none⟩) nc kc) := cx
          clear hq
          go_upto_region 9 with fail
          go_region_with (go_at_call 49; refine (condMark _ _).mono ?_; rintro e w5 ⟨rfl, hb5⟩; have H5 := Lib.hid (HD.out.later hb5); have hloc5 := hlocD.grown (grown_below hb5 none) (by simp); have c5 : w5.cell? ⟨X, 2, none⟩ = some (.slice (some ⟨g, 0, none⟩) nc kc) := (H5.out.lx.cell 2).trans rfl; have p0 : w5.cell? ⟨g, k * 7, none⟩ = some y0 := (hloc5.cell _).trans hy0; have f0 : w5.frozen? ⟨g, k * 7, none⟩ = false := hloc5.free _; have p1 : w5.cell? ⟨g, k * 7 + 1, none⟩ = some y1 := (hloc5.cell _).trans hy1; have f1 : w5.frozen? ⟨g, k * 7 + 1, none⟩ = false := hloc5.free _; have p2 : w5.cell? ⟨g, k * 7 + 2, none⟩ = some y2 := (hloc5.cell _).trans hy2; have f2 : w5.frozen? ⟨g, k * 7 + 2, none⟩ = false := hloc5.free _; have p3 : w5.cell? ⟨g, k * 7 + 3, none⟩ = some y3 := (hloc5.cell _).trans hy3; have f3 : w5.frozen? ⟨g, k * 7 + 3, none⟩ = false := hloc5.free _; have p4 : w5.cell? ⟨g, k * 7 + 4, none⟩ = some y4 := (hloc5.cell _).trans hy4; have f4 : w5.frozen? ⟨g, k * 7 + 4, none⟩ = false := hloc5.free _; have p5 : w5.cell? ⟨g, k * 7 + 5, none⟩ = some y5 := (hloc5.cell _).trans hy5; have f5 : w5.frozen? ⟨g, k * 7 + 5, none⟩ = false := hloc5.free _; have p6 : w5.cell? ⟨g, k * 7 + 6, none⟩ = some y6 := (hloc5.cell _).trans hy6; have f6 : w5.frozen? ⟨g, k * 7 + 6, none⟩ = false := hloc5.free _; clear hb5)
          all_goals
            have H6a : OwnAt B W X R O q (mkS n) (mkC n) (mkI b) (mkP n) (.slice ds ns ks) (.slice (some ⟨g, 0, none⟩) nc kc) (.slice di ni ki) (.slice dp np kp) ns nc ni np (mC (mkS n) ns) (mC (mkC n) (k + 1) ++ xc.drop ((k + 1) * 7)) xi xp (.slice none 0 0) (.slice none 0 0) (.slice none 0 0) (.slice none 0 0) 0 0 0 0 [] [] [] [] (w5.setCells g (k * 7) (mkC n)) := H5.out.fill_c (grown_setMany g (mkC n) (k * 7) w5) (row_fill H5.out.rc rfl hlt)
            have H6 : Hid (OwnAt B W X R O q (mkS n) (mkC n) (mkI b) (mkP n) (.slice ds ns ks) (.slice (some ⟨g, 0, none⟩) nc kc) (.slice di ni ki) (.slice dp np kp) ns nc ni np (mC (mkS n) ns) (mC (mkC n) (k + 1) ++ xc.drop ((k + 1) * 7)) xi xp (.slice none 0 0) (.slice none 0 0) (.slice none 0 0) (.slice none 0 0) 0 0 0 0 [] [] [] [] (((((((w5.setCell ⟨g, k * 7, none⟩ (.int .i64 n)).setCell ⟨g, k * 7 + 1, none⟩ (.string ⟨#[]⟩)).setCell ⟨g, k * 7 + 2, none⟩ (.string ⟨#[]⟩)).setCell ⟨g, k * 7 + 3, none⟩ (.int .i64 0)).setCell ⟨g, k * 7 + 4, none⟩ (.string ⟨#[]⟩)).setCell ⟨g, k * 7 + 5, none⟩ (.string ⟨#[]⟩)).setCell ⟨g, k * 7 + 6, none⟩ (.int .i64 0))) := by
              have e := set_7 w5 g (k * 7) (.int .i64 n) (.string ⟨#[]⟩) (.string ⟨#[]⟩) (.int .i64 0) (.string ⟨#[]⟩) (.string ⟨#[]⟩) (.int .i64 0)
              show OwnAt B W X R O q (mkS n) (mkC n) (mkI b) (mkP n) (.slice ds ns ks) (.slice (some ⟨g, 0, none⟩) nc kc) (.slice di ni ki) (.slice dp np kp) ns nc ni np (mC (mkS n) ns) (mC (mkC n) (k + 1) ++ xc.drop ((k + 1) * 7)) xi xp (.slice none 0 0) (.slice none 0 0) (.slice none 0 0) (.slice none 0 0) 0 0 0 0 [] [] [] [] _
              rw [e]; exact H6a
            clear p0 f0 p1 f1 p2 f2 p3 f3 p4 f4 p5 f5 p6 f6 c5 H5 H6a
            go_wp2_with fail
            go_roundg (gk - 1)
            case measure => omega
            case rel => exact ⟨k + 1, by simp, by omega, H6.out⟩
        · have hki : ¬ (k : Int) < (nc : Int) := by omega
          have hk2 : k = nc := by omega
          go_wp2_with fail
          go_meet
          case rel =>
            have h := HQ.out
            have e : mC (mkC n) k ++ xc.drop (k * 7) = mC (mkC n) nc := by rw [hk2, List.drop_eq_nil_of_le (by rw [HXc.out]; exact Nat.le_refl _), List.append_nil]
            rw [e] at h; exact h
    case rest =>
      clear H1
      have H2 := Lib.hid hcut
      clear hcut
      go_upto_block 4 with fail
      go_cut [8] (fun _ w => OwnAt B W X R O q (mkS n) (mkC n) (mkI b) (mkP n) (.slice ds ns ks) (.slice dc nc kc) (.slice di ni ki) (.slice dp np kp) ns nc ni np (mC (mkS n) ns) (mC (mkC n) nc) (mC (mkI b) ni) xp (.slice none 0 0) (.slice none 0 0) (.slice none 0 0) (.slice none 0 0) 0 0 0 0 [] [] [] [] w)
      case first =>
        go_wp2_with fail
        go_loopg [8] ni (fun m iv w => ∃ k : Nat, iv = .int .i64 (k : Int) ∧ k + m = ni ∧ OwnAt B W X R O q (mkS n) (mkC n) (mkI b) (mkP n) (.slice ds ns ks) (.slice dc nc kc) (.slice di ni ki) (.slice dp np kp) ns nc ni np (mC (mkS n) ns) (mC (mkC n) nc) (mC (mkI b) k ++ xi.drop (k * 2)) xp (.slice none 0 0) (.slice none 0 0) (.slice none 0 0) (.slice none 0 0) 0 0 0 0 [] [] [] [] w)
        case atStart => exact ⟨0, rfl, by omega, by rw [mC_zero, Nat.zero_mul, List.drop_zero, List.nil_append]; exact H2.out⟩
        case round =>
          obtain ⟨k, rfl, hk, hq⟩ := hrel
          have HQ := Lib.hid hq
          clear H2
          have cx : wr.cell? ⟨X, 3, none⟩ = some (.slice di ni ki) := (hq.lx.cell 3).trans rfl
          by_cases hlt : k < ni
          · obtain ⟨g, hao⟩ : ∃ g, di = some ⟨g, 0, none⟩ := by
                obtain ⟨g, cap, e, _⟩ := hq.ri.form (by omega)
                injection e with e; exact ⟨g, e⟩
            subst hao
            obtain ⟨cur, hloc, _, hsz, _⟩ := row_loc' hq.ri
            have hkk : (k + 1) * 2 ≤ ni * 2 := Nat.mul_le_mul_right 2 hlt
            obtain ⟨y0, hy0⟩ : ∃ y, cur[k * 2]? = some y := ⟨_, Array.getElem?_eq_getElem (by omega)⟩
            obtain ⟨y1, hy1⟩ : ∃ y, cur[k * 2 + 1]? = some y := ⟨_, Array.getElem?_eq_getElem (by omega)⟩
            have hki : (k : Int) < (ni : Int) := by omega
            have HD := Lib.hid (HQ.out.drew 1)
            have hlocD := hloc.drew 1
            have w0 : wr.drew.cell? ⟨g, k * 2, none⟩ = some y0 := (hlocD.cell _).trans hy0
            have z0 : wr.drew.frozen? ⟨g, k * 2, none⟩ = false := hlocD.free _
            have w1 : wr.drew.cell? ⟨g, k * 2 + 1, none⟩ = some y1 := (hlocD.cell _).trans hy1
            have z1 : wr.drew.frozen? ⟨g, k * 2 + 1, none⟩ = false := hlocD.free _
            have cxd : wr.drew.cell? ⟨X, 3, none⟩ = some (.slice (some ⟨g, 0, none⟩) ni ki) := cx
            clear hq
            go_upto_region 13 with fail
            go_region_with (go_at_call 50; refine (hitem _).mono ?_; rintro e w5 ⟨rfl, hb5⟩; have H5 := Lib.hid (HD.out.later hb5); have hloc5 := hlocD.grown (grown_below hb5 none) (by simp); have c5 : w5.cell? ⟨X, 3, none⟩ = some (.slice (some ⟨g, 0, none⟩) ni ki) := (H5.out.lx.cell 3).trans rfl; have p0 : w5.cell? ⟨g, k * 2, none⟩ = some y0 := (hloc5.cell _).trans hy0; have f0 : w5.frozen? ⟨g, k * 2, none⟩ = false := hloc5.free _; have p1 : w5.cell? ⟨g, k * 2 + 1, none⟩ = some y1 := (hloc5.cell _).trans hy1; have f1 : w5.frozen? ⟨g, k * 2 + 1, none⟩ = false := hloc5.free _; clear hb5)
            all_goals
              have H6a : OwnAt B W X R O q (mkS n) (mkC n) (mkI b) (mkP n) (.slice ds ns ks) (.slice dc nc kc) (.slice (some ⟨g, 0, none⟩) ni ki) (.slice dp np kp) ns nc ni np (mC (mkS n) ns) (mC (mkC n) nc) (mC (mkI b) (k + 1) ++ xi.drop ((k + 1) * 2)) xp (.slice none 0 0) (.slice none 0 0) (.slice none 0 0) (.slice none 0 0) 0 0 0 0 [] [] [] [] (w5.setCells g (k * 2) (mkI b)) := H5.out.fill_i (grown_setMany g (mkI b) (k * 2) w5) (row_fill H5.out.ri rfl hlt)
              have H6 : Hid (OwnAt B W X R O q (mkS n) (mkC n) (mkI b) (mkP n) (.slice ds ns ks) (.slice dc nc kc) (.slice (some ⟨g, 0, none⟩) ni ki) (.slice dp np kp) ns nc ni np (mC (mkS n) ns) (mC (mkC n) nc) (mC (mkI b) (k + 1) ++ xi.drop ((k + 1) * 2)) xp (.slice none 0 0) (.slice none 0 0) (.slice none 0 0) (.slice none 0 0) 0 0 0 0 [] [] [] [] ((w5.setCell ⟨g, k * 2, none⟩ (.string ⟨#[111, 119, 110]⟩)).setCell ⟨g, k * 2 + 1, none⟩ (.string ⟨#[b]⟩))) := by
                have e := set_2 w5 g (k * 2) (.string ⟨#[111, 119, 110]⟩) (.string ⟨#[b]⟩)
                show OwnAt B W X R O q (mkS n) (mkC n) (mkI b) (mkP n) (.slice ds ns ks) (.slice dc nc kc) (.slice (some ⟨g, 0, none⟩) ni ki) (.slice dp np kp) ns nc ni np (mC (mkS n) ns) (mC (mkC n) nc) (mC (mkI b) (k + 1) ++ xi.drop ((k + 1) * 2)) xp (.slice none 0 0) (.slice none 0 0) (.slice none 0 0) (.slice none 0 0) 0 0 0 0 [] [] [] [] _
                rw [e]; exact H6a
              clear p0 f0 p1 f1 c5 H5 H6a
              go_wp2_with fail
              go_roundg (gk - 1)
              case measure => omega
              case rel => exact ⟨k + 1, by simp, by omega, H6.out⟩
          · have hki : ¬ (k : Int) < (ni : Int) := by omega
            have hk2 : k = ni := by omega
            go_wp2_with fail
            go_meet
            case rel =>
              have h := HQ.out
              have e : mC (mkI b) k ++ xi.drop (k * 2) = mC (mkI b) ni := by rw [hk2, List.drop_eq_nil_of_le (by rw [HXi.out]; exact Nat.le_refl _), List.append_nil]
              rw [e] at h; exact h
      case rest =>
        clear H2
        have H3 := Lib.hid hcut
        clear hcut
        go_upto_block 6 with fail
        go_cut [9] (fun _ w => OwnAt B W X R O q (mkS n) (mkC n) (mkI b) (mkP n) (.slice ds ns ks) (.slice dc nc kc) (.slice di ni ki) (.slice dp np kp) ns nc ni np (mC (mkS n) ns) (mC (mkC n) nc) (mC (mkI b) ni) (mC (mkP n) np) (.slice none 0 0) (.slice none 0 0) (.slice none 0 0) (.slice none 0 0) 0 0 0 0 [] [] [] [] w)
        case first =>
          go_wp2_with fail
          go_loopg [9] np (fun m iv w => ∃ k : Nat, iv = .int .i64 (k : Int) ∧ k + m = np ∧ OwnAt B W X R O q (mkS n) (mkC n) (mkI b) (mkP n) (.slice ds ns ks) (.slice dc nc kc) (.slice di ni ki) (.slice dp np kp) ns nc ni np (mC (mkS n) ns) (mC (mkC n) nc) (mC (mkI b) ni) (mC (mkP n) k ++ xp.drop (k * 2)) (.slice none 0 0) (.slice none 0 0) (.slice none 0 0) (.slice none 0 0) 0 0 0 0 [] [] [] [] w)
          case atStart => exact ⟨0, rfl, by omega, by rw [mC_zero, Nat.zero_mul, List.drop_zero, List.nil_append]; exact H3.out⟩
          case round =>
            obtain ⟨k, rfl, hk, hq⟩ := hrel
            have HQ := Lib.hid hq
            clear H3
            have cx : wr.cell? ⟨X, 16, none⟩ = some (.slice dp np kp) := (hq.lx.cell 16).trans rfl
            by_cases hlt : k < np
            · obtain ⟨g, hao⟩ : ∃ g, dp = some ⟨g, 0, none⟩ := by
                  obtain ⟨g, cap, e, _⟩ := hq.rp.form (by omega)
                  injection e with e; exact ⟨g, e⟩
              subst hao
              obtain ⟨cur, hloc, _, hsz, _⟩ := row_loc' hq.rp
              have hkk : (k + 1) * 2 ≤ np * 2 := Nat.mul_le_mul_right 2 hlt
              obtain ⟨y0, hy0⟩ : ∃ y, cur[k * 2]? = some y := ⟨_, Array.getElem?_eq_getElem (by omega)⟩
              obtain ⟨y1, hy1⟩ : ∃ y, cur[k * 2 + 1]? = some y := ⟨_, Array.getElem?_eq_getElem (by omega)⟩
              have hki : (k : Int) < (np : Int) := by omega
              have HD := Lib.hid (HQ.out.drew 1)
              have hlocD := hloc.drew 1
              have w0 : wr.drew.cell? ⟨g, k * 2, none⟩ = some y0 := (hlocD.cell _).trans hy0
              have z0 : wr.drew.frozen? ⟨g, k * 2, none⟩ = false := hlocD.free _
              have w1 : wr.drew.cell? ⟨g, k * 2 + 1, none⟩ = some y1 := (hlocD.cell _).trans hy1
              have z1 : wr.drew.frozen? ⟨g, k * 2 + 1, none⟩ = false := hlocD.free _
              have cxd : wr.drew.cell? ⟨X, 16, none⟩ = some (.slice (some ⟨g, 0, none⟩) np kp) := cx
              clear hq
              go_upto_region 17 with fail
              go_region_with (go_at_call 51; refine (pairMark _ _).mono ?_; rintro e w5 ⟨rfl, hb5⟩; have H5 := Lib.hid (HD.out.later hb5); have hloc5 := hlocD.grown (grown_below hb5 none) (by simp); have c5 : w5.cell? ⟨X, 16, none⟩ = some (.slice (some ⟨g, 0, none⟩) np kp) := (H5.out.lx.cell 16).trans rfl; have p0 : w5.cell? ⟨g, k * 2, none⟩ = some y0 := (hloc5.cell _).trans hy0; have f0 : w5.frozen? ⟨g, k * 2, none⟩ = false := hloc5.free _; have p1 : w5.cell? ⟨g, k * 2 + 1, none⟩ = some y1 := (hloc5.cell _).trans hy1; have f1 : w5.frozen? ⟨g, k * 2 + 1, none⟩ = false := hloc5.free _; clear hb5)
              all_goals
                have H6a : OwnAt B W X R O q (mkS n) (mkC n) (mkI b) (mkP n) (.slice ds ns ks) (.slice dc nc kc) (.slice di ni ki) (.slice (some ⟨g, 0, none⟩) np kp) ns nc ni np (mC (mkS n) ns) (mC (mkC n) nc) (mC (mkI b) ni) (mC (mkP n) (k + 1) ++ xp.drop ((k + 1) * 2)) (.slice none 0 0) (.slice none 0 0) (.slice none 0 0) (.slice none 0 0) 0 0 0 0 [] [] [] [] (w5.setCells g (k * 2) (mkP n)) := H5.out.fill_p (grown_setMany g (mkP n) (k * 2) w5) (row_fill H5.out.rp rfl hlt)
                have H6 : Hid (OwnAt B W X R O q (mkS n) (mkC n) (mkI b) (mkP n) (.slice ds ns ks) (.slice dc nc kc) (.slice di ni ki) (.slice (some ⟨g, 0, none⟩) np kp) ns nc ni np (mC (mkS n) ns) (mC (mkC n) nc) (mC (mkI b) ni) (mC (mkP n) (k + 1) ++ xp.drop ((k + 1) * 2)) (.slice none 0 0) (.slice none 0 0) (.slice none 0 0) (.slice none 0 0) 0 0 0 0 [] [] [] [] ((w5.setCell ⟨g, k * 2, none⟩ (.string ⟨#[111, 119, 110]⟩)).setCell ⟨g, k * 2 + 1, none⟩ (.int .i64 n))) := by
                  have e := set_2 w5 g (k * 2) (.string ⟨#[111, 119, 110]⟩) (.int .i64 n)
                  show OwnAt B W X R O q (mkS n) (mkC n) (mkI b) (mkP n) (.slice ds ns ks) (.slice dc nc kc) (.slice di ni ki) (.slice (some ⟨g, 0, none⟩) np kp) ns nc ni np (mC (mkS n) ns) (mC (mkC n) nc) (mC (mkI b) ni) (mC (mkP n) (k + 1) ++ xp.drop ((k + 1) * 2)) (.slice none 0 0) (.slice none 0 0) (.slice none 0 0) (.slice none 0 0) 0 0 0 0 [] [] [] [] _
                  rw [e]; exact H6a
                clear p0 f0 p1 f1 c5 H5 H6a
                go_wp2_with fail
                go_roundg (gk - 1)
                case measure => omega
                case rel => exact ⟨k + 1, by simp, by omega, H6.out⟩
            · have hki : ¬ (k : Int) < (np : Int) := by omega
              have hk2 : k = np := by omega
              go_wp2_with fail
              go_meet
              case rel =>
                have h := HQ.out
                have e : mC (mkP n) k ++ xp.drop (k * 2) = mC (mkP n) np := by rw [hk2, List.drop_eq_nil_of_le (by rw [HXp.out]; exact Nat.le_refl _), List.append_nil]
                rw [e] at h; exact h
        case rest =>
          clear H3
          have H4 := Lib.hid hcut
          clear hcut
          go_upto_block 8 with fail
          go_cut [10] (fun _ w => ∃ vs vc vi vp os oc oi op us uc ui up, OwnAt B W X R O q (mkS n) (mkC n) (mkI b) (mkP n) vs vc vi vp (ns + 4) (nc + 4) (ni + 4) (np + 4) (mC (mkS n) (ns + 4)) (mC (mkC n) (nc + 4)) (mC (mkI b) (ni + 4)) (mC (mkP n) (np + 4)) os oc oi op 4 4 4 4 us uc ui up w)
          case first =>
            go_wp2_with fail
            go_loopg [10] 4 (fun m iv w => ∃ (k : Nat) (vs vc vi vp os oc oi op : Value) (us uc ui up : List Value), iv = .int .i64 (k : Int) ∧ k + m = 4 ∧ OwnAt B W X R O q (mkS n) (mkC n) (mkI b) (mkP n) vs vc vi vp (ns + k) (nc + k) (ni + k) (np + k) (mC (mkS n) (ns + k)) (mC (mkC n) (nc + k)) (mC (mkI b) (ni + k)) (mC (mkP n) (np + k)) os oc oi op k k k k us uc ui up w)
            case atStart => exact ⟨0, _, _, _, _, _, _, _, _, [], [], [], [], rfl, by omega, H4.out⟩
            case round =>
              obtain ⟨k, vs, vc, vi, vp, os, oc, oi, op, us, uc, ui, up, rfl, hk, hq⟩ := hrel
              clear H4
              by_cases hlt : k < 4
              · obtain ⟨ps, ts, rfl⟩ := row_shape hq.rs
                obtain ⟨es, qqs, rfl⟩ := row_shape hq.ls
                obtain ⟨pc, tc, rfl⟩ := row_shape hq.rc
                obtain ⟨ec, qqc, rfl⟩ := row_shape hq.lc
                obtain ⟨pi, ti, rfl⟩ := row_shape hq.ri
                obtain ⟨ei, qqi, rfl⟩ := row_shape hq.li
                obtain ⟨pp, tp, rfl⟩ := row_shape hq.rp
                obtain ⟨ep, qqp, rfl⟩ := row_shape hq.lp
                have HQ := Lib.hid hq
                clear hq
                have hki : (k : Int) < 4 := by omega
                have cO : wr.cell? ⟨O, 0, none⟩ = some (.slice es k qqs) := (HQ.out.lo.cell 0).trans rfl
                have cX : wr.cell? ⟨X, 1, none⟩ = some (.slice ps (ns + k) ts) := (HQ.out.lx.cell 1).trans rfl
                have HD : Hid (OwnAt B W X R O q (mkS n) (mkC n) (mkI b) (mkP n) (.slice ps (ns + k) ts) (.slice pc (nc + k) tc) (.slice pi (ni + k) ti) (.slice pp (np + k) tp) (ns + k) (nc + k) (ni + k) (np + k) (mC (mkS n) (ns + k)) (mC (mkC n) (nc + k)) (mC (mkI b) (ni + k)) (mC (mkP n) (np + k)) (.slice es k qqs) (.slice ec k qqc) (.slice ei k qqi) (.slice ep k qqp) k k k k us uc ui up (wr.alloc (.cells #[.slice ps (ns + k) ts] 22))) := HQ.out.alloc _
                go_upto_region 22 with (at_builtin; go_must (refine wpList_append_lies _ rfl _ _ 34 rfl B 22 gs (.slice none 0 0) 1 24 Tryz.underlying34 hgs hqqs0 hqqs1 hqqs2 rfl (by decide) (.slice es k qqs) _ _ rfl HD.out.ls _ 1 1 [.slice ps (ns + k) ts] rfl rfl (World.news_of_block (heap_alloc_new wr _)) slice_one (by omega) (by unfold maxLen; omega) (by omega) (Nat.le_trans HD.out.hB HD.out.low.size) _ rfl ?_; intro g2 cap2 w5 hown hgrow _ _; have l5 := HD.out.lo.byRow HD.out.ls hgrow (by decide); have c5 : w5.cell? ⟨O, 0, none⟩ = some (.slice es k qqs) := (l5.cell 0).trans rfl; have f5 : w5.frozen? ⟨O, 0, none⟩ = false := l5.free 0; have H5 := Lib.hid (HD.out.list_s hgrow hown); clear l5 hown hgrow))
                generalize w5.setCell ⟨O, 0, none⟩ (.slice (some ⟨g2, 0, none⟩) (k + 1) cap2) = L0 at H5 ⊢
                obtain ⟨ys, hys⟩ : ∃ y, y = g2 := ⟨_, rfl⟩
                obtain ⟨zs, hzzs⟩ : ∃ y, y = cap2 := ⟨_, rfl⟩
                rw [← hys, ← hzzs] at H5
                clear hys hzzs cO cX HD c5 f5 HQ
                have HL0 : Hid (OwnAt B W X R O q (mkS n) (mkC n) (mkI b) (mkP n) (.slice ps (ns + k) ts) (.slice pc (nc + k) tc) (.slice pi (ni + k) ti) (.slice pp (np + k) tp) (ns + k) (nc + k) (ni + k) (np + k) (mC (mkS n) (ns + k)) (mC (mkC n) (nc + k)) (mC (mkI b) (ni + k)) (mC (mkP n) (np + k)) (.slice (some ⟨ys, 0, none⟩) (k + 1) zs) (.slice ec k qqc) (.slice ei k qqi) (.slice ep k qqp) (k + 1) k k k (us ++ [.slice ps (ns + k) ts]) uc ui up L0) := H5.out
                clear H5
                have cO : L0.cell? ⟨O, 1, none⟩ = some (.slice ec k qqc) := (HL0.out.lo.cell 1).trans rfl
                have cX : L0.cell? ⟨X, 2, none⟩ = some (.slice pc (nc + k) tc) := (HL0.out.lx.cell 2).trans rfl
                have HD : Hid (OwnAt B W X R O q (mkS n) (mkC n) (mkI b) (mkP n) (.slice ps (ns + k) ts) (.slice pc (nc + k) tc) (.slice pi (ni + k) ti) (.slice pp (np + k) tp) (ns + k) (nc + k) (ni + k) (np + k) (mC (mkS n) (ns + k)) (mC (mkC n) (nc + k)) (mC (mkI b) (ni + k)) (mC (mkP n) (np + k)) (.slice (some ⟨ys, 0, none⟩) (k + 1) zs) (.slice ec k qqc) (.slice ei k qqi) (.slice ep k qqp) (k + 1) k k k (us ++ [.slice ps (ns + k) ts]) uc ui up (L0.alloc (.cells #[.slice pc (nc + k) tc] 23))) := HL0.out.alloc _
                go_upto_region 23 with (at_builtin; go_must (refine wpList_append_lies _ rfl _ _ 35 rfl B 23 gc (.slice none 0 0) 1 24 Tryz.underlying35 hgc hqqc0 hqqc1 hqqc2 rfl (by decide) (.slice ec k qqc) _ _ rfl HD.out.lc _ 1 1 [.slice pc (nc + k) tc] rfl rfl (World.news_of_block (heap_alloc_new L0 _)) slice_one (by omega) (by unfold maxLen; omega) (by omega) (Nat.le_trans HD.out.hB HD.out.low.size) _ rfl ?_; intro g2 cap2 w5 hown hgrow _ _; have l5 := HD.out.lo.byRow HD.out.lc hgrow (by decide); have c5 : w5.cell? ⟨O, 1, none⟩ = some (.slice ec k qqc) := (l5.cell 1).trans rfl; have f5 : w5.frozen? ⟨O, 1, none⟩ = false := l5.free 1; have H5 := Lib.hid (HD.out.list_c hgrow hown); clear l5 hown hgrow))
                generalize w5.setCell ⟨O, 1, none⟩ (.slice (some ⟨g2, 0, none⟩) (k + 1) cap2) = L1 at H5 ⊢
                obtain ⟨yc, hyc⟩ : ∃ y, y = g2 := ⟨_, rfl⟩
                obtain ⟨zc, hzzc⟩ : ∃ y, y = cap2 := ⟨_, rfl⟩
                rw [← hyc, ← hzzc] at H5
                clear hyc hzzc cO cX HD c5 f5 HL0
                have HL1 : Hid (OwnAt B W X R O q (mkS n) (mkC n) (mkI b) (mkP n) (.slice ps (ns + k) ts) (.slice pc (nc + k) tc) (.slice pi (ni + k) ti) (.slice pp (np + k) tp) (ns + k) (nc + k) (ni + k) (np + k) (mC (mkS n) (ns + k)) (mC (mkC n) (nc + k)) (mC (mkI b) (ni + k)) (mC (mkP n) (np + k)) (.slice (some ⟨ys, 0, none⟩) (k + 1) zs) (.slice (some ⟨yc, 0, none⟩) (k + 1) zc) (.slice ei k qqi) (.slice ep k qqp) (k + 1) (k + 1) k k (us ++ [.slice ps (ns + k) ts]) (uc ++ [.slice pc (nc + k) tc]) ui up L1) := H5.out
                clear H5
                have cO : L1.cell? ⟨O, 2, none⟩ = some (.slice ei k qqi) := (HL1.out.lo.cell 2).trans rfl
                have cX : L1.cell? ⟨X, 3, none⟩ = some (.slice pi (ni + k) ti) := (HL1.out.lx.cell 3).trans rfl
                have HD : Hid (OwnAt B W X R O q (mkS n) (mkC n) (mkI b) (mkP n) (.slice ps (ns + k) ts) (.slice pc (nc + k) tc) (.slice pi (ni + k) ti) (.slice pp (np + k) tp) (ns + k) (nc + k) (ni + k) (np + k) (mC (mkS n) (ns + k)) (mC (mkC n) (nc + k)) (mC (mkI b) (ni + k)) (mC (mkP n) (np + k)) (.slice (some ⟨ys, 0, none⟩) (k + 1) zs) (.slice (some ⟨yc, 0, none⟩) (k + 1) zc) (.slice ei k qqi) (.slice ep k qqp) (k + 1) (k + 1) k k (us ++ [.slice ps (ns + k) ts]) (uc ++ [.slice pc (nc + k) tc]) ui up (L1.alloc (.cells #[.slice pi (ni + k) ti] 24))) := HL1.out.alloc _
                go_upto_region 24 with (at_builtin; go_must (refine wpList_append_lies _ rfl _ _ 36 rfl B 24 gi (.slice none 0 0) 1 24 Tryz.underlying36 hgi hqqi0 hqqi1 hqqi2 rfl (by decide) (.slice ei k qqi) _ _ rfl HD.out.li _ 1 1 [.slice pi (ni + k) ti] rfl rfl (World.news_of_block (heap_alloc_new L1 _)) slice_one (by omega) (by unfold maxLen; omega) (by omega) (Nat.le_trans HD.out.hB HD.out.low.size) _ rfl ?_; intro g2 cap2 w5 hown hgrow _ _; have l5 := HD.out.lo.byRow HD.out.li hgrow (by decide); have c5 : w5.cell? ⟨O, 2, none⟩ = some (.slice ei k qqi) := (l5.cell 2).trans rfl; have f5 : w5.frozen? ⟨O, 2, none⟩ = false := l5.free 2; have H5 := Lib.hid (HD.out.list_i hgrow hown); clear l5 hown hgrow))
                generalize w5.setCell ⟨O, 2, none⟩ (.slice (some ⟨g2, 0, none⟩) (k + 1) cap2) = L2 at H5 ⊢
                obtain ⟨yi, hyi⟩ : ∃ y, y = g2 := ⟨_, rfl⟩
                obtain ⟨zi, hzzi⟩ : ∃ y, y = cap2 := ⟨_, rfl⟩
                rw [← hyi, ← hzzi] at H5
                clear hyi hzzi cO cX HD c5 f5 HL1
                have HL2 : Hid (OwnAt B W X R O q (mkS n) (mkC n) (mkI b) (mkP n) (.slice ps (ns + k) ts) (.slice pc (nc + k) tc) (.slice pi (ni + k) ti) (.slice pp (np + k) tp) (ns + k) (nc + k) (ni + k) (np + k) (mC (mkS n) (ns + k)) (mC (mkC n) (nc + k)) (mC (mkI b) (ni + k)) (mC (mkP n) (np + k)) (.slice (some ⟨ys, 0, none⟩) (k + 1) zs) (.slice (some ⟨yc, 0, none⟩) (k + 1) zc) (.slice (some ⟨yi, 0, none⟩) (k + 1) zi) (.slice ep k qqp) (k + 1) (k + 1) (k + 1) k (us ++ [.slice ps (ns + k) ts]) (uc ++ [.slice pc (nc + k) tc]) (ui ++ [.slice pi (ni + k) ti]) up L2) := H5.out
                clear H5
                have cO : L2.cell? ⟨O, 3, none⟩ = some (.slice ep k qqp) := (HL2.out.lo.cell 3).trans rfl
                have cX : L2.cell? ⟨X, 16, none⟩ = some (.slice pp (np + k) tp) := (HL2.out.lx.cell 16).trans rfl
                have HD : Hid (OwnAt B W X R O q (mkS n) (mkC n) (mkI b) (mkP n) (.slice ps (ns + k) ts) (.slice pc (nc + k) tc) (.slice pi (ni + k) ti) (.slice pp (np + k) tp) (ns + k) (nc + k) (ni + k) (np + k) (mC (mkS n) (ns + k)) (mC (mkC n) (nc + k)) (mC (mkI b) (ni + k)) (mC (mkP n) (np + k)) (.slice (some ⟨ys, 0, none⟩) (k + 1) zs) (.slice (some ⟨yc, 0, none⟩) (k + 1) zc) (.slice (some ⟨yi, 0, none⟩) (k + 1) zi) (.slice ep k qqp) (k + 1) (k + 1) (k + 1) k (us ++ [.slice ps (ns + k) ts]) (uc ++ [.slice pc (nc + k) tc]) (ui ++ [.slice pi (ni + k) ti]) up (L2.alloc (.cells #[.slice pp (np + k) tp] 27))) := HL2.out.alloc _
                go_upto_region 25 with (at_builtin; go_must (refine wpList_append_lies _ rfl _ _ 37 rfl B 27 gp (.slice none 0 0) 1 24 Tryz.underlying37 hgp hqqp0 hqqp1 hqqp2 rfl (by decide) (.slice ep k qqp) _ _ rfl HD.out.lp _ 1 1 [.slice pp (np + k) tp] rfl rfl (World.news_of_block (heap_alloc_new L2 _)) slice_one (by omega) (by unfold maxLen; omega) (by omega) (Nat.le_trans HD.out.hB HD.out.low.size) _ rfl ?_; intro g2 cap2 w5 hown hgrow _ _; have l5 := HD.out.lo.byRow HD.out.lp hgrow (by decide); have c5 : w5.cell? ⟨O, 3, none⟩ = some (.slice ep k qqp) := (l5.cell 3).trans rfl; have f5 : w5.frozen? ⟨O, 3, none⟩ = false := l5.free 3; have H5 := Lib.hid (HD.out.list_p hgrow hown); clear l5 hown hgrow))
                generalize w5.setCell ⟨O, 3, none⟩ (.slice (some ⟨g2, 0, none⟩) (k + 1) cap2) = L3 at H5 ⊢
                obtain ⟨yp, hyp⟩ : ∃ y, y = g2 := ⟨_, rfl⟩
                obtain ⟨zp, hzzp⟩ : ∃ y, y = cap2 := ⟨_, rfl⟩
                rw [← hyp, ← hzzp] at H5
                clear hyp hzzp cO cX HD c5 f5 HL2
                have HL3 : Hid (OwnAt B W X R O q (mkS n) (mkC n) (mkI b) (mkP n) (.slice ps (ns + k) ts) (.slice pc (nc + k) tc) (.slice pi (ni + k) ti) (.slice pp (np + k) tp) (ns + k) (nc + k) (ni + k) (np + k) (mC (mkS n) (ns + k)) (mC (mkC n) (nc + k)) (mC (mkI b) (ni + k)) (mC (mkP n) (np + k)) (.slice (some ⟨ys, 0, none⟩) (k + 1) zs) (.slice (some ⟨yc, 0, none⟩) (k + 1) zc) (.slice (some ⟨yi, 0, none⟩) (k + 1) zi) (.slice (some ⟨yp, 0, none⟩) (k + 1) zp) (k + 1) (k + 1) (k + 1) (k + 1) (us ++ [.slice ps (ns + k) ts]) (uc ++ [.slice pc (nc + k) tc]) (ui ++ [.slice pi (ni + k) ti]) (up ++ [.slice pp (np + k) tp]) L3) := H5.out
                clear H5
                go_cut [] (fun w => ∃ hs is, OwnAt B W X R O q (mkS n) (mkC n) (mkI b) (mkP n) (.slice (some ⟨hs, 0, none⟩) (ns + k + 1) is) (.slice pc (nc + k) tc) (.slice pi (ni + k) ti) (.slice pp (np + k) tp) (ns + k + 1) (nc + k) (ni + k) (np + k) (mC (mkS n) (ns + k + 1)) (mC (mkC n) (nc + k)) (mC (mkI b) (ni + k)) (mC (mkP n) (np + k)) (.slice (some ⟨ys, 0, none⟩) (k + 1) zs) (.slice (some ⟨yc, 0, none⟩) (k + 1) zc) (.slice (some ⟨yi, 0, none⟩) (k + 1) zi) (.slice (some ⟨yp, 0, none⟩) (k + 1) zp) (k + 1) (k + 1) (k + 1) (k + 1) (us ++ [.slice ps (ns + k) ts]) (uc ++ [.slice pc (nc + k) tc]) (ui ++ [.slice pi (ni + k) ti]) (up ++ [.slice pp (np + k) tp]) w)
                case first =>
                  have cX : L3.cell? ⟨X, 1, none⟩ = some (.slice ps (ns + k) ts) := (HL3.out.lx.cell 1).trans rfl
                  have HD : Hid (OwnAt B W X R O q (mkS n) (mkC n) (mkI b) (mkP n) (.slice ps (ns + k) ts) (.slice pc (nc + k) tc) (.slice pi (ni + k) ti) (.slice pp (np + k) tp) (ns + k) (nc + k) (ni + k) (np + k) (mC (mkS n) (ns + k)) (mC (mkC n) (nc + k)) (mC (mkI b) (ni + k)) (mC (mkP n) (np + k)) (.slice (some ⟨ys, 0, none⟩) (k + 1) zs) (.slice (some ⟨yc, 0, none⟩) (k + 1) zc) (.slice (some ⟨yi, 0, none⟩) (k + 1) zi) (.slice (some ⟨yp, 0, none⟩) (k + 1) zp) (k + 1) (k + 1) (k + 1) (k + 1) (us ++ [.slice ps (ns + k) ts]) (uc ++ [.slice pc (nc + k) tc]) (ui ++ [.slice pi (ni + k) ti]) (up ++ [.slice pp (np + k) tp]) L3.drew) := HL3.out.drew 1
                  have cXd : L3.drew.cell? ⟨X, 1, none⟩ = some (.slice ps (ns + k) ts) := cX
                  go_region_law (first | (refine step_call1 _ rfl 48 _ _ Tryz.callS rfl (.int .i64 n) _ (by simp [Act.eval, Act.put]) (spotMark _ _) ?_; intro w5 hb5; have H5 := Lib.hid (HD.out.later hb5); have c5 : w5.cell? ⟨X, 1, none⟩ = some (.slice ps (ns + k) ts) := (H5.out.lx.cell 1).trans rfl; have f5 : w5.frozen? ⟨X, 1, none⟩ = false := H5.out.lx.free 1; have HE : Hid (OwnAt B W X R O q (mkS n) (mkC n) (mkI b) (mkP n) (.slice ps (ns + k) ts) (.slice pc (nc + k) tc) (.slice pi (ni + k) ti) (.slice pp (np + k) tp) (ns + k) (nc + k) (ni + k) (np + k) (mC (mkS n) (ns + k)) (mC (mkC n) (nc + k)) (mC (mkI b) (ni + k)) (mC (mkP n) (np + k)) (.slice (some ⟨ys, 0, none⟩) (k + 1) zs) (.slice (some ⟨yc, 0, none⟩) (k + 1) zc) (.slice (some ⟨yi, 0, none⟩) (k + 1) zi) (.slice (some ⟨yp, 0, none⟩) (k + 1) zp) (k + 1) (k + 1) (k + 1) (k + 1) (us ++ [.slice ps (ns + k) ts]) (uc ++ [.slice pc (nc + k) tc]) (ui ++ [.slice pi (ni + k) ti]) (up ++ [.slice pp (np + k) tp]) (w5.alloc (.cells #[.string ⟨#[111, 119, 110]⟩, .string ⟨#[]⟩, .string ⟨#[]⟩, .int .i64 n, .int .i64 0] 85))) := H5.out.alloc _; have c6 : (w5.alloc (.cells #[.string ⟨#[111, 119, 110]⟩, .string ⟨#[]⟩, .string ⟨#[]⟩, .int .i64 n, .int .i64 0] 85)).cell? ⟨X, 1, none⟩ = some (.slice ps (ns + k) ts) := (HE.out.lx.cell 1).trans rfl; clear hb5) | (refine step_append_stays _ rfl _ _ 22 rfl B 85 js (.agg #[.string ⟨#[]⟩, .string ⟨#[]⟩, .string ⟨#[]⟩, .int .i64 0, .int .i64 0]) 5 64 Tryz.underlying22 hjs hzs0 hzs1 hzs2 rfl (by decide) (.slice ps (ns + k) ts) _ _ (by simp [Act.eval]) HE.out.rs ⟨w5.heap.size, 0, none⟩ 1 1 [.string ⟨#[111, 119, 110]⟩, .string ⟨#[]⟩, .string ⟨#[]⟩, .int .i64 n, .int .i64 0] (by simp [Act.eval]) rfl (World.news_of_block (heap_alloc_new w5 _)) five_one (by omega) (by unfold maxLen; omega) (by omega) (Nat.le_trans HE.out.hB HE.out.low.size) ?_; intro g2 cap2 w6 hown hgrow hold; have l6 := HE.out.lx.byRow HE.out.rs hgrow (by decide); have c7 : w6.cell? ⟨X, 1, none⟩ = some (.slice ps (ns + k) ts) := (l6.cell 1).trans rfl; have f7 : w6.frozen? ⟨X, 1, none⟩ = false := l6.free 1; have H7 := Lib.hid (HE.out.grow_s rfl hgrow hown hold); clear l6 hown hgrow hold))
                  all_goals
                    go_wp2_with fail
                    go_meet
                    case rel => exact ⟨_, _, H7.out⟩
                case rest =>
                  clear HL3
                  obtain ⟨hs, is, hq⟩ := hcut
                  have HG0 := Lib.hid hq
                  clear hq
                  go_upto_region 26 with fail
                  go_cut [] (fun w => ∃ hc ic, OwnAt B W X R O q (mkS n) (mkC n) (mkI b) (mkP n) (.slice (some ⟨hs, 0, none⟩) (ns + k + 1) is) (.slice (some ⟨hc, 0, none⟩) (nc + k + 1) ic) (.slice pi (ni + k) ti) (.slice pp (np + k) tp) (ns + k + 1) (nc + k + 1) (ni + k) (np + k) (mC (mkS n) (ns + k + 1)) (mC (mkC n) (nc + k + 1)) (mC (mkI b) (ni + k)) (mC (mkP n) (np + k)) (.slice (some ⟨ys, 0, none⟩) (k + 1) zs) (.slice (some ⟨yc, 0, none⟩) (k + 1) zc) (.slice (some ⟨yi, 0, none⟩) (k + 1) zi) (.slice (some ⟨yp, 0, none⟩) (k + 1) zp) (k + 1) (k + 1) (k + 1) (k + 1) (us ++ [.slice ps (ns + k) ts]) (uc ++ [.slice pc (nc + k) tc]) (ui ++ [.slice pi (ni + k) ti]) (up ++ [.slice pp (np + k) tp]) w)
                  case first =>
                    have cX : wc.cell? ⟨X, 2, none⟩ = some (.slice pc (nc + k) tc) := (HG0.out.lx.cell 2).trans rfl
                    have HD : Hid (OwnAt B W X R O q (mkS n) (mkC n) (mkI b) (mkP n) (.slice (some ⟨hs, 0, none⟩) (ns + k + 1) is) (.slice pc (nc + k) tc) (.slice pi (ni + k) ti) (.slice pp (np + k) tp) (ns + k + 1) (nc + k) (ni + k) (np + k) (mC (mkS n) (ns + k + 1)) (mC (mkC n) (nc + k)) (mC (mkI b) (ni + k)) (mC (mkP n) (np + k)) (.slice (some ⟨ys, 0, none⟩) (k + 1) zs) (.slice (some ⟨yc, 0, none⟩) (k + 1) zc) (.slice (some ⟨yi, 0, none⟩) (k + 1) zi) (.slice (some ⟨yp, 0, none⟩) (k + 1) zp) (k + 1) (k + 1) (k + 1) (k + 1) (us ++ [.slice ps (ns + k) ts]) (uc ++ [.slice pc (nc + k) tc]) (ui ++ [.slice pi (ni + k) ti]) (up ++ [.slice pp (np + k) tp]) wc.drew) := HG0.out.drew 1
                    have cXd : wc.drew.cell? ⟨X, 2, none⟩ = some (.slice pc (nc + k) tc) := cX
                    go_region_law (first | (refine step_call1 _ rfl 49 _ _ Tryz.callC rfl (.int .i64 n) _ (by simp [Act.eval, Act.put]) (condMark _ _) ?_; intro w5 hb5; have H5 := Lib.hid (HD.out.later hb5); have c5 : w5.cell? ⟨X, 2, none⟩ = some (.slice pc (nc + k) tc) := (H5.out.lx.cell 2).trans rfl; have f5 : w5.frozen? ⟨X, 2, none⟩ = false := H5.out.lx.free 2; have HE : Hid (OwnAt B W X R O q (mkS n) (mkC n) (mkI b) (mkP n) (.slice (some ⟨hs, 0, none⟩) (ns + k + 1) is) (.slice pc (nc + k) tc) (.slice pi (ni + k) ti) (.slice pp (np + k) tp) (ns + k + 1) (nc + k) (ni + k) (np + k) (mC (mkS n) (ns + k + 1)) (mC (mkC n) (nc + k)) (mC (mkI b) (ni + k)) (mC (mkP n) (np + k)) (.slice (some ⟨ys, 0, none⟩) (k + 1) zs) (.slice (some ⟨yc, 0, none⟩) (k + 1) zc) (.slice (some ⟨yi, 0, none⟩) (k + 1) zi) (.slice (some ⟨yp, 0, none⟩) (k + 1) zp) (k + 1) (k + 1) (k + 1) (k + 1) (us ++ [.slice ps (ns + k) ts]) (uc ++ [.slice pc (nc + k) tc]) (ui ++ [.slice pi (ni + k) ti]) (up ++ [.slice pp (np + k) tp]) (w5.alloc (.cells #[.int .i64 n, .string ⟨#[]⟩, .string ⟨#[]⟩, .int .i64 0, .string ⟨#[]⟩, .string ⟨#[]⟩, .int .i64 0] 87))) := H5.out.alloc _; have c6 : (w5.alloc (.cells #[.int .i64 n, .string ⟨#[]⟩, .string ⟨#[]⟩, .int .i64 0, .string ⟨#[]⟩, .string ⟨#[]⟩, .int .i64 0] 87)).cell? ⟨X, 2, none⟩ = some (.slice pc (nc + k) tc) := (HE.out.lx.cell 2).trans rfl; clear hb5) | (refine step_append_stays _ rfl _ _ 23 rfl B 87 jc (.agg #[.int .i64 0, .string ⟨#[]⟩, .string ⟨#[]⟩, .int .i64 0, .string ⟨#[]⟩, .string ⟨#[]⟩, .int .i64 0]) 7 88 Tryz.underlying23 hjc hzc0 hzc1 hzc2 rfl (by decide) (.slice pc (nc + k) tc) _ _ (by simp [Act.eval]) HE.out.rc ⟨w5.heap.size, 0, none⟩ 1 1 [.int .i64 n, .string ⟨#[]⟩, .string ⟨#[]⟩, .int .i64 0, .string ⟨#[]⟩, .string ⟨#[]⟩, .int .i64 0] (by simp [Act.eval]) rfl (World.news_of_block (heap_alloc_new w5 _)) seven_one (by omega) (by unfold maxLen; omega) (by omega) (Nat.le_trans HE.out.hB HE.out.low.size) ?_; intro g2 cap2 w6 hown hgrow hold; have l6 := HE.out.lx.byRow HE.out.rc hgrow (by decide); have c7 : w6.cell? ⟨X, 2, none⟩ = some (.slice pc (nc + k) tc) := (l6.cell 2).trans rfl; have f7 : w6.frozen? ⟨X, 2, none⟩ = false := l6.free 2; have H7 := Lib.hid (HE.out.grow_c rfl hgrow hown hold); clear l6 hown hgrow hold))
                    all_goals
                      go_wp2_with fail
                      go_meet
                      case rel => exact ⟨_, _, H7.out⟩
                  case rest =>
                    clear HG0
                    obtain ⟨hc, ic, hq⟩ := hcut
                    have HG1 := Lib.hid hq
                    clear hq
                    go_upto_region 27 with fail
                    go_cut [] (fun w => ∃ hi ii, OwnAt B W X R O q (mkS n) (mkC n) (mkI b) (mkP n) (.slice (some ⟨hs, 0, none⟩) (ns + k + 1) is) (.slice (some ⟨hc, 0, none⟩) (nc + k + 1) ic) (.slice (some ⟨hi, 0, none⟩) (ni + k + 1) ii) (.slice pp (np + k) tp) (ns + k + 1) (nc + k + 1) (ni + k + 1) (np + k) (mC (mkS n) (ns + k + 1)) (mC (mkC n) (nc + k + 1)) (mC (mkI b) (ni + k + 1)) (mC (mkP n) (np + k)) (.slice (some ⟨ys, 0, none⟩) (k + 1) zs) (.slice (some ⟨yc, 0, none⟩) (k + 1) zc) (.slice (some ⟨yi, 0, none⟩) (k + 1) zi) (.slice (some ⟨yp, 0, none⟩) (k + 1) zp) (k + 1) (k + 1) (k + 1) (k + 1) (us ++ [.slice ps (ns + k) ts]) (uc ++ [.slice pc (nc + k) tc]) (ui ++ [.slice pi (ni + k) ti]) (up ++ [.slice pp (np + k) tp]) w)
                    case first =>
                      have cX : wc.cell? ⟨X, 3, none⟩ = some (.slice pi (ni + k) ti) := (HG1.out.lx.cell 3).trans rfl
                      have HD : Hid (OwnAt B W X R O q (mkS n) (mkC n) (mkI b) (mkP n) (.slice (some ⟨hs, 0, none⟩) (ns + k + 1) is) (.slice (some ⟨hc, 0, none⟩) (nc + k + 1) ic) (.slice pi (ni + k) ti) (.slice pp (np + k) tp) (ns + k + 1) (nc + k + 1) (ni + k) (np + k) (mC (mkS n) (ns + k + 1)) (mC (mkC n) (nc + k + 1)) (mC (mkI b) (ni + k)) (mC (mkP n) (np + k)) (.slice (some ⟨ys, 0, none⟩) (k + 1) zs) (.slice (some ⟨yc, 0, none⟩) (k + 1) zc) (.slice (some ⟨yi, 0, none⟩) (k + 1) zi) (.slice (some ⟨yp, 0, none⟩) (k + 1) zp) (k + 1) (k + 1) (k + 1) (k + 1) (us ++ [.slice ps (ns + k) ts]) (uc ++ [.slice pc (nc + k) tc]) (ui ++ [.slice pi (ni + k) ti]) (up ++ [.slice pp (np + k) tp]) wc.drew) := HG1.out.drew 1
                      have cXd : wc.drew.cell? ⟨X, 3, none⟩ = some (.slice pi (ni + k) ti) := cX
                      go_region_law (first | (refine step_call1 _ rfl 50 _ _ Tryz.callI rfl (.int .i64 n) _ (by simp [Act.eval, Act.put]) (hitem _) ?_; intro w5 hb5; have H5 := Lib.hid (HD.out.later hb5); have c5 : w5.cell? ⟨X, 3, none⟩ = some (.slice pi (ni + k) ti) := (H5.out.lx.cell 3).trans rfl; have f5 : w5.frozen? ⟨X, 3, none⟩ = false := H5.out.lx.free 3; have HE : Hid (OwnAt B W X R O q (mkS n) (mkC n) (mkI b) (mkP n) (.slice (some ⟨hs, 0, none⟩) (ns + k + 1) is) (.slice (some ⟨hc, 0, none⟩) (nc + k + 1) ic) (.slice pi (ni + k) ti) (.slice pp (np + k) tp) (ns + k + 1) (nc + k + 1) (ni + k) (np + k) (mC (mkS n) (ns + k + 1)) (mC (mkC n) (nc + k + 1)) (mC (mkI b) (ni + k)) (mC (mkP n) (np + k)) (.slice (some ⟨ys, 0, none⟩) (k + 1) zs) (.slice (some ⟨yc, 0, none⟩) (k + 1) zc) (.slice (some ⟨yi, 0, none⟩) (k + 1) zi) (.slice (some ⟨yp, 0, none⟩) (k + 1) zp) (k + 1) (k + 1) (k + 1) (k + 1) (us ++ [.slice ps (ns + k) ts]) (uc ++ [.slice pc (nc + k) tc]) (ui ++ [.slice pi (ni + k) ti]) (up ++ [.slice pp (np + k) tp]) (w5.alloc (.cells #[.string ⟨#[111, 119, 110]⟩, .string ⟨#[b]⟩] 89))) := H5.out.alloc _; have c6 : (w5.alloc (.cells #[.string ⟨#[111, 119, 110]⟩, .string ⟨#[b]⟩] 89)).cell? ⟨X, 3, none⟩ = some (.slice pi (ni + k) ti) := (HE.out.lx.cell 3).trans rfl; clear hb5) | (refine step_append_stays _ rfl _ _ 24 rfl B 89 ji (.agg #[.string ⟨#[]⟩, .string ⟨#[]⟩]) 2 32 Tryz.underlying24 hji hzi0 hzi1 hzi2 rfl (by decide) (.slice pi (ni + k) ti) _ _ (by simp [Act.eval]) HE.out.ri ⟨w5.heap.size, 0, none⟩ 1 1 [.string ⟨#[111, 119, 110]⟩, .string ⟨#[b]⟩] (by simp [Act.eval]) rfl (World.news_of_block (heap_alloc_new w5 _)) two_one (by omega) (by unfold maxLen; omega) (by omega) (Nat.le_trans HE.out.hB HE.out.low.size) ?_; intro g2 cap2 w6 hown hgrow hold; have l6 := HE.out.lx.byRow HE.out.ri hgrow (by decide); have c7 : w6.cell? ⟨X, 3, none⟩ = some (.slice pi (ni + k) ti) := (l6.cell 3).trans rfl; have f7 : w6.frozen? ⟨X, 3, none⟩ = false := l6.free 3; have H7 := Lib.hid (HE.out.grow_i rfl hgrow hown hold); clear l6 hown hgrow hold))
                      all_goals
                        go_wp2_with fail
                        go_meet
                        case rel => exact ⟨_, _, H7.out⟩
                    case rest =>
                      clear HG1
                      obtain ⟨hi, ii, hq⟩ := hcut
                      have HG2 := Lib.hid hq
                      clear hq
                      go_upto_region 28 with fail
                      have cX : wc.cell? ⟨X, 16, none⟩ = some (.slice pp (np + k) tp) := (HG2.out.lx.cell 16).trans rfl
                      have HD : Hid (OwnAt B W X R O q (mkS n) (mkC n) (mkI b) (mkP n) (.slice (some ⟨hs, 0, none⟩) (ns + k + 1) is) (.slice (some ⟨hc, 0, none⟩) (nc + k + 1) ic) (.slice (some ⟨hi, 0, none⟩) (ni + k + 1) ii) (.slice pp (np + k) tp) (ns + k + 1) (nc + k + 1) (ni + k + 1) (np + k) (mC (mkS n) (ns + k + 1)) (mC (mkC n) (nc + k + 1)) (mC (mkI b) (ni + k + 1)) (mC (mkP n) (np + k)) (.slice (some ⟨ys, 0, none⟩) (k + 1) zs) (.slice (some ⟨yc, 0, none⟩) (k + 1) zc) (.slice (some ⟨yi, 0, none⟩) (k + 1) zi) (.slice (some ⟨yp, 0, none⟩) (k + 1) zp) (k + 1) (k + 1) (k + 1) (k + 1) (us ++ [.slice ps (ns + k) ts]) (uc ++ [.slice pc (nc + k) tc]) (ui ++ [.slice pi (ni + k) ti]) (up ++ [.slice pp (np + k) tp]) wc.drew) := HG2.out.drew 1
                      have cXd : wc.drew.cell? ⟨X, 16, none⟩ = some (.slice pp (np + k) tp) := cX
                      go_region_law (first | (refine step_call1 _ rfl 51 _ _ Tryz.callP rfl (.int .i64 n) _ (by simp [Act.eval, Act.put]) (pairMark _ _) ?_; intro w5 hb5; have H5 := Lib.hid (HD.out.later hb5); have c5 : w5.cell? ⟨X, 16, none⟩ = some (.slice pp (np + k) tp) := (H5.out.lx.cell 16).trans rfl; have f5 : w5.frozen? ⟨X, 16, none⟩ = false := H5.out.lx.free 16; have HE : Hid (OwnAt B W X R O q (mkS n) (mkC n) (mkI b) (mkP n) (.slice (some ⟨hs, 0, none⟩) (ns + k + 1) is) (.slice (some ⟨hc, 0, none⟩) (nc + k + 1) ic) (.slice (some ⟨hi, 0, none⟩) (ni + k + 1) ii) (.slice pp (np + k) tp) (ns + k + 1) (nc + k + 1) (ni + k + 1) (np + k) (mC (mkS n) (ns + k + 1)) (mC (mkC n) (nc + k + 1)) (mC (mkI b) (ni + k + 1)) (mC (mkP n) (np + k)) (.slice (some ⟨ys, 0, none⟩) (k + 1) zs) (.slice (some ⟨yc, 0, none⟩) (k + 1) zc) (.slice (some ⟨yi, 0, none⟩) (k + 1) zi) (.slice (some ⟨yp, 0, none⟩) (k + 1) zp) (k + 1) (k + 1) (k + 1) (k + 1) (us ++ [.slice ps (ns + k) ts]) (uc ++ [.slice pc (nc + k) tc]) (ui ++ [.slice pi (ni + k) ti]) (up ++ [.slice pp (np + k) tp]) (w5.alloc (.cells #[.string ⟨#[111, 119, 110]⟩, .int .i64 n] 91))) := H5.out.alloc _; have c6 : (w5.alloc (.cells #[.string ⟨#[111, 119, 110]⟩, .int .i64 n] 91)).cell? ⟨X, 16, none⟩ = some (.slice pp (np + k) tp) := (HE.out.lx.cell 16).trans rfl; clear hb5) | (refine step_append_stays _ rfl _ _ 27 rfl B 91 jp (.agg #[.string ⟨#[]⟩, .int .i64 0]) 2 24 Tryz.underlying27 hjp hzp0 hzp1 hzp2 rfl (by decide) (.slice pp (np + k) tp) _ _ (by simp [Act.eval]) HE.out.rp ⟨w5.heap.size, 0, none⟩ 1 1 [.string ⟨#[111, 119, 110]⟩, .int .i64 n] (by simp [Act.eval]) rfl (World.news_of_block (heap_alloc_new w5 _)) pair_one (by omega) (by unfold maxLen; omega) (by omega) (Nat.le_trans HE.out.hB HE.out.low.size) ?_; intro g2 cap2 w6 hown hgrow hold; have l6 := HE.out.lx.byRow HE.out.rp hgrow (by decide); have c7 : w6.cell? ⟨X, 16, none⟩ = some (.slice pp (np + k) tp) := (l6.cell 16).trans rfl; have f7 : w6.frozen? ⟨X, 16, none⟩ = false := l6.free 16; have H7 := Lib.hid (HE.out.grow_p rfl hgrow hown hold); clear l6 hown hgrow hold))
                      all_goals
                        go_wp2_with fail
                        go_roundg (gk - 1)
                        case measure => omega
                        case rel => exact ⟨k + 1, _, _, _, _, _, _, _, _, _, _, _, _, by simp, by omega, H7.out⟩
              · have hki : ¬ (k : Int) < 4 := by omega
                have hk4 : k = 4 := by omega
                have HQ := Lib.hid hq
                clear hq
                go_wp2_with fail
                go_meet
                case rel =>
                  have h := HQ.out
                  rw [hk4] at h
                  exact ⟨_, _, _, _, _, _, _, _, _, _, _, _, h⟩
          case rest =>
            clear H4
            obtain ⟨vs, vc, vi, vp, os, oc, oi, op, us, uc, ui, up, hq⟩ := hcut
            obtain ⟨es, qqs, rfl⟩ := row_shape hq.ls
            obtain ⟨ec, qqc, rfl⟩ := row_shape hq.lc
            obtain ⟨ei, qqi, rfl⟩ := row_shape hq.li
            obtain ⟨ep, qqp, rfl⟩ := row_shape hq.lp
            have cO0 : wc.cell? ⟨O, 0, none⟩ = some (.slice es 4 qqs) := (hq.lo.cell 0).trans rfl
            have cR0 : wc.cell? ⟨R, 0, none⟩ = some (.slice none 0 0) := (hq.lr.cell 0).trans rfl
            have fR0 : wc.frozen? ⟨R, 0, none⟩ = false := hq.lr.free 0
            have cO1 : wc.cell? ⟨O, 1, none⟩ = some (.slice ec 4 qqc) := (hq.lo.cell 1).trans rfl
            have cR1 : wc.cell? ⟨R, 1, none⟩ = some (.slice none 0 0) := (hq.lr.cell 1).trans rfl
            have fR1 : wc.frozen? ⟨R, 1, none⟩ = false := hq.lr.free 1
            have cO2 : wc.cell? ⟨O, 2, none⟩ = some (.slice ei 4 qqi) := (hq.lo.cell 2).trans rfl
            have cR2 : wc.cell? ⟨R, 2, none⟩ = some (.slice none 0 0) := (hq.lr.cell 2).trans rfl
            have fR2 : wc.frozen? ⟨R, 2, none⟩ = false := hq.lr.free 2
            have cO3 : wc.cell? ⟨O, 3, none⟩ = some (.slice ep 4 qqp) := (hq.lo.cell 3).trans rfl
            have cR3 : wc.cell? ⟨R, 3, none⟩ = some (.slice none 0 0) := (hq.lr.cell 3).trans rfl
            have fR3 : wc.frozen? ⟨R, 3, none⟩ = false := hq.lr.free 3
            have HQ := Lib.hid hq
            clear hq
            go_wp2_with fail
            have hG : wc.grownBy ((((wc.setCell ⟨R, 0, none⟩ (.slice es 4 qqs)).setCell ⟨R, 1, none⟩ (.slice ec 4 qqc)).setCell ⟨R, 2, none⟩ (.slice ei 4 qqi)).setCell ⟨R, 3, none⟩ (.slice ep 4 qqp)) (some R) := grown_setMany R [.slice es 4 qqs, .slice ec 4 qqc, .slice ei 4 qqi, .slice ep 4 qqp] 0 wc
            have hF : Loc ((((wc.setCell ⟨R, 0, none⟩ (.slice es 4 qqs)).setCell ⟨R, 1, none⟩ (.slice ec 4 qqc)).setCell ⟨R, 2, none⟩ (.slice ei 4 qqi)).setCell ⟨R, 3, none⟩ (.slice ep 4 qqp)) R #[.slice es 4 qqs, .slice ec 4 qqc, .slice ei 4 qqi, .slice ep 4 qqp] 39 := ((((HQ.out.lr.set 0 _).set 1 _).set 2 _).set 3 _)
            generalize ((((wc.setCell ⟨R, 0, none⟩ (.slice es 4 qqs)).setCell ⟨R, 1, none⟩ (.slice ec 4 qqc)).setCell ⟨R, 2, none⟩ (.slice ei 4 qqi)).setCell ⟨R, 3, none⟩ (.slice ep 4 qqp)) = WF at hG hF ⊢
            refine bodyPost_ret (v := .agg #[.slice es 4 qqs, .slice ec 4 qqc, .slice ei 4 qqi, .slice ep 4 qqp]) ?_ rfl ⟨_, _, _, _, rfl, below_grown HQ.out.low HQ.out.hB hG (fun x e => by injection e with e; rw [← e]; exact HQ.out.br), ⟨_, HQ.out.ls.kept hG (Or.inr (row_loc HQ.out.ls HQ.out.lr (by decide))), fun u hu => ?_⟩, ⟨_, HQ.out.lc.kept hG (Or.inr (row_loc HQ.out.lc HQ.out.lr (by decide))), fun u hu => ?_⟩, ⟨_, HQ.out.li.kept hG (Or.inr (row_loc HQ.out.li HQ.out.lr (by decide))), fun u hu => ?_⟩, ⟨_, HQ.out.lp.kept hG (Or.inr (row_loc HQ.out.lp HQ.out.lr (by decide))), fun u hu => ?_⟩⟩
            · have r0 := hF.cell 0
              have r1 := hF.cell 1
              have r2 := hF.cell 2
              have r3 := hF.cell 3
              simp at r0 r1 r2 r3
              simp [results, Tryz.results17, go_sem, r0, r1, r2, r3]
            · obtain ⟨len, hl, ho⟩ := HQ.out.ms u hu
              exact ⟨len, by omega, ho.kept hG (Or.inr (row_loc ho HQ.out.lr (by decide)))⟩
            · obtain ⟨len, hl, ho⟩ := HQ.out.mc u hu
              exact ⟨len, by omega, ho.kept hG (Or.inr (row_loc ho HQ.out.lr (by decide)))⟩
            · obtain ⟨len, hl, ho⟩ := HQ.out.mi u hu
              exact ⟨len, by omega, ho.kept hG (Or.inr (row_loc ho HQ.out.lr (by decide)))⟩
            · obtain ⟨len, hl, ho⟩ := HQ.out.mp u hu
              exact ⟨len, by omega, ho.kept hG (Or.inr (row_loc ho HQ.out.lr (by decide)))⟩

end Go.Proofs.YtobgbmfpicmpcaaGreatDoor

/- The law Parses, walked out of its callees' contracts: for every text it returns true, and nothing that was there has turned. -/
namespace Go.Proofs.YtobgbmfpicmpcaaGreatDoor
open Go.RowKit

theorem wpList_extract {P : Program} {ops : Array Oper} {rest : List Oper} {op : Oper} {a : Act} {w : World} {Q : Exit → Act → World → Prop} {x : Operand} {i : Nat} {us : Array Value} {v : Value} (hgd : op.guard = none) (ho : op.op = .extract x i) (hx : a.eval x = .tuple us) (hv : us[i]? = some v) (h : wpList P ops Q rest (a.put op.dst v) w) : wpList P ops Q (op :: rest) a w :=
  wpList_plain hgd fun _ hK => by
    unfold Oper.wp execOp
    simp only [ho, hx, Instr.extract, hv]
    exact hK _ _ h
theorem QRows.later {B : Nat} {q : PQuery} {vs vc vi vp : Value} {w w' : World} (h : QRows B q vs vc vi vp w) (hb : Below w.heap.size w w') : QRows B q vs vc vi vp w' := rows_quiet h (grown_below hb Option.none)
theorem OwnedQ.quiet {B : Nat} {n : Int} {b : UInt8} {os oc oi op : Value} {w w' : World} (h : OwnedQ B n b os oc oi op w) (g : w.grownBy w' none) : OwnedQ B n b os oc oi op w' := by
  obtain ⟨us, a1, a2⟩ := h.ls
  obtain ⟨uc, b1, b2⟩ := h.lc
  obtain ⟨ui, c1, c2⟩ := h.li
  obtain ⟨up, d1, d2⟩ := h.lp
  exact ⟨⟨us, kept_none a1 g, fun u hu => (a2 u hu).quiet g⟩, ⟨uc, kept_none b1 g, fun u hu => (b2 u hu).quiet g⟩, ⟨ui, kept_none c1 g, fun u hu => (c2 u hu).quiet g⟩, ⟨up, kept_none d1 g, fun u hu => (d2 u hu).quiet g⟩⟩
/-- A query that was read is small. -/
theorem parse_small (s : ByteArray) : (parseText (toks s)).1.spots.length ≤ 6 ∧ (parseText (toks s)).1.conds.length ≤ 6 ∧ (parseText (toks s)).1.items.length ≤ 6 ∧ (parseText (toks s)).1.pairs.length ≤ 6 := by
  cases ht : toks s with
  | none => simp [parseText, query0]
  | some ts =>
    have h := parseText_eq ht
    rw [ht] at h
    rw [h]
    by_cases he : (parseP ts).2 = 0
    · exact good_small (Pure.round_trip he).2
    · have : (parseP ts).1 = query0 := by
        revert he
        unfold parseP
        simp only
        split
        · simp
        · split
          · simp
          · simp
      rw [this]; simp [query0]
theorem below_step {a b c : World} (h : Below a.heap.size a b) (k : Below b.heap.size b c) : Below a.heap.size a c := h.trans (k.mono h.size)
/-- A call's answer, a query and an error, is kept: the query in a block of its own. -/
theorem kept_loc {w : World} {cs : Array Value} {T : TypeId} (z : Array Value) (hz : cs.size = z.size) : Loc ((w.alloc (.cells z T)).setCells w.heap.size 0 cs.toList) w.heap.size cs T := (Loc.new w z T).setAll hz
theorem kept_below {w : World} {cs : Array Value} {T : TypeId} (z : Array Value) : Below w.heap.size w ((w.alloc (.cells z T)).setCells w.heap.size 0 cs.toList) :=
  below_of (b := w.heap.size) (Below.alloc (Below.refl _ _) (Nat.le_refl _) _) (grown_setMany w.heap.size cs.toList 0 _) (Nat.le_refl _)

set_option maxRecDepth 100000 in
set_option maxHeartbeats 9000000 in
theorem parses (s : ByteArray) (W : World) {ev : Value} (hg : W.cell? ⟨5, 0, none⟩ = some ev) (hev : ev = .nilIface ∨ ∃ te pe, ev = .iface te pe) (hm : s.size ≤ maxLen) :
    Calls Tryz.prog 3 #[.string s] W fun e W' => e = .returned (.bool true) ∧ Below W.heap.size W W' := by
  have HG := Lib.hid hg
  have HEV := Lib.hid hev
  have HM := Lib.hid hm
  have hlt : (⟨5, 0, none⟩ : Addr).block < W.heap.size := Lib.lt_of_cell hg
  have HLT := Lib.hid hlt
  obtain ⟨l1, l2, l3, l4⟩ := parse_small s
  obtain ⟨q, er, hr⟩ : ∃ q er, parseText (toks s) = (q, er) := ⟨_, _, rfl⟩
  rw [hr] at l1 l2 l3 l4
  simp only at l1 l2 l3 l4
  have HR := Lib.hid hr
  have hee : (er == er) = true := by simp
  clear hg hev hm hlt hr
  go_enter Tryz.func3, Tryz.ntmps3
  go_wp2_with fail
  refine (refParse s W HM.out).mono ?_
  rw [HR.out]
  rintro e W1 ⟨hb1, vs, vc, vi, vp, rfl, hrows⟩
  have hb := hb1
  clear hb1
  simp only at hrows ⊢
  obtain ⟨a11, k11, rfl, m1⟩ := row_slice (l := q.spots) hrows.rs
  obtain ⟨a12, k12, rfl, m2⟩ := row_slice (l := q.conds) hrows.rc
  obtain ⟨a13, k13, rfl, m3⟩ := row_slice (l := q.items) hrows.rt
  obtain ⟨a14, k14, rfl, m4⟩ := row_slice (l := q.pairs) hrows.rp
  clear m1 m2 m3 m4
  have kb := kept_below (w := W1) (cs := (qC q (.slice a11 q.spots.length k11) (.slice a12 q.conds.length k12) (.slice a13 q.items.length k13) (.slice a14 q.pairs.length k14))) (T := 29) #[.int .i64 0, .slice none 0 0, .slice none 0 0, .slice none 0 0, .int .i64 0, .bool false, .int .i64 0, .int .i64 0, .string ⟨#[]⟩, .string ⟨#[]⟩, .string ⟨#[]⟩, .string ⟨#[]⟩, .int .i64 0, .string ⟨#[]⟩, .string ⟨#[]⟩, .string ⟨#[]⟩, .slice none 0 0]
  have HQ1 := Lib.hid (hrows.later kb)
  have HL1 : Hid (Loc ((W1.alloc (.cells #[.int .i64 0, .slice none 0 0, .slice none 0 0, .slice none 0 0, .int .i64 0, .bool false, .int .i64 0, .int .i64 0, .string ⟨#[]⟩, .string ⟨#[]⟩, .string ⟨#[]⟩, .string ⟨#[]⟩, .int .i64 0, .string ⟨#[]⟩, .string ⟨#[]⟩, .string ⟨#[]⟩, .slice none 0 0] 29)).setCells W1.heap.size 0 (qC q (.slice a11 q.spots.length k11) (.slice a12 q.conds.length k12) (.slice a13 q.items.length k13) (.slice a14 q.pairs.length k14)).toList) W1.heap.size (qC q (.slice a11 q.spots.length k11) (.slice a12 q.conds.length k12) (.slice a13 q.items.length k13) (.slice a14 q.pairs.length k14)) 29) := kept_loc _ rfl
  have HB1 := Lib.hid (below_step hb kb)
  clear hb hrows kb
  rename_i KK hKK
  refine hKK _ _ ?_
  clear hKK KK
  refine wpList_move rfl rfl ?_
  refine wpList_extract rfl rfl rfl rfl ?_
  refine wpList_extract rfl rfl rfl rfl ?_
  refine wpList_allocQuery rfl rfl ?_
  refine wpList_store_mid rfl 29 _ _ rfl W1.heap.size 0 (qC q (.slice a11 q.spots.length k11) (.slice a12 q.conds.length k12) (.slice a13 q.items.length k13) (.slice a14 q.pairs.length k14)) rfl rfl (Loc.new W1 #[.int .i64 0, .slice none 0 0, .slice none 0 0, .slice none 0 0, .int .i64 0, .bool false, .int .i64 0, .int .i64 0, .string ⟨#[]⟩, .string ⟨#[]⟩, .string ⟨#[]⟩, .string ⟨#[]⟩, .int .i64 0, .string ⟨#[]⟩, .string ⟨#[]⟩, .string ⟨#[]⟩, .slice none 0 0] 29).there Tryz.sizeQuery (qC_one _) ?_
  obtain ⟨X1, hX1⟩ : ∃ x, x = W1.heap.size := ⟨_, rfl⟩
  rw [← hX1] at HL1 HQ1 HB1 ⊢
  clear hX1
  generalize (W1.alloc (.cells #[.int .i64 0, .slice none 0 0, .slice none 0 0, .slice none 0 0, .int .i64 0, .bool false, .int .i64 0, .int .i64 0, .string ⟨#[]⟩, .string ⟨#[]⟩, .string ⟨#[]⟩, .string ⟨#[]⟩, .int .i64 0, .string ⟨#[]⟩, .string ⟨#[]⟩, .string ⟨#[]⟩, .slice none 0 0] 29)).setCells X1 0 (qC q (.slice a11 q.spots.length k11) (.slice a12 q.conds.length k12) (.slice a13 q.items.length k13) (.slice a14 q.pairs.length k14)).toList = W2 at HL1 HQ1 HB1 ⊢
  go_wp2_with fail
  refine (progParse s W2 ((HB1.out.cell HLT.out).trans HG.out) HEV.out HM.out).mono ?_
  rw [HR.out]
  rintro e W3 ⟨hb, vs, vc, vi, vp, rfl, hrows⟩
  simp only at hrows ⊢
  obtain ⟨a21, k21, rfl, m1⟩ := row_slice (l := q.spots) hrows.rs
  obtain ⟨a22, k22, rfl, m2⟩ := row_slice (l := q.conds) hrows.rc
  obtain ⟨a23, k23, rfl, m3⟩ := row_slice (l := q.items) hrows.rt
  obtain ⟨a24, k24, rfl, m4⟩ := row_slice (l := q.pairs) hrows.rp
  clear m1 m2 m3 m4
  have kb := kept_below (w := W3) (cs := (qC q (.slice a21 q.spots.length k21) (.slice a22 q.conds.length k22) (.slice a23 q.items.length k23) (.slice a24 q.pairs.length k24))) (T := 29) #[.int .i64 0, .slice none 0 0, .slice none 0 0, .slice none 0 0, .int .i64 0, .bool false, .int .i64 0, .int .i64 0, .string ⟨#[]⟩, .string ⟨#[]⟩, .string ⟨#[]⟩, .string ⟨#[]⟩, .int .i64 0, .string ⟨#[]⟩, .string ⟨#[]⟩, .string ⟨#[]⟩, .slice none 0 0]
  have HQ2 := Lib.hid (hrows.later kb)
  have HL2 : Hid (Loc ((W3.alloc (.cells #[.int .i64 0, .slice none 0 0, .slice none 0 0, .slice none 0 0, .int .i64 0, .bool false, .int .i64 0, .int .i64 0, .string ⟨#[]⟩, .string ⟨#[]⟩, .string ⟨#[]⟩, .string ⟨#[]⟩, .int .i64 0, .string ⟨#[]⟩, .string ⟨#[]⟩, .string ⟨#[]⟩, .slice none 0 0] 29)).setCells W3.heap.size 0 (qC q (.slice a21 q.spots.length k21) (.slice a22 q.conds.length k22) (.slice a23 q.items.length k23) (.slice a24 q.pairs.length k24)).toList) W3.heap.size (qC q (.slice a21 q.spots.length k21) (.slice a22 q.conds.length k22) (.slice a23 q.items.length k23) (.slice a24 q.pairs.length k24)) 29) := kept_loc _ rfl
  have HB2 := Lib.hid (below_step hb kb)
  clear hb hrows kb
  rename_i KK hKK
  refine hKK _ _ ?_
  clear hKK KK
  refine wpList_move rfl rfl ?_
  refine wpList_extract rfl rfl rfl rfl ?_
  refine wpList_extract rfl rfl rfl rfl ?_
  refine wpList_allocQuery rfl rfl ?_
  refine wpList_store_mid rfl 29 _ _ rfl W3.heap.size 0 (qC q (.slice a21 q.spots.length k21) (.slice a22 q.conds.length k22) (.slice a23 q.items.length k23) (.slice a24 q.pairs.length k24)) rfl rfl (Loc.new W3 #[.int .i64 0, .slice none 0 0, .slice none 0 0, .slice none 0 0, .int .i64 0, .bool false, .int .i64 0, .int .i64 0, .string ⟨#[]⟩, .string ⟨#[]⟩, .string ⟨#[]⟩, .string ⟨#[]⟩, .int .i64 0, .string ⟨#[]⟩, .string ⟨#[]⟩, .string ⟨#[]⟩, .slice none 0 0] 29).there Tryz.sizeQuery (qC_one _) ?_
  obtain ⟨X2, hX2⟩ : ∃ x, x = W3.heap.size := ⟨_, rfl⟩
  rw [← hX2] at HL2 HQ2 HB2 ⊢
  clear hX2
  generalize (W3.alloc (.cells #[.int .i64 0, .slice none 0 0, .slice none 0 0, .slice none 0 0, .int .i64 0, .bool false, .int .i64 0, .int .i64 0, .string ⟨#[]⟩, .string ⟨#[]⟩, .string ⟨#[]⟩, .string ⟨#[]⟩, .int .i64 0, .string ⟨#[]⟩, .string ⟨#[]⟩, .string ⟨#[]⟩, .slice none 0 0] 29)).setCells X2 0 (qC q (.slice a21 q.spots.length k21) (.slice a22 q.conds.length k22) (.slice a23 q.items.length k23) (.slice a24 q.pairs.length k24)).toList = W4 at HL2 HQ2 HB2 ⊢
  go_upto_region 3 with fail
  refine wp_region_lit ?_
  refine wpList_load_mid rfl 29 _ rfl X2 0 rfl (qC q (.slice a21 q.spots.length k21) (.slice a22 q.conds.length k22) (.slice a23 q.items.length k23) (.slice a24 q.pairs.length k24)).toList _ (HL2.out).range Tryz.underlying29 rfl (by rw [Tryz.sizeQuery]; rfl) ?_
  refine wpList_load_mid rfl 29 _ rfl X1 0 rfl (qC q (.slice a11 q.spots.length k11) (.slice a12 q.conds.length k12) (.slice a13 q.items.length k13) (.slice a14 q.pairs.length k14)).toList _ ((HL1.out.grown (grown_below HB2.out none) (by simp))).range Tryz.underlying29 rfl (by rw [Tryz.sizeQuery]; rfl) ?_
  go_wp2_with fail
  refine (sameYes HQ2.out (HQ1.out.later HB2.out) (by omega) (by omega) (by omega) (by omega)).mono ?_
  rintro e W5 ⟨rfl, hb5⟩
  have HB5 := Lib.hid (HB2.out.trans (hb5.mono HB2.out.size))
  have HQ2b := Lib.hid (HQ2.out.later hb5)
  have HL2b := Lib.hid (HL2.out.grown (grown_below hb5 none) (by simp))
  clear hb5 HQ2 HL2 HB2
  go_upto_region 4 with fail
  refine wp_region_lit ?_
  refine wpList_load_mid rfl 29 _ rfl X2 0 rfl (qC q (.slice a21 q.spots.length k21) (.slice a22 q.conds.length k22) (.slice a23 q.items.length k23) (.slice a24 q.pairs.length k24)).toList _ (HL2b.out).range Tryz.underlying29 rfl (by rw [Tryz.sizeQuery]; rfl) ?_
  go_wp2_with fail
  refine (own_ (b := 77) HB5.out.size HQ2b.out.rs HQ2b.out.rc HQ2b.out.rt HQ2b.out.rp (by omega) (by omega) (by omega) (by omega) itemMark77).mono ?_
  rintro e W6 ⟨os, oc, oi, op, rfl, hb6, ho⟩
  obtain ⟨us1, u11, u12⟩ := ho.ls
  obtain ⟨uc1, u21, u22⟩ := ho.lc
  obtain ⟨ui1, u31, u32⟩ := ho.li
  obtain ⟨up1, u41, u42⟩ := ho.lp
  obtain ⟨es1, cs1, rfl⟩ := row_shape u11
  obtain ⟨ec1, cc1, rfl⟩ := row_shape u21
  obtain ⟨ei1, ci1, rfl⟩ := row_shape u31
  obtain ⟨ep1, cp1, rfl⟩ := row_shape u41
  clear us1 u11 u12 uc1 u21 u22 ui1 u31 u32 up1 u41 u42
  have HO1 := Lib.hid (ho.quiet (grown_alloc W6 (.cells #[.slice es1 4 cs1, .slice ec1 4 cc1, .slice ei1 4 ci1, .slice ep1 4 cp1] 39) none))
  have HL8 := Lib.hid (Loc.new W6 #[.slice es1 4 cs1, .slice ec1 4 cc1, .slice ei1 4 ci1, .slice ep1 4 cp1] 39)
  have HB6 := HB5.out.trans hb6
  have HB7 := Lib.hid (HB6.alloc HB6.size (.cells #[.slice es1 4 cs1, .slice ec1 4 cc1, .slice ei1 4 ci1, .slice ep1 4 cp1] 39))
  clear ho hb6 HB6 HB5 HQ2b HL2b
  go_upto_region 5 with fail
  obtain ⟨X8, hX8⟩ : ∃ x, x = W6.heap.size := ⟨_, rfl⟩
  rw [← hX8] at HL8 ⊢
  clear hX8
  generalize W6.alloc (.cells #[.slice es1 4 cs1, .slice ec1 4 cc1, .slice ei1 4 ci1, .slice ep1 4 cp1] 39) = W7 at HO1 HL8 HB7 ⊢
  have HBW7 := Lib.hid (HB1.out.trans (HB7.out.mono HB1.out.size))
  go_wp2_with fail
  refine (progParse s W7 ((HBW7.out.cell HLT.out).trans HG.out) HEV.out HM.out).mono ?_
  rw [HR.out]
  rintro e W8 ⟨hb, vs, vc, vi, vp, rfl, hrows⟩
  simp only at hrows ⊢
  obtain ⟨a31, k31, rfl, m1⟩ := row_slice (l := q.spots) hrows.rs
  obtain ⟨a32, k32, rfl, m2⟩ := row_slice (l := q.conds) hrows.rc
  obtain ⟨a33, k33, rfl, m3⟩ := row_slice (l := q.items) hrows.rt
  obtain ⟨a34, k34, rfl, m4⟩ := row_slice (l := q.pairs) hrows.rp
  clear m1 m2 m3 m4
  have kb := kept_below (w := W8) (cs := (qC q (.slice a31 q.spots.length k31) (.slice a32 q.conds.length k32) (.slice a33 q.items.length k33) (.slice a34 q.pairs.length k34))) (T := 29) #[.int .i64 0, .slice none 0 0, .slice none 0 0, .slice none 0 0, .int .i64 0, .bool false, .int .i64 0, .int .i64 0, .string ⟨#[]⟩, .string ⟨#[]⟩, .string ⟨#[]⟩, .string ⟨#[]⟩, .int .i64 0, .string ⟨#[]⟩, .string ⟨#[]⟩, .string ⟨#[]⟩, .slice none 0 0]
  have HQ3 := Lib.hid (hrows.later kb)
  have HL3 : Hid (Loc ((W8.alloc (.cells #[.int .i64 0, .slice none 0 0, .slice none 0 0, .slice none 0 0, .int .i64 0, .bool false, .int .i64 0, .int .i64 0, .string ⟨#[]⟩, .string ⟨#[]⟩, .string ⟨#[]⟩, .string ⟨#[]⟩, .int .i64 0, .string ⟨#[]⟩, .string ⟨#[]⟩, .string ⟨#[]⟩, .slice none 0 0] 29)).setCells W8.heap.size 0 (qC q (.slice a31 q.spots.length k31) (.slice a32 q.conds.length k32) (.slice a33 q.items.length k33) (.slice a34 q.pairs.length k34)).toList) W8.heap.size (qC q (.slice a31 q.spots.length k31) (.slice a32 q.conds.length k32) (.slice a33 q.items.length k33) (.slice a34 q.pairs.length k34)) 29) := kept_loc _ rfl
  have HB3 := Lib.hid (below_step hb kb)
  clear hb hrows kb
  rename_i KK hKK
  refine hKK _ _ ?_
  clear hKK KK
  refine wpList_move rfl rfl ?_
  refine wpList_extract rfl rfl rfl rfl ?_
  refine wpList_extract rfl rfl rfl rfl ?_
  refine wpList_allocQuery rfl rfl ?_
  refine wpList_store_mid rfl 29 _ _ rfl W8.heap.size 0 (qC q (.slice a31 q.spots.length k31) (.slice a32 q.conds.length k32) (.slice a33 q.items.length k33) (.slice a34 q.pairs.length k34)) rfl rfl (Loc.new W8 #[.int .i64 0, .slice none 0 0, .slice none 0 0, .slice none 0 0, .int .i64 0, .bool false, .int .i64 0, .int .i64 0, .string ⟨#[]⟩, .string ⟨#[]⟩, .string ⟨#[]⟩, .string ⟨#[]⟩, .int .i64 0, .string ⟨#[]⟩, .string ⟨#[]⟩, .string ⟨#[]⟩, .slice none 0 0] 29).there Tryz.sizeQuery (qC_one _) ?_
  obtain ⟨X9, hX9⟩ : ∃ x, x = W8.heap.size := ⟨_, rfl⟩
  rw [← hX9] at HL3 HQ3 HB3 ⊢
  clear hX9
  generalize (W8.alloc (.cells #[.int .i64 0, .slice none 0 0, .slice none 0 0, .slice none 0 0, .int .i64 0, .bool false, .int .i64 0, .int .i64 0, .string ⟨#[]⟩, .string ⟨#[]⟩, .string ⟨#[]⟩, .string ⟨#[]⟩, .int .i64 0, .string ⟨#[]⟩, .string ⟨#[]⟩, .string ⟨#[]⟩, .slice none 0 0] 29)).setCells X9 0 (qC q (.slice a31 q.spots.length k31) (.slice a32 q.conds.length k32) (.slice a33 q.items.length k33) (.slice a34 q.pairs.length k34)).toList = W9 at HL3 HQ3 HB3 ⊢
  have HB29 := Lib.hid (HB7.out.trans (HB3.out.mono HB7.out.size))
  go_upto_region 6 with fail
  refine wp_region_lit ?_
  refine wpList_load_mid rfl 29 _ rfl X9 0 rfl (qC q (.slice a31 q.spots.length k31) (.slice a32 q.conds.length k32) (.slice a33 q.items.length k33) (.slice a34 q.pairs.length k34)).toList _ (HL3.out).range Tryz.underlying29 rfl (by rw [Tryz.sizeQuery]; rfl) ?_
  refine wpList_load_mid rfl 29 _ rfl X1 0 rfl (qC q (.slice a11 q.spots.length k11) (.slice a12 q.conds.length k12) (.slice a13 q.items.length k13) (.slice a14 q.pairs.length k14)).toList _ ((HL1.out.grown (grown_below HB29.out none) (by simp))).range Tryz.underlying29 rfl (by rw [Tryz.sizeQuery]; rfl) ?_
  go_wp2_with fail
  refine (sameYes HQ3.out (HQ1.out.later HB29.out) (by omega) (by omega) (by omega) (by omega)).mono ?_
  rintro e W10 ⟨rfl, hb10⟩
  have HB10 := Lib.hid (HB3.out.trans (hb10.mono HB3.out.size))
  have HQ3b := Lib.hid (HQ3.out.later hb10)
  have HL3b := Lib.hid (HL3.out.grown (grown_below hb10 none) (by simp))
  clear hb10 HQ3 HL3 HB3 HB29 HQ1 HL1 HB7
  go_upto_region 7 with fail
  refine wp_region_lit ?_
  refine wpList_load_mid rfl 29 _ rfl X9 0 rfl (qC q (.slice a31 q.spots.length k31) (.slice a32 q.conds.length k32) (.slice a33 q.items.length k33) (.slice a34 q.pairs.length k34)).toList _ (HL3b.out).range Tryz.underlying29 rfl (by rw [Tryz.sizeQuery]; rfl) ?_
  go_wp2_with fail
  refine (own_ (b := 78) HB10.out.size HQ3b.out.rs HQ3b.out.rc HQ3b.out.rt HQ3b.out.rp (by omega) (by omega) (by omega) (by omega) itemMark78).mono ?_
  rintro e W11 ⟨os, oc, oi, op, rfl, hb11, ho⟩
  obtain ⟨us1, u11, u12⟩ := ho.ls
  obtain ⟨uc1, u21, u22⟩ := ho.lc
  obtain ⟨ui1, u31, u32⟩ := ho.li
  obtain ⟨up1, u41, u42⟩ := ho.lp
  obtain ⟨es2, cs2, rfl⟩ := row_shape u11
  obtain ⟨ec2, cc2, rfl⟩ := row_shape u21
  obtain ⟨ei2, ci2, rfl⟩ := row_shape u31
  obtain ⟨ep2, cp2, rfl⟩ := row_shape u41
  clear us1 u11 u12 uc1 u21 u22 ui1 u31 u32 up1 u41 u42
  have HO2 := Lib.hid (ho.quiet (grown_alloc W11 (.cells #[.slice es2 4 cs2, .slice ec2 4 cc2, .slice ei2 4 ci2, .slice ep2 4 cp2] 39) none))
  have HL12 := Lib.hid (Loc.new W11 #[.slice es2 4 cs2, .slice ec2 4 cc2, .slice ei2 4 ci2, .slice ep2 4 cp2] 39)
  have HB11 := HB10.out.trans hb11
  have HB12 := Lib.hid (HB11.alloc HB11.size (.cells #[.slice es2 4 cs2, .slice ec2 4 cc2, .slice ei2 4 ci2, .slice ep2 4 cp2] 39))
  clear ho hb11 HB11 HB10 HQ3b HL3b
  go_upto_region 8 with fail
  obtain ⟨X12, hX12⟩ : ∃ x, x = W11.heap.size := ⟨_, rfl⟩
  rw [← hX12] at HL12 ⊢
  clear hX12
  generalize W11.alloc (.cells #[.slice es2 4 cs2, .slice ec2 4 cc2, .slice ei2 4 ci2, .slice ep2 4 cp2] 39) = W12 at HO2 HL12 HB12 ⊢
  have HO1b := HO1.out.quiet (grown_below HB12.out none)
  have HL8b := HL8.out.grown (grown_below HB12.out none) (by simp)
  have c0 : W12.cell? ⟨X8, 0, none⟩ = some (.slice es1 4 cs1) := (HL8b.cell 0).trans rfl
  have c1 : W12.cell? ⟨X8, 1, none⟩ = some (.slice ec1 4 cc1) := (HL8b.cell 1).trans rfl
  have c2 : W12.cell? ⟨X8, 2, none⟩ = some (.slice ei1 4 ci1) := (HL8b.cell 2).trans rfl
  have c3 : W12.cell? ⟨X8, 3, none⟩ = some (.slice ep1 4 cp1) := (HL8b.cell 3).trans rfl
  obtain ⟨us1, u11, u12⟩ := HO1b.ls
  obtain ⟨uc1, u21, u22⟩ := HO1b.lc
  obtain ⟨ui1, u31, u32⟩ := HO1b.li
  obtain ⟨up1, u41, u42⟩ := HO1b.lp
  have HK1 : Hid (Calls Tryz.prog 18 #[.agg #[.slice es1 4 cs1, .slice ec1 4 cc1, .slice ei1 4 ci1, .slice ep1 4 cp1], .int .i64 77] W12 fun e W' => e = .returned (.bool true) ∧ Below W12.heap.size W12 W') := keptLists (b := 77) u11 u12 u21 u22 u31 u32 u41 u42 itemMark77
  clear u11 u12 u21 u22 u31 u32 u41 u42 HO1b HL8b HO1 HL8
  go_wp2_with fail
  refine HK1.out.mono ?_
  rintro e W13 ⟨rfl, hb13⟩
  have HB13 := Lib.hid (HBW7.out.trans ((HB12.out.trans (hb13.mono HB12.out.size)).mono HBW7.out.size))
  have HO2b := HO2.out.quiet (grown_below hb13 none)
  have HL12b := HL12.out.grown (grown_below hb13 none) (by simp)
  clear c0 c1 c2 c3 HK1 hb13 HO2 HL12 HB12 HBW7
  have c0 : W13.cell? ⟨X12, 0, none⟩ = some (.slice es2 4 cs2) := (HL12b.cell 0).trans rfl
  have c1 : W13.cell? ⟨X12, 1, none⟩ = some (.slice ec2 4 cc2) := (HL12b.cell 1).trans rfl
  have c2 : W13.cell? ⟨X12, 2, none⟩ = some (.slice ei2 4 ci2) := (HL12b.cell 2).trans rfl
  have c3 : W13.cell? ⟨X12, 3, none⟩ = some (.slice ep2 4 cp2) := (HL12b.cell 3).trans rfl
  obtain ⟨us2, u11, u12⟩ := HO2b.ls
  obtain ⟨uc2, u21, u22⟩ := HO2b.lc
  obtain ⟨ui2, u31, u32⟩ := HO2b.li
  obtain ⟨up2, u41, u42⟩ := HO2b.lp
  have HK2 : Hid (Calls Tryz.prog 18 #[.agg #[.slice es2 4 cs2, .slice ec2 4 cc2, .slice ei2 4 ci2, .slice ep2 4 cp2], .int .i64 78] W13 fun e W' => e = .returned (.bool true) ∧ Below W13.heap.size W13 W') := keptLists (b := 78) u11 u12 u21 u22 u31 u32 u41 u42 itemMark78
  clear u11 u12 u21 u22 u31 u32 u41 u42 HO2b HL12b
  go_wp2_with fail
  refine HK2.out.mono ?_
  rintro e W14 ⟨rfl, hb14⟩
  have HB14 := Lib.hid (below_step HB13.out hb14)
  clear c0 c1 c2 c3 HK2 hb14 HB13
  go_wp2_with fail
  go_ret
  exact ⟨rfl, HB14.out⟩

end Go.Proofs.YtobgbmfpicmpcaaGreatDoor

