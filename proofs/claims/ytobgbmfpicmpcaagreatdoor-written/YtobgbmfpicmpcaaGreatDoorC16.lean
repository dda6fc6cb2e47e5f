/- The queries of veilkeep, as plain functions of raw numbers; their texts. No program in this text. -/
import Derived.Test.YtobgbmfpicmpcaaGreatDoorC15
namespace Go.Proofs.YtobgbmfpicmpcaaGreatDoor

/-- Which of n things a raw number speaks of. -/
def pk (c n : Int) : Int := if c < 0 then -(c + 1) % n else c % n
theorem pk_nonneg {c n : Int} (hn : 0 < n) : 0 ≤ pk c n := by unfold pk; split <;> exact Int.emod_nonneg _ (by omega)
theorem pk_lt {c n : Int} (hn : 0 < n) : pk c n < n := by unfold pk; split <;> exact Int.emod_lt_of_pos _ hn
def ttl (c : Int) : ByteArray := if pk c 3 = 0 then ⟨#[65]⟩ else if pk c 3 = 1 then ⟨#[66]⟩ else ⟨#[72]⟩
def nmb (c : Int) : Int := pk c 7 - 3
theorem nmb_fit (c : Int) : -3 ≤ nmb c ∧ nmb c ≤ 3 := by
  have h0 := pk_nonneg (c := c) (n := 7) (by omega)
  have h1 := pk_lt (c := c) (n := 7) (by omega)
  unfold nmb; omega
def vB (i : Int) : ByteArray := if i = 0 then ⟨#[97]⟩ else if i = 1 then ⟨#[98]⟩ else ⟨#[99]⟩
def kB : ByteArray := ⟨#[107]⟩
def tB : ByteArray := ⟨#[84]⟩
def uB : ByteArray := ⟨#[85]⟩
/-- A condition out of a raw number. -/
def kcD (c : Int) : Int := pk (c.tdiv 5) 1099511627776
def kcA (c : Int) : PTerm := ⟨vB (pk (kcD c) 3), kB, 0⟩
def kc (c : Int) : PCond :=
  if pk c 5 = 0 then ⟨7, kcA c, term0⟩ else if pk c 5 = 1 then ⟨8, kcA c, term0⟩
  else if pk c 5 = 2 then ⟨4, kcA c, ⟨vB (pk (kcD c / 3) 3), kB, 0⟩⟩
  else if pk c 5 = 3 then ⟨2, kcA c, ⟨e0, e0, nmb (kcD c / 9)⟩⟩ else ⟨3, kcA c, ⟨e0, e0, nmb (kcD c / 9)⟩⟩
def kcText (c : PCond) : ByteArray := ⟨(joined (termW c.a ++ opW c)).toArray⟩
/-- A match out of raw numbers. -/
def kmD (c : Int) : Int := pk (c.tdiv 6) 1099511627776
def at0 (i : Int) : PSpot := ⟨vB i, e0, e0, 0, 0⟩
def at1 (i : Int) (l : ByteArray) : PSpot := ⟨vB i, l, e0, 0, 0⟩
def to0 (i : Int) : PSpot := ⟨vB i, e0, tB, 1, 1⟩
def kmS (c : Int) : List PSpot :=
  if pk c 6 = 0 then [at0 0, to0 1, to0 2]
  else if pk c 6 = 1 then [at1 0 (ttl (kmD c)), ⟨vB 1, e0, tB, pk (kmD c / 3) 3, 2⟩, at0 2]
  else if pk c 6 = 2 then [at1 0 (ttl (kmD c)), at0 1, to0 2]
  else if pk c 6 = 3 then [at0 0, ⟨vB 1, e0, uB, 0, 1⟩, at0 1, to0 2]
  else if pk c 6 = 4 then [at0 0, to0 1, at0 0, ⟨vB 2, ttl (kmD c), tB, 1, 1⟩]
  else [at1 0 (ttl (kmD c)), at1 1 (ttl (kmD c / 3)), at1 2 ⟨#[65]⟩]
def kmC (w : Int) : List PCond := if 0 < pk w 3 then [kc (w.tdiv 3)] else []
def kmQ (c w : Int) : PQuery := { query0 with spots := kmS c, conds := kmC w }
def kmText (c w : Int) : ByteArray := ⟨(joined (matchW (kmQ c w))).toArray⟩
/-- A read out of raw numbers. -/
def iB (i : Int) : PItem := ⟨vB i, e0⟩
def iK (i : Int) : PItem := ⟨vB i, kB⟩
def krQ (c w i : Int) : PQuery :=
  if pk i 5 = 0 then { kmQ c w with kind := 1, items := [iB 0, iB 1, iB 2], limit := -1 }
  else if pk i 5 = 1 then { kmQ c w with kind := 1, items := [iK 0, ⟨e0, e0⟩], limit := -1 }
  else if pk i 5 = 2 then { kmQ c w with kind := 1, items := [iK 0, iK 1, ⟨vB 2, ⟨#[106]⟩⟩], order := 2, down := true, limit := -1 }
  else if pk i 5 = 3 then { kmQ c w with kind := 1, items := [⟨e0, e0⟩], limit := -1 }
  else { kmQ c w with kind := 1, items := [iK 2, iB 0], order := 1, skip := 1, limit := 3 }
def krText (c w i : Int) : ByteArray := ⟨(joined (queryW (krQ c w i))).toArray⟩

end Go.Proofs.YtobgbmfpicmpcaaGreatDoor
namespace Go.Proofs.YtobgbmfpicmpcaaGreatDoor.Pure

theorem ba_eq {a b : ByteArray} (h : a.data.toList = b.data.toList) : a = b := by
  cases a; cases b
  simp only [ByteArray.mk.injEq]
  exact Array.toList_inj.1 h
theorem ba_app (a b : ByteArray) : (a ++ b).data.toList = a.data.toList ++ b.data.toList := by simp [ByteArray.data_append]
theorem ba_mk (l : List UInt8) : (⟨l.toArray⟩ : ByteArray).data.toList = l := by simp
theorem pk3 (c : Int) : pk c 3 = 0 ∨ pk c 3 = 1 ∨ pk c 3 = 2 := by
  have h0 := pk_nonneg (c := c) (n := 3) (by omega)
  have h1 := pk_lt (c := c) (n := 3) (by omega)
  omega
theorem vB_name (i : Int) : isName (vB i) = true := by
  unfold vB
  split
  · decide +kernel
  · split <;> decide +kernel
theorem ttl_title (c : Int) : isTitle (ttl c) = true := by
  unfold ttl
  split
  · decide +kernel
  · split <;> decide +kernel
theorem nmb_in (c : Int) : inInt (nmb c) := by have := nmb_fit c; exact ⟨by omega, by omega⟩
theorem kB_name : isName kB = true := by decide +kernel
theorem kc_good (c : Int) : GoodCond (kc c) := by
  have ha : GoodTerm (kcA c) := Or.inr ⟨vB_name _, kB_name, rfl⟩
  have hn : GoodTerm ⟨e0, e0, nmb (kcD c / 9)⟩ := Or.inl ⟨rfl, rfl, nmb_in _⟩
  have hv : GoodTerm ⟨vB (pk (kcD c / 3) 3), kB, 0⟩ := Or.inr ⟨vB_name _, kB_name, rfl⟩
  unfold kc
  split
  · exact ⟨by simp, ha, Or.inr ⟨by simp, rfl⟩⟩
  · split
    · exact ⟨by simp, ha, Or.inr ⟨by simp, rfl⟩⟩
    · split
      · exact ⟨by simp, ha, Or.inl ⟨by simp, hv⟩⟩
      · split
        · exact ⟨by simp, ha, Or.inl ⟨by simp, hn⟩⟩
        · exact ⟨by simp, ha, Or.inl ⟨by simp, hn⟩⟩
theorem at0_good (i : Int) : GoodSpot (at0 i) := ⟨vB_name i, Or.inl rfl, Or.inl ⟨rfl, rfl, rfl⟩⟩
theorem at1_good (i : Int) {l : ByteArray} (h : isTitle l = true) : GoodSpot (at1 i l) := ⟨vB_name i, Or.inr h, Or.inl ⟨rfl, rfl, rfl⟩⟩
theorem tB_title : isTitle tB = true := by decide +kernel
theorem uB_title : isTitle uB = true := by decide +kernel
theorem aB_title : isTitle ⟨#[65]⟩ = true := by decide +kernel
theorem to0_good (i : Int) : GoodSpot (to0 i) := ⟨vB_name i, Or.inl rfl, Or.inr ⟨tB_title, by simp [to0], by simp [to0], by simp [to0]⟩⟩
theorem kmS_good (c : Int) : (∀ s ∈ kmS c, GoodSpot s) ∧ (∃ s r, kmS c = s :: r ∧ s.type = e0) ∧ (kmS c).length ≤ 6 := by
  have h0 := pk_nonneg (c := kmD c / 3) (n := 3) (by omega)
  have h1 := pk_lt (c := kmD c / 3) (n := 3) (by omega)
  unfold kmS
  split
  · refine ⟨?_, ⟨_, _, rfl, rfl⟩, by simp⟩
    intro s hs
    simp only [List.mem_cons, List.not_mem_nil, or_false] at hs
    rcases hs with rfl | rfl | rfl
    · exact at0_good _
    · exact to0_good _
    · exact to0_good _
  · split
    · refine ⟨?_, ⟨_, _, rfl, rfl⟩, by simp⟩
      intro s hs
      simp only [List.mem_cons, List.not_mem_nil, or_false] at hs
      rcases hs with rfl | rfl | rfl
      · exact at1_good _ (ttl_title _)
      · exact ⟨vB_name 1, Or.inl rfl, Or.inr ⟨tB_title, h0, by simp only; omega, by simp⟩⟩
      · exact at0_good _
    · split
      · refine ⟨?_, ⟨_, _, rfl, rfl⟩, by simp⟩
        intro s hs
        simp only [List.mem_cons, List.not_mem_nil, or_false] at hs
        rcases hs with rfl | rfl | rfl
        · exact at1_good _ (ttl_title _)
        · exact at0_good _
        · exact to0_good _
      · split
        · refine ⟨?_, ⟨_, _, rfl, rfl⟩, by simp⟩
          intro s hs
          simp only [List.mem_cons, List.not_mem_nil, or_false] at hs
          rcases hs with rfl | rfl | rfl | rfl
          · exact at0_good _
          · exact ⟨vB_name 1, Or.inl rfl, Or.inr ⟨uB_title, by simp, by simp, by simp⟩⟩
          · exact at0_good _
          · exact to0_good _
        · split
          · refine ⟨?_, ⟨_, _, rfl, rfl⟩, by simp⟩
            intro s hs
            simp only [List.mem_cons, List.not_mem_nil, or_false] at hs
            rcases hs with rfl | rfl | rfl | rfl
            · exact at0_good _
            · exact to0_good _
            · exact at0_good _
            · exact ⟨vB_name 2, Or.inr (ttl_title (kmD c)), Or.inr ⟨tB_title, by simp, by simp, by simp⟩⟩
          · refine ⟨?_, ⟨_, _, rfl, rfl⟩, by simp⟩
            intro s hs
            simp only [List.mem_cons, List.not_mem_nil, or_false] at hs
            rcases hs with rfl | rfl | rfl
            · exact at1_good _ (ttl_title _)
            · exact at1_good _ (ttl_title _)
            · exact at1_good _ aB_title
theorem kmC_good (w : Int) : (∀ c ∈ kmC w, GoodCond c) ∧ (kmC w).length ≤ 6 := by
  unfold kmC
  split
  · refine ⟨fun c hc => ?_, by simp⟩
    rw [List.mem_singleton.1 hc]; exact kc_good _
  · exact ⟨(fun c hc => (by cases hc)), by simp⟩
theorem km_match (c w : Int) (q : PQuery) (h1 : q.spots = kmS c) (h2 : q.conds = kmC w) : GoodMatch q := by
  obtain ⟨a, b, d⟩ := kmS_good c
  obtain ⟨e, f⟩ := kmC_good w
  exact ⟨by rw [h1]; exact a, by rw [h1]; exact b, by rw [h1]; exact d, by rw [h2]; exact e, by rw [h2]; exact f⟩
theorem iB_good (i : Int) : GoodItem (iB i) := Or.inr ⟨vB_name i, Or.inl rfl⟩
theorem iK_good (i : Int) : GoodItem (iK i) := Or.inr ⟨vB_name i, Or.inr kB_name⟩
theorem jB_name : isName ⟨#[106]⟩ = true := by decide +kernel
theorem ij_good (i : Int) : GoodItem ⟨vB i, ⟨#[106]⟩⟩ := Or.inr ⟨vB_name i, Or.inr jB_name⟩
theorem count_good : GoodItem ⟨e0, e0⟩ := Or.inl ⟨rfl, rfl⟩
theorem kr_good (c w i : Int) : GoodQ (krQ c w i) := by
  refine Or.inl ?_
  unfold krQ
  split
  · refine ⟨km_match c w _ rfl rfl, ?_, by simp, by simp, by simp [kmQ, query0], by simp [kmQ, query0], by simp [kmQ, query0], by simp [kmQ, query0], by simp [kmQ, query0], Or.inl rfl, rfl⟩
    intro x hx
    simp only [List.mem_cons, List.not_mem_nil, or_false] at hx
    rcases hx with rfl | rfl | rfl <;> exact iB_good _
  · split
    · refine ⟨km_match c w _ rfl rfl, ?_, by simp, by simp, by simp [kmQ, query0], by simp [kmQ, query0], by simp [kmQ, query0], by simp [kmQ, query0], by simp [kmQ, query0], Or.inl rfl, rfl⟩
      intro x hx
      simp only [List.mem_cons, List.not_mem_nil, or_false] at hx
      rcases hx with rfl | rfl
      · exact iK_good _
      · exact count_good
    · split
      · refine ⟨km_match c w _ rfl rfl, ?_, by simp, by simp, by simp, by simp, by simp, by simp [kmQ, query0], by simp [kmQ, query0], Or.inl rfl, rfl⟩
        intro x hx
        simp only [List.mem_cons, List.not_mem_nil, or_false] at hx
        rcases hx with rfl | rfl | rfl
        · exact iK_good _
        · exact iK_good _
        · exact ij_good _
      · split
        · refine ⟨km_match c w _ rfl rfl, ?_, by simp, by simp, by simp [kmQ, query0], by simp [kmQ, query0], by simp [kmQ, query0], by simp [kmQ, query0], by simp [kmQ, query0], Or.inl rfl, rfl⟩
          intro x hx
          rw [List.mem_singleton.1 hx]; exact count_good
        · refine ⟨km_match c w _ rfl rfl, ?_, by simp, by simp, by simp, by simp, by simp [kmQ, query0], by simp, by simp, Or.inr (by simp), rfl⟩
          intro x hx
          simp only [List.mem_cons, List.not_mem_nil, or_false] at hx
          rcases hx with rfl | rfl
          · exact iK_good _
          · exact iB_good _

end Go.Proofs.YtobgbmfpicmpcaaGreatDoor.Pure

/- The texts of veilkeep: which thing a raw number speaks of; labels, numbers. -/
namespace Go.Proofs.YtobgbmfpicmpcaaGreatDoor
open Go.RowKit

set_option maxRecDepth 100000 in
set_option maxHeartbeats 400000 in
theorem pick_ {W : World} {c n : Int} (hc : I64 c) (hn0 : 0 < n) (hn1 : n ≤ 9223372036854775807) :
    Calls Tryz.prog 31 #[.int .i64 c, .int .i64 n] W fun e W' => e = .returned (.int .i64 (pk c n)) ∧ W' = W := by
  obtain ⟨h0, h1⟩ := hc
  by_cases hneg : c < 0
  · have HP : Hid (pk c n = -((c + 1).tmod n)) := by show _ = _; unfold pk; rw [if_pos hneg, ← Int.neg_tmod, Int.tmod_eq_emod_of_nonneg (by omega)]
    have hm0 : 0 ≤ -(c + 1) % n := Int.emod_nonneg _ (by omega)
    have hm1 : -(c + 1) % n < n := Int.emod_lt_of_pos _ hn0
    have hz : (n == 0) = false := by simp; omega
    go_enter Tryz.func31, Tryz.ntmps31
    go_wp2_with fail
    go_ret
    exact ⟨by rw [HP.out]; rfl, rfl⟩
  · have HP : Hid (pk c n = c % n) := by show _ = _; unfold pk; rw [if_neg hneg]
    have hm0 : 0 ≤ c % n := Int.emod_nonneg _ (by omega)
    have hm1 : c % n < n := Int.emod_lt_of_pos _ hn0
    have hz : (n == 0) = false := by simp; omega
    go_enter Tryz.func31, Tryz.ntmps31
    go_wp2_with fail
    go_ret
    exact ⟨by rw [HP.out]; rfl, rfl⟩

theorem i64_tdiv {c k : Int} (hc : I64 c) (hk : 0 < k) : I64 (c.tdiv k) := by
  obtain ⟨h0, h1⟩ := hc
  by_cases h : 0 ≤ c
  · have a := Int.tdiv_nonneg h (Int.le_of_lt hk)
    rw [Int.tdiv_eq_ediv_of_nonneg h] at a ⊢
    have b := Int.ediv_le_self k h
    exact ⟨by omega, by omega⟩
  · have hn : 0 ≤ -c := by omega
    have e : c.tdiv k = -((-c) / k) := by rw [← Int.tdiv_eq_ediv_of_nonneg hn, Int.neg_tdiv, Int.neg_neg]
    rw [e]
    have b := Int.ediv_le_self k hn
    have a := Int.ediv_nonneg hn (Int.le_of_lt hk)
    exact ⟨by omega, by omega⟩
set_option maxRecDepth 100000 in
set_option maxHeartbeats 400000 in
theorem title_K {W : World} {c : Int} (hc : I64 c) :
    Calls Tryz.prog 67 #[.int .i64 c] W fun e W' => e = .returned (.string (ttl c)) ∧ Below W.heap.size W W' := by
  have HB : Hid (Below W.heap.size W (W.alloc (.cells #[.string ⟨#[65]⟩, .string ⟨#[66]⟩, .string ⟨#[72]⟩] 9))) := (Below.refl _ _).alloc (Nat.le_refl _) _
  have h0 := pk_nonneg (c := c) (n := 3) (by omega)
  have h1 := pk_lt (c := c) (n := 3) (by omega)
  have h3 : pk c 3 = 0 ∨ pk c 3 = 1 ∨ pk c 3 = 2 := by omega
  have HC := Lib.hid hc
  clear h0 h1 hc
  rcases h3 with h | h | h
  · have HT : Hid (ttl c = ⟨#[65]⟩) := by show _ = _; unfold ttl; rw [if_pos h]
    have HP := Lib.hid h
    clear h
    go_enter Tryz.func67, Tryz.ntmps67
    go_wp2_with fail
    refine (pick_ HC.out (by omega) (by omega)).mono ?_
    rw [HP.out]
    rintro e w1 ⟨rfl, hw⟩
    subst hw
    go_wp2_with fail
    go_ret
    exact ⟨by rw [HT.out]; rfl, HB.out⟩
  · have HT : Hid (ttl c = ⟨#[66]⟩) := by show _ = _; unfold ttl; rw [if_neg (by omega), if_pos h]
    have HP := Lib.hid h
    clear h
    go_enter Tryz.func67, Tryz.ntmps67
    go_wp2_with fail
    refine (pick_ HC.out (by omega) (by omega)).mono ?_
    rw [HP.out]
    rintro e w1 ⟨rfl, hw⟩
    subst hw
    go_wp2_with fail
    go_ret
    exact ⟨by rw [HT.out]; rfl, HB.out⟩
  · have HT : Hid (ttl c = ⟨#[72]⟩) := by show _ = _; unfold ttl; rw [if_neg (by omega), if_neg (by omega)]
    have HP := Lib.hid h
    clear h
    go_enter Tryz.func67, Tryz.ntmps67
    go_wp2_with fail
    refine (pick_ HC.out (by omega) (by omega)).mono ?_
    rw [HP.out]
    rintro e w1 ⟨rfl, hw⟩
    subst hw
    go_wp2_with fail
    go_ret
    exact ⟨by rw [HT.out]; rfl, HB.out⟩

set_option maxRecDepth 100000 in
set_option maxHeartbeats 400000 in
theorem number_K {W : World} {c : Int} (hc : I64 c) (ht : Tab W) :
    Calls Tryz.prog 68 #[.int .i64 c] W fun e W' => e = .returned (.string (decB (nmb c))) ∧ Below W.heap.size W W' := by
  have h0 := pk_nonneg (c := c) (n := 7) (by omega)
  have h1 := pk_lt (c := c) (n := 7) (by omega)
  have hf := nmb_fit c
  have HF : Hid (I64 (nmb c)) := ⟨by omega, by omega⟩
  have HN : Hid (pk c 7 - 3 = nmb c) := rfl
  clear hf
  go_enter Tryz.func68, Tryz.ntmps68
  go_wp2_with fail
  refine (pick_ hc (by omega) (by omega)).mono ?_
  rintro e w1 ⟨rfl, hw⟩
  obtain rfl := hw.symm
  go_wp2_with fail
  rw [HN.out]
  refine (itoa_ HF.out ht).mono ?_
  rintro e w2 ⟨rfl, hb⟩
  have HB := Lib.hid hb
  clear hb
  go_wp2_with fail
  go_ret
  exact ⟨rfl, HB.out⟩

end Go.Proofs.YtobgbmfpicmpcaaGreatDoor

/- The texts of veilkeep's queries, byte by byte; they are in scope. No program in this text. -/
namespace Go.Proofs.YtobgbmfpicmpcaaGreatDoor

def kmA (c : Int) : ByteArray :=
  if pk c 6 = 0 then ⟨#[40, 32, 97, 32, 41, 32]⟩ ++ ⟨#[45, 91, 32, 84, 32, 93, 45, 62]⟩ ++ ⟨#[32, 40, 32, 98, 32, 41, 32]⟩ ++ ⟨#[45, 91, 32, 84, 32, 93, 45, 62]⟩ ++ ⟨#[32, 40, 32, 99, 32, 41]⟩
  else if pk c 6 = 1 then (⟨#[40, 32, 97, 32, 58, 32]⟩ ++ ttl (kmD c) ++ ⟨#[32, 41]⟩) ++ ⟨#[32, 45, 91, 32, 84, 32, 42, 32]⟩ ++ decB (pk (kmD c / 3) 3) ++ ⟨#[32, 46, 46, 32, 50, 32, 93, 45, 62, 32, 40, 32, 98, 32, 41, 32, 44, 32, 40, 32, 99, 32, 41]⟩
  else if pk c 6 = 2 then (⟨#[40, 32, 97, 32, 58, 32]⟩ ++ ttl (kmD c) ++ ⟨#[32, 41]⟩) ++ ⟨#[32, 44, 32, 40, 32, 98, 32, 41, 32]⟩ ++ ⟨#[45, 91, 32, 84, 32, 93, 45, 62]⟩ ++ ⟨#[32, 40, 32, 99, 32, 41]⟩
  else if pk c 6 = 3 then ⟨#[40, 32, 97, 32, 41, 32, 45, 91, 32, 85, 32, 42, 32, 48, 32, 46, 46, 32, 49, 32, 93, 45, 62, 32, 40, 32, 98, 32, 41, 32, 44, 32, 40, 32, 98, 32, 41, 32]⟩ ++ ⟨#[45, 91, 32, 84, 32, 93, 45, 62]⟩ ++ ⟨#[32, 40, 32, 99, 32, 41]⟩
  else if pk c 6 = 4 then ⟨#[40, 32, 97, 32, 41, 32]⟩ ++ ⟨#[45, 91, 32, 84, 32, 93, 45, 62]⟩ ++ ⟨#[32, 40, 32, 98, 32, 41, 32, 44, 32, 40, 32, 97, 32, 41, 32]⟩ ++ ⟨#[45, 91, 32, 84, 32, 93, 45, 62]⟩ ++ ⟨#[32, 40, 32, 99, 32, 58, 32]⟩ ++ ttl (kmD c) ++ ⟨#[32, 41]⟩
  else (⟨#[40, 32, 97, 32, 58, 32]⟩ ++ ttl (kmD c) ++ ⟨#[32, 41]⟩) ++ ⟨#[32, 44, 32, 40, 32, 98, 32, 58, 32]⟩ ++ ttl (kmD c / 3) ++ ⟨#[32, 41, 32, 44, 32, 40, 32, 99, 32, 58, 32, 65, 32, 41]⟩
def krI (i : Int) : ByteArray :=
  if pk i 5 = 0 then ⟨#[32, 82, 69, 84, 85, 82, 78, 32, 97, 32, 44, 32, 98, 32, 44, 32, 99]⟩ else if pk i 5 = 1 then ⟨#[32, 82, 69, 84, 85, 82, 78, 32, 97, 32, 46, 32, 107, 32, 44, 32, 67, 79, 85, 78, 84]⟩ else if pk i 5 = 2 then ⟨#[32, 82, 69, 84, 85, 82, 78, 32, 97, 32, 46, 32, 107, 32, 44, 32, 98, 32, 46, 32, 107, 32, 44, 32, 99, 32, 46, 32, 106, 32, 79, 82, 68, 69, 82, 32, 66, 89, 32, 50, 32, 68, 69, 83, 67]⟩ else if pk i 5 = 3 then ⟨#[32, 82, 69, 84, 85, 82, 78, 32, 67, 79, 85, 78, 84]⟩ else ⟨#[32, 82, 69, 84, 85, 82, 78, 32, 99, 32, 46, 32, 107, 32, 44, 32, 97, 32, 79, 82, 68, 69, 82, 32, 66, 89, 32, 49, 32, 83, 75, 73, 80, 32, 49, 32, 76, 73, 77, 73, 84, 32, 51]⟩

end Go.Proofs.YtobgbmfpicmpcaaGreatDoor
namespace Go.Proofs.YtobgbmfpicmpcaaGreatDoor.Pure

theorem spaced_joined {l : List ByteArray} (h : l ≠ []) : spaced l = 32 :: joined l := by
  cases l with
  | nil => exact absurd rfl h
  | cons a r => rw [spaced_cons, joined_cons]
theorem termW_ne (t : PTerm) : termW t ≠ [] := by unfold termW; split <;> simp
theorem vB0 : vB 0 = ⟨#[97]⟩ := rfl
theorem vB1 : vB 1 = ⟨#[98]⟩ := rfl
theorem vB2 : vB 2 = ⟨#[99]⟩ := rfl
theorem bl_mk (l : Array UInt8) : bl ⟨l⟩ = l.toList := rfl
theorem e0e : e0.toList.isEmpty = true := e0_isEmpty
theorem tBe : tB.toList.isEmpty = false := title_nonempty tB_title
theorem uBe : uB.toList.isEmpty = false := title_nonempty uB_title
theorem aBe : (⟨#[65]⟩ : ByteArray).toList.isEmpty = false := title_nonempty aB_title
theorem ttle (c : Int) : (ttl c).toList.isEmpty = false := title_nonempty (ttl_title c)
theorem vBe (i : Int) : (vB i).toList.isEmpty = false := name_nonempty (vB_name i)
theorem dec0 : bl (decB 0) = [48] := by rw [bl_dec]; decide +kernel
theorem dec1 : bl (decB 1) = [49] := by rw [bl_dec]; decide +kernel
theorem dec2 : bl (decB 2) = [50] := by rw [bl_dec]; decide +kernel
theorem dec3 : bl (decB 3) = [51] := by rw [bl_dec]; decide +kernel
theorem spots_text (c : Int) : spaced (gather spotW true (kmS c)) = 32 :: (kmA c).data.toList := by
  have hb : ∀ s : ByteArray, s.data.toList = bl s := fun _ => rfl
  unfold kmS kmA
  split
  · simp only [gather, spotW, nodeW, stepW, at0, to0, e0e, tBe, vB0, vB1, vB2, ba_app]
    simp [spaced_cons, spaced_nil, bl_mk, mOpen, mClose, mTo, mArrow, tB]
  · split
    · simp only [gather, spotW, nodeW, stepW, at0, at1, e0e, tBe, ttle, vB0, vB1, vB2, ba_app]
      simp [spaced_cons, spaced_nil, bl_mk, mOpen, mClose, mTo, mArrow, mColon, mComma, mStar, mDots, tB, dec2, hb]
    · split
      · simp only [gather, spotW, nodeW, stepW, at0, at1, to0, e0e, tBe, ttle, vB0, vB1, vB2, ba_app]
        simp [spaced_cons, spaced_nil, bl_mk, mOpen, mClose, mTo, mArrow, mColon, mComma, tB, hb]
      · split
        · simp only [gather, spotW, nodeW, stepW, at0, to0, e0e, tBe, uBe, vB0, vB1, vB2, ba_app]
          simp [spaced_cons, spaced_nil, bl_mk, mOpen, mClose, mTo, mArrow, mComma, mStar, mDots, tB, uB, dec0, dec1]
        · split
          · simp only [gather, spotW, nodeW, stepW, at0, to0, e0e, tBe, ttle, vB0, vB1, vB2, ba_app]
            simp [spaced_cons, spaced_nil, bl_mk, mOpen, mClose, mTo, mArrow, mColon, mComma, tB, hb]
          · simp only [gather, spotW, nodeW, at1, e0e, aBe, ttle, vB0, vB1, vB2, ba_app]
            simp [spaced_cons, spaced_nil, bl_mk, mOpen, mClose, mColon, mComma, hb]
theorem km_textNo {c w : Int} (h : ¬ 0 < pk w 3) : kmText c w = ⟨#[77, 65, 84, 67, 72, 32]⟩ ++ kmA c := by
  apply ba_eq
  unfold kmText matchW
  rw [ba_mk, ba_app, joined_cons, spaced_append]
  have e1 : (kmQ c w).spots = kmS c := rfl
  have e2 : (kmQ c w).conds = [] := by unfold kmQ kmC; simp [h]
  rw [e1, e2, spots_text]
  simp [gather, spaced_nil, kMATCH, bl_mk]
theorem km_textYes {c w : Int} (h : 0 < pk w 3) : kmText c w = ⟨#[77, 65, 84, 67, 72, 32]⟩ ++ kmA c ++ ⟨#[32, 87, 72, 69, 82, 69, 32]⟩ ++ kcText (kc (w.tdiv 3)) := by
  apply ba_eq
  unfold kmText matchW kcText
  rw [ba_mk, ba_app, ba_app, ba_app, ba_mk, joined_cons, spaced_append]
  have e1 : (kmQ c w).spots = kmS c := rfl
  have e2 : (kmQ c w).conds = [kc (w.tdiv 3)] := by unfold kmQ kmC; simp [h]
  have e3 : gather condW true [kc (w.tdiv 3)] = kWHERE :: (termW (kc (w.tdiv 3)).a ++ opW (kc (w.tdiv 3))) := by simp [gather, condW]
  rw [e1, e2, spots_text, e3, spaced_cons, spaced_joined (by simp [termW_ne])]
  simp [kMATCH, kWHERE, bl_mk]
theorem kr_text (c w i : Int) : krText c w i = kmText c w ++ krI i := by
  apply ba_eq
  have hm : ∀ q : PQuery, q.kind = 1 → q.spots = kmS c → q.conds = kmC w → queryW q = matchW (kmQ c w) ++ readW q := by
    intro q h1 h2 h3
    unfold queryW actW
    rw [if_neg (by omega), if_neg (by omega), if_pos h1]
    unfold matchW
    rw [h2, h3]; rfl
  have hj : ∀ l : List ByteArray, joined (matchW (kmQ c w) ++ l) = joined (matchW (kmQ c w)) ++ spaced l := by
    intro l
    unfold matchW
    rw [List.cons_append, joined_cons, joined_cons, spaced_append, List.append_assoc]
  unfold krText kmText
  rw [ba_mk, ba_app, ba_mk]
  unfold krQ krI
  split
  · rw [hm _ rfl rfl rfl, hj]
    congr 1
    simp only [readW, partW, orderW, skipW, limitW, gather, itemW, oneW, iB, e0e, vB0, vB1, vB2, kmQ, query0]
    simp [spaced_cons, spaced_nil, bl_mk, kRETURN, mComma]
  · split
    · rw [hm _ rfl rfl rfl, hj]
      congr 1
      simp only [readW, partW, orderW, skipW, limitW, gather, itemW, oneW, iK, e0e, name_nonempty kB_name, vB0, kmQ, query0]
      simp [spaced_cons, spaced_nil, bl_mk, kRETURN, mComma, mDot, kB, kCOUNT]
    · split
      · rw [hm _ rfl rfl rfl, hj]
        congr 1
        simp only [readW, partW, orderW, skipW, limitW, gather, itemW, oneW, iK, name_nonempty kB_name, name_nonempty jB_name, vB0, vB1, vB2, kmQ, query0]
        simp [spaced_cons, spaced_nil, bl_mk, kRETURN, mComma, mDot, kB, kORDER, kBY, kDESC, dec2]
      · split
        · rw [hm _ rfl rfl rfl, hj]
          congr 1
          simp only [readW, partW, orderW, skipW, limitW, gather, itemW, oneW, e0e, kmQ, query0]
          simp [spaced_cons, spaced_nil, bl_mk, kRETURN, kCOUNT]
        · rw [hm _ rfl rfl rfl, hj]
          congr 1
          simp only [readW, partW, orderW, skipW, limitW, gather, itemW, oneW, iK, iB, e0e, name_nonempty kB_name, vB0, vB2, kmQ, query0]
          simp [spaced_cons, spaced_nil, bl_mk, kRETURN, mComma, mDot, kB, kORDER, kBY, kSKIP, kLIMIT, dec1, dec3]
theorem kc_text0 {c : Int} (h : pk c 5 = 0) : kcText (kc c) = vB (pk (kcD c) 3) ++ ⟨#[32, 46, 32, 107]⟩ ++ ⟨#[32, 73, 83, 32, 78, 85, 76, 76]⟩ := by
  apply ba_eq
  unfold kcText kc
  rw [if_pos h, ba_mk, ba_app, ba_app]
  simp only [termW, opW, kcA, vBe]
  simp [joined_cons, spaced_cons, spaced_nil, bl, mDot, kB, kIS, kNULL]
theorem kc_text1 {c : Int} (h : pk c 5 = 1) : kcText (kc c) = vB (pk (kcD c) 3) ++ ⟨#[32, 46, 32, 107]⟩ ++ ⟨#[32, 73, 83, 32, 78, 79, 84, 32, 78, 85, 76, 76]⟩ := by
  apply ba_eq
  unfold kcText kc
  rw [if_neg (by omega), if_pos h, ba_mk, ba_app, ba_app]
  simp only [termW, opW, kcA, vBe]
  simp [joined_cons, spaced_cons, spaced_nil, bl, mDot, kB, kIS, kNOT, kNULL]
theorem kc_text2 {c : Int} (h : pk c 5 = 2) : kcText (kc c) = vB (pk (kcD c) 3) ++ ⟨#[32, 46, 32, 107]⟩ ++ ⟨#[32, 60, 61, 32]⟩ ++ vB (pk (kcD c / 3) 3) ++ ⟨#[32, 46, 32, 107]⟩ := by
  apply ba_eq
  unfold kcText kc
  rw [if_neg (by omega), if_neg (by omega), if_pos h, ba_mk, ba_app, ba_app, ba_app, ba_app]
  simp only [termW, opW, kcA, vBe, markW]
  simp [joined_cons, spaced_cons, spaced_nil, bl, mDot, kB, mLe]
theorem kc_text3 {c : Int} (h : pk c 5 = 3) : kcText (kc c) = vB (pk (kcD c) 3) ++ ⟨#[32, 46, 32, 107]⟩ ++ ⟨#[32, 60, 62, 32]⟩ ++ decB (nmb (kcD c / 9)) := by
  apply ba_eq
  unfold kcText kc
  rw [if_neg (by omega), if_neg (by omega), if_neg (by omega), if_pos h, ba_mk, ba_app, ba_app, ba_app]
  simp only [termW, opW, kcA, vBe, e0e, markW]
  simp [joined_cons, spaced_cons, spaced_nil, bl, mDot, kB, mNe]
theorem kc_text4 {c : Int} (h : pk c 5 = 4) : kcText (kc c) = vB (pk (kcD c) 3) ++ ⟨#[32, 46, 32, 107]⟩ ++ ⟨#[32, 60, 32]⟩ ++ decB (nmb (kcD c / 9)) := by
  apply ba_eq
  unfold kcText kc
  rw [if_neg (by omega), if_neg (by omega), if_neg (by omega), if_neg (by omega), ba_mk, ba_app, ba_app, ba_app]
  simp only [termW, opW, kcA, vBe, e0e, markW]
  simp [joined_cons, spaced_cons, spaced_nil, bl, mDot, kB, mLt]
theorem joined_size {l : List ByteArray} (h : WL 160 l) : (⟨(joined l).toArray⟩ : ByteArray).size ≤ 2000 := by
  have hz : (⟨(joined l).toArray⟩ : ByteArray).size = (joined l).length := by simp [ByteArray.size]
  rw [hz]
  exact joined_len h
theorem kcText_size (c : Int) : (kcText (kc c)).size ≤ 2000 := by
  unfold kcText
  have h := wl_cond (kc_good c) true
  refine joined_size ⟨fun w hw => h.1 w ?_, ?_⟩
  · unfold condW; exact List.mem_cons_of_mem _ hw
  · have := h.2
    unfold condW at this
    simp only [List.length_cons] at this
    omega
theorem kmText_size (c w : Int) : (kmText c w).size ≤ 2000 := by
  unfold kmText
  exact joined_size (wl_mono (wl_match (km_match c w _ rfl rfl)) (by omega))
theorem nmb_size (c : Int) : (decB (nmb c)).size ≤ 11 := (wd_num (nmb_in c)).2
theorem ttl_size (c : Int) : (ttl c).size ≤ 11 := (wd_title (ttl_title c)).2
theorem pk3_size (c : Int) : (decB (pk c 3)).size ≤ 11 := (wd_num (n := pk c 3) (by
  have h0 := pk_nonneg (c := c) (n := 3) (by omega)
  have h1 := pk_lt (c := c) (n := 3) (by omega)
  exact ⟨by omega, by omega⟩)).2
theorem vB_cases (i : Int) : vB i = vB 0 ∨ vB i = vB 1 ∨ vB i = vB 2 := by
  by_cases h : i = 0
  · left; rw [h]
  · by_cases h1 : i = 1
    · right; left; rw [h1]
    · right; right; unfold vB; simp [h, h1]
theorem bound_of {l : List PSpot} {s : PSpot} (h : s ∈ l) : boundR l s.name = true := by
  unfold boundR
  exact List.any_eq_true.2 ⟨s, h, eqB_refl _⟩
theorem kmS_bound (c i : Int) : boundR (kmS c) (vB i) = true := by
  have key : ∀ j : Int, j = 0 ∨ j = 1 ∨ j = 2 → ∃ s ∈ kmS c, s.name = vB j := by
    intro j hj
    unfold kmS
    rcases hj with rfl | rfl | rfl
    · split
      · exact ⟨at0 0, by simp, rfl⟩
      · split
        · exact ⟨at1 0 (ttl (kmD c)), by simp, rfl⟩
        · split
          · exact ⟨at1 0 (ttl (kmD c)), by simp, rfl⟩
          · split
            · exact ⟨at0 0, by simp, rfl⟩
            · split
              · exact ⟨at0 0, by simp, rfl⟩
              · exact ⟨at1 0 (ttl (kmD c)), by simp, rfl⟩
    · split
      · exact ⟨to0 1, by simp, rfl⟩
      · split
        · exact ⟨⟨vB 1, e0, tB, pk (kmD c / 3) 3, 2⟩, by simp, rfl⟩
        · split
          · exact ⟨at0 1, by simp, rfl⟩
          · split
            · exact ⟨at0 1, by simp, rfl⟩
            · split
              · exact ⟨to0 1, by simp, rfl⟩
              · exact ⟨at1 1 (ttl (kmD c / 3)), by simp, rfl⟩
    · split
      · exact ⟨to0 2, by simp, rfl⟩
      · split
        · exact ⟨at0 2, by simp, rfl⟩
        · split
          · exact ⟨to0 2, by simp, rfl⟩
          · split
            · exact ⟨to0 2, by simp, rfl⟩
            · split
              · exact ⟨⟨vB 2, ttl (kmD c), tB, 1, 1⟩, by simp, rfl⟩
              · exact ⟨at1 2 ⟨#[65]⟩, by simp, rfl⟩
  rcases vB_cases i with e | e | e
  · obtain ⟨s, hs, hn⟩ := key 0 (by simp); rw [e, ← hn]; exact bound_of hs
  · obtain ⟨s, hs, hn⟩ := key 1 (by simp); rw [e, ← hn]; exact bound_of hs
  · obtain ⟨s, hs, hn⟩ := key 2 (by simp); rw [e, ← hn]; exact bound_of hs
theorem kc_names (c : Int) : (∃ i, (kc c).a.name = vB i) ∧ ((kc c).b.name = e0 ∨ ∃ i, (kc c).b.name = vB i) := by
  unfold kc
  split
  · exact ⟨⟨_, rfl⟩, Or.inl rfl⟩
  · split
    · exact ⟨⟨_, rfl⟩, Or.inl rfl⟩
    · split
      · exact ⟨⟨_, rfl⟩, Or.inr ⟨_, rfl⟩⟩
      · split
        · exact ⟨⟨_, rfl⟩, Or.inl rfl⟩
        · exact ⟨⟨_, rfl⟩, Or.inl rfl⟩
theorem kr_items (c w i : Int) : ∀ x ∈ (krQ c w i).items, x.name = e0 ∨ ∃ j, x.name = vB j := by
  unfold krQ
  split
  · intro x hx
    simp only [List.mem_cons, List.not_mem_nil, or_false] at hx
    rcases hx with rfl | rfl | rfl <;> first | exact Or.inr ⟨0, rfl⟩ | exact Or.inr ⟨1, rfl⟩ | exact Or.inr ⟨2, rfl⟩
  · split
    · intro x hx
      simp only [List.mem_cons, List.not_mem_nil, or_false] at hx
      rcases hx with rfl | rfl
      · first | exact Or.inr ⟨0, rfl⟩ | exact Or.inr ⟨1, rfl⟩ | exact Or.inr ⟨2, rfl⟩
      · exact Or.inl rfl
    · split
      · intro x hx
        simp only [List.mem_cons, List.not_mem_nil, or_false] at hx
        rcases hx with rfl | rfl | rfl <;> first | exact Or.inr ⟨0, rfl⟩ | exact Or.inr ⟨1, rfl⟩ | exact Or.inr ⟨2, rfl⟩
      · split
        · intro x hx
          rw [List.mem_singleton.1 hx]; exact Or.inl rfl
        · intro x hx
          simp only [List.mem_cons, List.not_mem_nil, or_false] at hx
          rcases hx with rfl | rfl <;> first | exact Or.inr ⟨0, rfl⟩ | exact Or.inr ⟨1, rfl⟩ | exact Or.inr ⟨2, rfl⟩
theorem kr_parts (c w i : Int) : (krQ c w i).kind = 1 ∧ (krQ c w i).spots = kmS c ∧ (krQ c w i).conds = kmC w ∧ (krQ c w i).name = e0 ∧ (krQ c w i).to = e0 := by
  unfold krQ
  repeat' split
  all_goals exact ⟨rfl, rfl, rfl, rfl, rfl⟩
theorem kr_scope (c w i : Int) : inScopeP (krQ c w i) = true := by
  obtain ⟨hk, hs, hc, hn, ht⟩ := kr_parts c w i
  unfold inScopeP usedP
  rw [hk, hs, hc, hn, ht]
  simp only [Bool.and_eq_true]
  refine ⟨?_, by simp⟩
  rw [List.all_eq_true]
  have ok : ∀ n : ByteArray, (n = e0 ∨ ∃ j, n = vB j) → (n.toList.isEmpty || boundR (kmS c) n) = true := by
    rintro n (rfl | ⟨j, rfl⟩)
    · rw [e0e]; rfl
    · rw [kmS_bound]; simp
  intro n hmem
  simp only [List.mem_append, List.mem_flatMap, List.mem_map] at hmem
  rcases hmem with (⟨x, hx, hxn⟩ | ⟨x, hx, rfl⟩) | hmem
  · unfold kmC at hx
    split at hx
    · rw [List.mem_singleton.1 hx] at hxn
      obtain ⟨h1, h2⟩ := kc_names (w.tdiv 3)
      simp only [List.mem_cons, List.not_mem_nil, or_false] at hxn
      rcases hxn with rfl | rfl
      · exact ok _ (Or.inr h1)
      · exact ok _ h2
    · cases hx
  · exact ok _ (kr_items c w i x hx)
  · rw [if_pos (by omega)] at hmem
    simp only [List.mem_cons, List.not_mem_nil, or_false, or_self] at hmem
    exact ok _ (Or.inl hmem)

end Go.Proofs.YtobgbmfpicmpcaaGreatDoor.Pure

