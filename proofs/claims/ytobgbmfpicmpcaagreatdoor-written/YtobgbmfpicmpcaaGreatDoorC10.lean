/- The program's same: the lists. -/
import Derived.Test.YtobgbmfpicmpcaaGreatDoorC09
namespace Go.Proofs.YtobgbmfpicmpcaaGreatDoor
open Go.RowKit

set_option maxRecDepth 100000 in
set_option maxHeartbeats 4000000 in
theorem sameLNo1 {W : World} {k o sk li vv : Int} {n ke vn vk ty tt la : ByteArray} {d : Bool} {sp spB : List PSpot} {co coB : List PCond} {it itB : List PItem} {pa paB : List PPair} {a1 a2 a3 a4 b1 b2 b3 b4 : Option Addr} {a5 a6 a7 a8 b5 b6 b7 b8 : Nat}
    (s1 : Sees W 5 (.slice a1 sp.length a5) sp.length (spotCells sp)) (t1 : Sees W 5 (.slice b1 spB.length b5) spB.length (spotCells spB)) (m1 : spB.length ≤ 3000) (q1 : eqL eqSpot sp spB = true) (s2 : Sees W 7 (.slice a2 co.length a6) co.length (condCells co)) (t2 : Sees W 7 (.slice b2 coB.length b6) coB.length (condCells coB)) (m2 : coB.length ≤ 3000) (q2 : eqL eqCond co coB = false)  :
    Calls Tryz.prog 55 #[.agg #[.int .i64 k, .slice a1 sp.length a5, .slice a2 co.length a6, .slice a3 it.length a7, .int .i64 o, .bool d, .int .i64 sk, .int .i64 li, .string n, .string ke, .string vn, .string vk, .int .i64 vv, .string ty, .string tt, .string la, .slice a4 pa.length a8], .agg #[.int .i64 k, .slice b1 spB.length b5, .slice b2 coB.length b6, .slice b3 itB.length b7, .int .i64 o, .bool d, .int .i64 sk, .int .i64 li, .string n, .string ke, .string vn, .string vk, .int .i64 vv, .string ty, .string tt, .string la, .slice b4 paB.length b8]] W fun e W' => e = .returned (.bool false) ∧ Below W.heap.size W W' := by
  have hB := Lib.hid (((Below.refl W.heap.size W).alloc (Nat.le_refl _) (.cells #[.int .i64 k, .slice a1 sp.length a5, .slice a2 co.length a6, .slice a3 it.length a7, .int .i64 o, .bool d, .int .i64 sk, .int .i64 li, .string n, .string ke, .string vn, .string vk, .int .i64 vv, .string ty, .string tt, .string la, .slice a4 pa.length a8] 29)).alloc (by rw [size_alloc]; omega) (.cells #[.int .i64 k, .slice b1 spB.length b5, .slice b2 coB.length b6, .slice b3 itB.length b7, .int .i64 o, .bool d, .int .i64 sk, .int .i64 li, .string n, .string ke, .string vn, .string vk, .int .i64 vv, .string ty, .string tt, .string la, .slice b4 paB.length b8] 29))
  have S1 := Lib.hid (s1.below hB.out)
  have T1 := Lib.hid (t1.below hB.out)
  have Q1 := Lib.hid q1
  clear s1 t1 q1
  have S2 := Lib.hid (s2.below hB.out)
  have T2 := Lib.hid (t2.below hB.out)
  have Q2 := Lib.hid q2
  clear s2 t2 q2
  have LX := (Loc.new W #[.int .i64 k, .slice a1 sp.length a5, .slice a2 co.length a6, .slice a3 it.length a7, .int .i64 o, .bool d, .int .i64 sk, .int .i64 li, .string n, .string ke, .string vn, .string vk, .int .i64 vv, .string ty, .string tt, .string la, .slice a4 pa.length a8] 29).alloc (.cells #[.int .i64 k, .slice b1 spB.length b5, .slice b2 coB.length b6, .slice b3 itB.length b7, .int .i64 o, .bool d, .int .i64 sk, .int .i64 li, .string n, .string ke, .string vn, .string vk, .int .i64 vv, .string ty, .string tt, .string la, .slice b4 paB.length b8] 29)
  have LY := Loc.new (W.alloc (.cells #[.int .i64 k, .slice a1 sp.length a5, .slice a2 co.length a6, .slice a3 it.length a7, .int .i64 o, .bool d, .int .i64 sk, .int .i64 li, .string n, .string ke, .string vn, .string vk, .int .i64 vv, .string ty, .string tt, .string la, .slice a4 pa.length a8] 29)) #[.int .i64 k, .slice b1 spB.length b5, .slice b2 coB.length b6, .slice b3 itB.length b7, .int .i64 o, .bool d, .int .i64 sk, .int .i64 li, .string n, .string ke, .string vn, .string vk, .int .i64 vv, .string ty, .string tt, .string la, .slice b4 paB.length b8] 29
  rw [size_alloc] at LY
  have LX := Lib.hid LX
  have LY := Lib.hid LY
  go_enter Tryz.func55, Tryz.ntmps55
  go_upto_region 1 with fail
  obtain ⟨X, hX⟩ : ∃ X, X = W.heap.size := ⟨_, rfl⟩
  obtain ⟨Y, hY⟩ : ∃ Y, Y = W.heap.size + 1 := ⟨_, rfl⟩
  rw [← hX] at LX
  rw [← hY] at LY
  rw [← hY, ← hX]
  clear hX hY
  generalize (W.alloc (.cells #[.int .i64 k, .slice a1 sp.length a5, .slice a2 co.length a6, .slice a3 it.length a7, .int .i64 o, .bool d, .int .i64 sk, .int .i64 li, .string n, .string ke, .string vn, .string vk, .int .i64 vv, .string ty, .string tt, .string la, .slice a4 pa.length a8] 29)).alloc (.cells #[.int .i64 k, .slice b1 spB.length b5, .slice b2 coB.length b6, .slice b3 itB.length b7, .int .i64 o, .bool d, .int .i64 sk, .int .i64 li, .string n, .string ke, .string vn, .string vk, .int .i64 vv, .string ty, .string tt, .string la, .slice b4 paB.length b8] 29) = W2 at *
  have x0 : W2.cell? ⟨X, 0, none⟩ = some (.int .i64 k) := (LX.out.cell 0).trans rfl
  have y0 : W2.cell? ⟨Y, 0, none⟩ = some (.int .i64 k) := (LY.out.cell 0).trans rfl
  have x4 : W2.cell? ⟨X, 4, none⟩ = some (.int .i64 o) := (LX.out.cell 4).trans rfl
  have y4 : W2.cell? ⟨Y, 4, none⟩ = some (.int .i64 o) := (LY.out.cell 4).trans rfl
  have x5 : W2.cell? ⟨X, 5, none⟩ = some (.bool d) := (LX.out.cell 5).trans rfl
  have y5 : W2.cell? ⟨Y, 5, none⟩ = some (.bool d) := (LY.out.cell 5).trans rfl
  have x6 : W2.cell? ⟨X, 6, none⟩ = some (.int .i64 sk) := (LX.out.cell 6).trans rfl
  have y6 : W2.cell? ⟨Y, 6, none⟩ = some (.int .i64 sk) := (LY.out.cell 6).trans rfl
  have x7 : W2.cell? ⟨X, 7, none⟩ = some (.int .i64 li) := (LX.out.cell 7).trans rfl
  have y7 : W2.cell? ⟨Y, 7, none⟩ = some (.int .i64 li) := (LY.out.cell 7).trans rfl
  have x8 : W2.cell? ⟨X, 8, none⟩ = some (.string n) := (LX.out.cell 8).trans rfl
  have y8 : W2.cell? ⟨Y, 8, none⟩ = some (.string n) := (LY.out.cell 8).trans rfl
  have x9 : W2.cell? ⟨X, 9, none⟩ = some (.string ke) := (LX.out.cell 9).trans rfl
  have y9 : W2.cell? ⟨Y, 9, none⟩ = some (.string ke) := (LY.out.cell 9).trans rfl
  have x10 : W2.cell? ⟨X, 10, none⟩ = some (.string vn) := (LX.out.cell 10).trans rfl
  have y10 : W2.cell? ⟨Y, 10, none⟩ = some (.string vn) := (LY.out.cell 10).trans rfl
  have x11 : W2.cell? ⟨X, 11, none⟩ = some (.string vk) := (LX.out.cell 11).trans rfl
  have y11 : W2.cell? ⟨Y, 11, none⟩ = some (.string vk) := (LY.out.cell 11).trans rfl
  have x12 : W2.cell? ⟨X, 12, none⟩ = some (.int .i64 vv) := (LX.out.cell 12).trans rfl
  have y12 : W2.cell? ⟨Y, 12, none⟩ = some (.int .i64 vv) := (LY.out.cell 12).trans rfl
  have x13 : W2.cell? ⟨X, 13, none⟩ = some (.string ty) := (LX.out.cell 13).trans rfl
  have y13 : W2.cell? ⟨Y, 13, none⟩ = some (.string ty) := (LY.out.cell 13).trans rfl
  have x14 : W2.cell? ⟨X, 14, none⟩ = some (.string tt) := (LX.out.cell 14).trans rfl
  have y14 : W2.cell? ⟨Y, 14, none⟩ = some (.string tt) := (LY.out.cell 14).trans rfl
  have x15 : W2.cell? ⟨X, 15, none⟩ = some (.string la) := (LX.out.cell 15).trans rfl
  have y15 : W2.cell? ⟨Y, 15, none⟩ = some (.string la) := (LY.out.cell 15).trans rfl
  have x1 : W2.cell? ⟨X, 1, none⟩ = some (.slice a1 sp.length a5) := (LX.out.cell 1).trans rfl
  have y1 : W2.cell? ⟨Y, 1, none⟩ = some (.slice b1 spB.length b5) := (LY.out.cell 1).trans rfl
  have x2 : W2.cell? ⟨X, 2, none⟩ = some (.slice a2 co.length a6) := (LX.out.cell 2).trans rfl
  have y2 : W2.cell? ⟨Y, 2, none⟩ = some (.slice b2 coB.length b6) := (LY.out.cell 2).trans rfl
  clear LX LY
  go_wp2_with fail
  refine (eqSpots S1.out T1.out m1).mono ?_
  rw [Q1.out]
  rintro e w1 ⟨rfl, d1, rfl⟩
  go_wp2_with fail
  refine (eqConds (S2.out.drew (d1)) (T2.out.drew (d1)) m2).mono ?_
  rw [Q2.out]
  rintro e w2 ⟨rfl, d2, rfl⟩
  go_wp2_with fail
  go_ret
  exact ⟨rfl, (hB.out.trans (Joins.below_draws _ _ (d1 + d2)))⟩

set_option maxRecDepth 100000 in
set_option maxHeartbeats 4000000 in
theorem sameLNo2 {W : World} {k o sk li vv : Int} {n ke vn vk ty tt la : ByteArray} {d : Bool} {sp spB : List PSpot} {co coB : List PCond} {it itB : List PItem} {pa paB : List PPair} {a1 a2 a3 a4 b1 b2 b3 b4 : Option Addr} {a5 a6 a7 a8 b5 b6 b7 b8 : Nat}
    (s1 : Sees W 5 (.slice a1 sp.length a5) sp.length (spotCells sp)) (t1 : Sees W 5 (.slice b1 spB.length b5) spB.length (spotCells spB)) (m1 : spB.length ≤ 3000) (q1 : eqL eqSpot sp spB = true) (s2 : Sees W 7 (.slice a2 co.length a6) co.length (condCells co)) (t2 : Sees W 7 (.slice b2 coB.length b6) coB.length (condCells coB)) (m2 : coB.length ≤ 3000) (q2 : eqL eqCond co coB = true) (s3 : Sees W 2 (.slice a3 it.length a7) it.length (itemCells it)) (t3 : Sees W 2 (.slice b3 itB.length b7) itB.length (itemCells itB)) (m3 : itB.length ≤ 3000) (q3 : eqL eqItem it itB = false)  :
    Calls Tryz.prog 55 #[.agg #[.int .i64 k, .slice a1 sp.length a5, .slice a2 co.length a6, .slice a3 it.length a7, .int .i64 o, .bool d, .int .i64 sk, .int .i64 li, .string n, .string ke, .string vn, .string vk, .int .i64 vv, .string ty, .string tt, .string la, .slice a4 pa.length a8], .agg #[.int .i64 k, .slice b1 spB.length b5, .slice b2 coB.length b6, .slice b3 itB.length b7, .int .i64 o, .bool d, .int .i64 sk, .int .i64 li, .string n, .string ke, .string vn, .string vk, .int .i64 vv, .string ty, .string tt, .string la, .slice b4 paB.length b8]] W fun e W' => e = .returned (.bool false) ∧ Below W.heap.size W W' := by
  have hB := Lib.hid (((Below.refl W.heap.size W).alloc (Nat.le_refl _) (.cells #[.int .i64 k, .slice a1 sp.length a5, .slice a2 co.length a6, .slice a3 it.length a7, .int .i64 o, .bool d, .int .i64 sk, .int .i64 li, .string n, .string ke, .string vn, .string vk, .int .i64 vv, .string ty, .string tt, .string la, .slice a4 pa.length a8] 29)).alloc (by rw [size_alloc]; omega) (.cells #[.int .i64 k, .slice b1 spB.length b5, .slice b2 coB.length b6, .slice b3 itB.length b7, .int .i64 o, .bool d, .int .i64 sk, .int .i64 li, .string n, .string ke, .string vn, .string vk, .int .i64 vv, .string ty, .string tt, .string la, .slice b4 paB.length b8] 29))
  have S1 := Lib.hid (s1.below hB.out)
  have T1 := Lib.hid (t1.below hB.out)
  have Q1 := Lib.hid q1
  clear s1 t1 q1
  have S2 := Lib.hid (s2.below hB.out)
  have T2 := Lib.hid (t2.below hB.out)
  have Q2 := Lib.hid q2
  clear s2 t2 q2
  have S3 := Lib.hid (s3.below hB.out)
  have T3 := Lib.hid (t3.below hB.out)
  have Q3 := Lib.hid q3
  clear s3 t3 q3
  have LX := (Loc.new W #[.int .i64 k, .slice a1 sp.length a5, .slice a2 co.length a6, .slice a3 it.length a7, .int .i64 o, .bool d, .int .i64 sk, .int .i64 li, .string n, .string ke, .string vn, .string vk, .int .i64 vv, .string ty, .string tt, .string la, .slice a4 pa.length a8] 29).alloc (.cells #[.int .i64 k, .slice b1 spB.length b5, .slice b2 coB.length b6, .slice b3 itB.length b7, .int .i64 o, .bool d, .int .i64 sk, .int .i64 li, .string n, .string ke, .string vn, .string vk, .int .i64 vv, .string ty, .string tt, .string la, .slice b4 paB.length b8] 29)
  have LY := Loc.new (W.alloc (.cells #[.int .i64 k, .slice a1 sp.length a5, .slice a2 co.length a6, .slice a3 it.length a7, .int .i64 o, .bool d, .int .i64 sk, .int .i64 li, .string n, .string ke, .string vn, .string vk, .int .i64 vv, .string ty, .string tt, .string la, .slice a4 pa.length a8] 29)) #[.int .i64 k, .slice b1 spB.length b5, .slice b2 coB.length b6, .slice b3 itB.length b7, .int .i64 o, .bool d, .int .i64 sk, .int .i64 li, .string n, .string ke, .string vn, .string vk, .int .i64 vv, .string ty, .string tt, .string la, .slice b4 paB.length b8] 29
  rw [size_alloc] at LY
  have LX := Lib.hid LX
  have LY := Lib.hid LY
  go_enter Tryz.func55, Tryz.ntmps55
  go_upto_region 1 with fail
  obtain ⟨X, hX⟩ : ∃ X, X = W.heap.size := ⟨_, rfl⟩
  obtain ⟨Y, hY⟩ : ∃ Y, Y = W.heap.size + 1 := ⟨_, rfl⟩
  rw [← hX] at LX
  rw [← hY] at LY
  rw [← hY, ← hX]
  clear hX hY
  generalize (W.alloc (.cells #[.int .i64 k, .slice a1 sp.length a5, .slice a2 co.length a6, .slice a3 it.length a7, .int .i64 o, .bool d, .int .i64 sk, .int .i64 li, .string n, .string ke, .string vn, .string vk, .int .i64 vv, .string ty, .string tt, .string la, .slice a4 pa.length a8] 29)).alloc (.cells #[.int .i64 k, .slice b1 spB.length b5, .slice b2 coB.length b6, .slice b3 itB.length b7, .int .i64 o, .bool d, .int .i64 sk, .int .i64 li, .string n, .string ke, .string vn, .string vk, .int .i64 vv, .string ty, .string tt, .string la, .slice b4 paB.length b8] 29) = W2 at *
  have x0 : W2.cell? ⟨X, 0, none⟩ = some (.int .i64 k) := (LX.out.cell 0).trans rfl
  have y0 : W2.cell? ⟨Y, 0, none⟩ = some (.int .i64 k) := (LY.out.cell 0).trans rfl
  have x4 : W2.cell? ⟨X, 4, none⟩ = some (.int .i64 o) := (LX.out.cell 4).trans rfl
  have y4 : W2.cell? ⟨Y, 4, none⟩ = some (.int .i64 o) := (LY.out.cell 4).trans rfl
  have x5 : W2.cell? ⟨X, 5, none⟩ = some (.bool d) := (LX.out.cell 5).trans rfl
  have y5 : W2.cell? ⟨Y, 5, none⟩ = some (.bool d) := (LY.out.cell 5).trans rfl
  have x6 : W2.cell? ⟨X, 6, none⟩ = some (.int .i64 sk) := (LX.out.cell 6).trans rfl
  have y6 : W2.cell? ⟨Y, 6, none⟩ = some (.int .i64 sk) := (LY.out.cell 6).trans rfl
  have x7 : W2.cell? ⟨X, 7, none⟩ = some (.int .i64 li) := (LX.out.cell 7).trans rfl
  have y7 : W2.cell? ⟨Y, 7, none⟩ = some (.int .i64 li) := (LY.out.cell 7).trans rfl
  have x8 : W2.cell? ⟨X, 8, none⟩ = some (.string n) := (LX.out.cell 8).trans rfl
  have y8 : W2.cell? ⟨Y, 8, none⟩ = some (.string n) := (LY.out.cell 8).trans rfl
  have x9 : W2.cell? ⟨X, 9, none⟩ = some (.string ke) := (LX.out.cell 9).trans rfl
  have y9 : W2.cell? ⟨Y, 9, none⟩ = some (.string ke) := (LY.out.cell 9).trans rfl
  have x10 : W2.cell? ⟨X, 10, none⟩ = some (.string vn) := (LX.out.cell 10).trans rfl
  have y10 : W2.cell? ⟨Y, 10, none⟩ = some (.string vn) := (LY.out.cell 10).trans rfl
  have x11 : W2.cell? ⟨X, 11, none⟩ = some (.string vk) := (LX.out.cell 11).trans rfl
  have y11 : W2.cell? ⟨Y, 11, none⟩ = some (.string vk) := (LY.out.cell 11).trans rfl
  have x12 : W2.cell? ⟨X, 12, none⟩ = some (.int .i64 vv) := (LX.out.cell 12).trans rfl
  have y12 : W2.cell? ⟨Y, 12, none⟩ = some (.int .i64 vv) := (LY.out.cell 12).trans rfl
  have x13 : W2.cell? ⟨X, 13, none⟩ = some (.string ty) := (LX.out.cell 13).trans rfl
  have y13 : W2.cell? ⟨Y, 13, none⟩ = some (.string ty) := (LY.out.cell 13).trans rfl
  have x14 : W2.cell? ⟨X, 14, none⟩ = some (.string tt) := (LX.out.cell 14).trans rfl
  have y14 : W2.cell? ⟨Y, 14, none⟩ = some (.string tt) := (LY.out.cell 14).trans rfl
  have x15 : W2.cell? ⟨X, 15, none⟩ = some (.string la) := (LX.out.cell 15).trans rfl
  have y15 : W2.cell? ⟨Y, 15, none⟩ = some (.string la) := (LY.out.cell 15).trans rfl
  have x1 : W2.cell? ⟨X, 1, none⟩ = some (.slice a1 sp.length a5) := (LX.out.cell 1).trans rfl
  have y1 : W2.cell? ⟨Y, 1, none⟩ = some (.slice b1 spB.length b5) := (LY.out.cell 1).trans rfl
  have x2 : W2.cell? ⟨X, 2, none⟩ = some (.slice a2 co.length a6) := (LX.out.cell 2).trans rfl
  have y2 : W2.cell? ⟨Y, 2, none⟩ = some (.slice b2 coB.length b6) := (LY.out.cell 2).trans rfl
  have x3 : W2.cell? ⟨X, 3, none⟩ = some (.slice a3 it.length a7) := (LX.out.cell 3).trans rfl
  have y3 : W2.cell? ⟨Y, 3, none⟩ = some (.slice b3 itB.length b7) := (LY.out.cell 3).trans rfl
  clear LX LY
  go_wp2_with fail
  refine (eqSpots S1.out T1.out m1).mono ?_
  rw [Q1.out]
  rintro e w1 ⟨rfl, d1, rfl⟩
  go_wp2_with fail
  refine (eqConds (S2.out.drew (d1)) (T2.out.drew (d1)) m2).mono ?_
  rw [Q2.out]
  rintro e w2 ⟨rfl, d2, rfl⟩
  go_wp2_with fail
  refine (eqItems (S3.out.drew (d1 + d2)) (T3.out.drew (d1 + d2)) m3).mono ?_
  rw [Q3.out]
  rintro e w3 ⟨rfl, d3, rfl⟩
  go_wp2_with fail
  go_ret
  exact ⟨rfl, (hB.out.trans (Joins.below_draws _ _ (d1 + d2 + d3)))⟩

set_option maxRecDepth 100000 in
set_option maxHeartbeats 4000000 in
theorem sameLNo3 {W : World} {k o sk li vv : Int} {n ke vn vk ty tt la : ByteArray} {d : Bool} {sp spB : List PSpot} {co coB : List PCond} {it itB : List PItem} {pa paB : List PPair} {a1 a2 a3 a4 b1 b2 b3 b4 : Option Addr} {a5 a6 a7 a8 b5 b6 b7 b8 : Nat}
    (s1 : Sees W 5 (.slice a1 sp.length a5) sp.length (spotCells sp)) (t1 : Sees W 5 (.slice b1 spB.length b5) spB.length (spotCells spB)) (m1 : spB.length ≤ 3000) (q1 : eqL eqSpot sp spB = true) (s2 : Sees W 7 (.slice a2 co.length a6) co.length (condCells co)) (t2 : Sees W 7 (.slice b2 coB.length b6) coB.length (condCells coB)) (m2 : coB.length ≤ 3000) (q2 : eqL eqCond co coB = true) (s3 : Sees W 2 (.slice a3 it.length a7) it.length (itemCells it)) (t3 : Sees W 2 (.slice b3 itB.length b7) itB.length (itemCells itB)) (m3 : itB.length ≤ 3000) (q3 : eqL eqItem it itB = true) (s4 : Sees W 2 (.slice a4 pa.length a8) pa.length (pairCells pa)) (t4 : Sees W 2 (.slice b4 paB.length b8) paB.length (pairCells paB)) (m4 : paB.length ≤ 3000) (q4 : eqL eqPair pa paB = false)  :
    Calls Tryz.prog 55 #[.agg #[.int .i64 k, .slice a1 sp.length a5, .slice a2 co.length a6, .slice a3 it.length a7, .int .i64 o, .bool d, .int .i64 sk, .int .i64 li, .string n, .string ke, .string vn, .string vk, .int .i64 vv, .string ty, .string tt, .string la, .slice a4 pa.length a8], .agg #[.int .i64 k, .slice b1 spB.length b5, .slice b2 coB.length b6, .slice b3 itB.length b7, .int .i64 o, .bool d, .int .i64 sk, .int .i64 li, .string n, .string ke, .string vn, .string vk, .int .i64 vv, .string ty, .string tt, .string la, .slice b4 paB.length b8]] W fun e W' => e = .returned (.bool false) ∧ Below W.heap.size W W' := by
  have hB := Lib.hid (((Below.refl W.heap.size W).alloc (Nat.le_refl _) (.cells #[.int .i64 k, .slice a1 sp.length a5, .slice a2 co.length a6, .slice a3 it.length a7, .int .i64 o, .bool d, .int .i64 sk, .int .i64 li, .string n, .string ke, .string vn, .string vk, .int .i64 vv, .string ty, .string tt, .string la, .slice a4 pa.length a8] 29)).alloc (by rw [size_alloc]; omega) (.cells #[.int .i64 k, .slice b1 spB.length b5, .slice b2 coB.length b6, .slice b3 itB.length b7, .int .i64 o, .bool d, .int .i64 sk, .int .i64 li, .string n, .string ke, .string vn, .string vk, .int .i64 vv, .string ty, .string tt, .string la, .slice b4 paB.length b8] 29))
  have S1 := Lib.hid (s1.below hB.out)
  have T1 := Lib.hid (t1.below hB.out)
  have Q1 := Lib.hid q1
  clear s1 t1 q1
  have S2 := Lib.hid (s2.below hB.out)
  have T2 := Lib.hid (t2.below hB.out)
  have Q2 := Lib.hid q2
  clear s2 t2 q2
  have S3 := Lib.hid (s3.below hB.out)
  have T3 := Lib.hid (t3.below hB.out)
  have Q3 := Lib.hid q3
  clear s3 t3 q3
  have S4 := Lib.hid (s4.below hB.out)
  have T4 := Lib.hid (t4.below hB.out)
  have Q4 := Lib.hid q4
  clear s4 t4 q4
  have LX := (Loc.new W #[.int .i64 k, .slice a1 sp.length a5, .slice a2 co.length a6, .slice a3 it.length a7, .int .i64 o, .bool d, .int .i64 sk, .int .i64 li, .string n, .string ke, .string vn, .string vk, .int .i64 vv, .string ty, .string tt, .string la, .slice a4 pa.length a8] 29).alloc (.cells #[.int .i64 k, .slice b1 spB.length b5, .slice b2 coB.length b6, .slice b3 itB.length b7, .int .i64 o, .bool d, .int .i64 sk, .int .i64 li, .string n, .string ke, .string vn, .string vk, .int .i64 vv, .string ty, .string tt, .string la, .slice b4 paB.length b8] 29)
  have LY := Loc.new (W.alloc (.cells #[.int .i64 k, .slice a1 sp.length a5, .slice a2 co.length a6, .slice a3 it.length a7, .int .i64 o, .bool d, .int .i64 sk, .int .i64 li, .string n, .string ke, .string vn, .string vk, .int .i64 vv, .string ty, .string tt, .string la, .slice a4 pa.length a8] 29)) #[.int .i64 k, .slice b1 spB.length b5, .slice b2 coB.length b6, .slice b3 itB.length b7, .int .i64 o, .bool d, .int .i64 sk, .int .i64 li, .string n, .string ke, .string vn, .string vk, .int .i64 vv, .string ty, .string tt, .string la, .slice b4 paB.length b8] 29
  rw [size_alloc] at LY
  have LX := Lib.hid LX
  have LY := Lib.hid LY
  go_enter Tryz.func55, Tryz.ntmps55
  go_upto_region 1 with fail
  obtain ⟨X, hX⟩ : ∃ X, X = W.heap.size := ⟨_, rfl⟩
  obtain ⟨Y, hY⟩ : ∃ Y, Y = W.heap.size + 1 := ⟨_, rfl⟩
  rw [← hX] at LX
  rw [← hY] at LY
  rw [← hY, ← hX]
  clear hX hY
  generalize (W.alloc (.cells #[.int .i64 k, .slice a1 sp.length a5, .slice a2 co.length a6, .slice a3 it.length a7, .int .i64 o, .bool d, .int .i64 sk, .int .i64 li, .string n, .string ke, .string vn, .string vk, .int .i64 vv, .string ty, .string tt, .string la, .slice a4 pa.length a8] 29)).alloc (.cells #[.int .i64 k, .slice b1 spB.length b5, .slice b2 coB.length b6, .slice b3 itB.length b7, .int .i64 o, .bool d, .int .i64 sk, .int .i64 li, .string n, .string ke, .string vn, .string vk, .int .i64 vv, .string ty, .string tt, .string la, .slice b4 paB.length b8] 29) = W2 at *
  have x0 : W2.cell? ⟨X, 0, none⟩ = some (.int .i64 k) := (LX.out.cell 0).trans rfl
  have y0 : W2.cell? ⟨Y, 0, none⟩ = some (.int .i64 k) := (LY.out.cell 0).trans rfl
  have x4 : W2.cell? ⟨X, 4, none⟩ = some (.int .i64 o) := (LX.out.cell 4).trans rfl
  have y4 : W2.cell? ⟨Y, 4, none⟩ = some (.int .i64 o) := (LY.out.cell 4).trans rfl
  have x5 : W2.cell? ⟨X, 5, none⟩ = some (.bool d) := (LX.out.cell 5).trans rfl
  have y5 : W2.cell? ⟨Y, 5, none⟩ = some (.bool d) := (LY.out.cell 5).trans rfl
  have x6 : W2.cell? ⟨X, 6, none⟩ = some (.int .i64 sk) := (LX.out.cell 6).trans rfl
  have y6 : W2.cell? ⟨Y, 6, none⟩ = some (.int .i64 sk) := (LY.out.cell 6).trans rfl
  have x7 : W2.cell? ⟨X, 7, none⟩ = some (.int .i64 li) := (LX.out.cell 7).trans rfl
  have y7 : W2.cell? ⟨Y, 7, none⟩ = some (.int .i64 li) := (LY.out.cell 7).trans rfl
  have x8 : W2.cell? ⟨X, 8, none⟩ = some (.string n) := (LX.out.cell 8).trans rfl
  have y8 : W2.cell? ⟨Y, 8, none⟩ = some (.string n) := (LY.out.cell 8).trans rfl
  have x9 : W2.cell? ⟨X, 9, none⟩ = some (.string ke) := (LX.out.cell 9).trans rfl
  have y9 : W2.cell? ⟨Y, 9, none⟩ = some (.string ke) := (LY.out.cell 9).trans rfl
  have x10 : W2.cell? ⟨X, 10, none⟩ = some (.string vn) := (LX.out.cell 10).trans rfl
  have y10 : W2.cell? ⟨Y, 10, none⟩ = some (.string vn) := (LY.out.cell 10).trans rfl
  have x11 : W2.cell? ⟨X, 11, none⟩ = some (.string vk) := (LX.out.cell 11).trans rfl
  have y11 : W2.cell? ⟨Y, 11, none⟩ = some (.string vk) := (LY.out.cell 11).trans rfl
  have x12 : W2.cell? ⟨X, 12, none⟩ = some (.int .i64 vv) := (LX.out.cell 12).trans rfl
  have y12 : W2.cell? ⟨Y, 12, none⟩ = some (.int .i64 vv) := (LY.out.cell 12).trans rfl
  have x13 : W2.cell? ⟨X, 13, none⟩ = some (.string ty) := (LX.out.cell 13).trans rfl
  have y13 : W2.cell? ⟨Y, 13, none⟩ = some (.string ty) := (LY.out.cell 13).trans rfl
  have x14 : W2.cell? ⟨X, 14, none⟩ = some (.string tt) := (LX.out.cell 14).trans rfl
  have y14 : W2.cell? ⟨Y, 14, none⟩ = some (.string tt) := (LY.out.cell 14).trans rfl
  have x15 : W2.cell? ⟨X, 15, none⟩ = some (.string la) := (LX.out.cell 15).trans rfl
  have y15 : W2.cell? ⟨Y, 15, none⟩ = some (.string la) := (LY.out.cell 15).trans rfl
  have x1 : W2.cell? ⟨X, 1, none⟩ = some (.slice a1 sp.length a5) := (LX.out.cell 1).trans rfl
  have y1 : W2.cell? ⟨Y, 1, none⟩ = some (.slice b1 spB.length b5) := (LY.out.cell 1).trans rfl
  have x2 : W2.cell? ⟨X, 2, none⟩ = some (.slice a2 co.length a6) := (LX.out.cell 2).trans rfl
  have y2 : W2.cell? ⟨Y, 2, none⟩ = some (.slice b2 coB.length b6) := (LY.out.cell 2).trans rfl
  have x3 : W2.cell? ⟨X, 3, none⟩ = some (.slice a3 it.length a7) := (LX.out.cell 3).trans rfl
  have y3 : W2.cell? ⟨Y, 3, none⟩ = some (.slice b3 itB.length b7) := (LY.out.cell 3).trans rfl
  have x16 : W2.cell? ⟨X, 16, none⟩ = some (.slice a4 pa.length a8) := (LX.out.cell 16).trans rfl
  have y16 : W2.cell? ⟨Y, 16, none⟩ = some (.slice b4 paB.length b8) := (LY.out.cell 16).trans rfl
  clear LX LY
  go_wp2_with fail
  refine (eqSpots S1.out T1.out m1).mono ?_
  rw [Q1.out]
  rintro e w1 ⟨rfl, d1, rfl⟩
  go_wp2_with fail
  refine (eqConds (S2.out.drew (d1)) (T2.out.drew (d1)) m2).mono ?_
  rw [Q2.out]
  rintro e w2 ⟨rfl, d2, rfl⟩
  go_wp2_with fail
  refine (eqItems (S3.out.drew (d1 + d2)) (T3.out.drew (d1 + d2)) m3).mono ?_
  rw [Q3.out]
  rintro e w3 ⟨rfl, d3, rfl⟩
  go_wp2_with fail
  refine (eqPairs (S4.out.drew (d1 + d2 + d3)) (T4.out.drew (d1 + d2 + d3)) m4).mono ?_
  rw [Q4.out]
  rintro e w4 ⟨rfl, d4, rfl⟩
  go_wp2_with fail
  go_ret
  exact ⟨rfl, (hB.out.trans (Joins.below_draws _ _ (d1 + d2 + d3 + d4)))⟩

set_option maxRecDepth 100000 in
set_option maxHeartbeats 4000000 in
theorem sameLYes {W : World} {k o sk li vv : Int} {n ke vn vk ty tt la : ByteArray} {d : Bool} {sp spB : List PSpot} {co coB : List PCond} {it itB : List PItem} {pa paB : List PPair} {a1 a2 a3 a4 b1 b2 b3 b4 : Option Addr} {a5 a6 a7 a8 b5 b6 b7 b8 : Nat}
    (s1 : Sees W 5 (.slice a1 sp.length a5) sp.length (spotCells sp)) (t1 : Sees W 5 (.slice b1 spB.length b5) spB.length (spotCells spB)) (m1 : spB.length ≤ 3000) (q1 : eqL eqSpot sp spB = true) (s2 : Sees W 7 (.slice a2 co.length a6) co.length (condCells co)) (t2 : Sees W 7 (.slice b2 coB.length b6) coB.length (condCells coB)) (m2 : coB.length ≤ 3000) (q2 : eqL eqCond co coB = true) (s3 : Sees W 2 (.slice a3 it.length a7) it.length (itemCells it)) (t3 : Sees W 2 (.slice b3 itB.length b7) itB.length (itemCells itB)) (m3 : itB.length ≤ 3000) (q3 : eqL eqItem it itB = true) (s4 : Sees W 2 (.slice a4 pa.length a8) pa.length (pairCells pa)) (t4 : Sees W 2 (.slice b4 paB.length b8) paB.length (pairCells paB)) (m4 : paB.length ≤ 3000) (q4 : eqL eqPair pa paB = true)  :
    Calls Tryz.prog 55 #[.agg #[.int .i64 k, .slice a1 sp.length a5, .slice a2 co.length a6, .slice a3 it.length a7, .int .i64 o, .bool d, .int .i64 sk, .int .i64 li, .string n, .string ke, .string vn, .string vk, .int .i64 vv, .string ty, .string tt, .string la, .slice a4 pa.length a8], .agg #[.int .i64 k, .slice b1 spB.length b5, .slice b2 coB.length b6, .slice b3 itB.length b7, .int .i64 o, .bool d, .int .i64 sk, .int .i64 li, .string n, .string ke, .string vn, .string vk, .int .i64 vv, .string ty, .string tt, .string la, .slice b4 paB.length b8]] W fun e W' => e = .returned (.bool true) ∧ Below W.heap.size W W' := by
  have hB := Lib.hid (((Below.refl W.heap.size W).alloc (Nat.le_refl _) (.cells #[.int .i64 k, .slice a1 sp.length a5, .slice a2 co.length a6, .slice a3 it.length a7, .int .i64 o, .bool d, .int .i64 sk, .int .i64 li, .string n, .string ke, .string vn, .string vk, .int .i64 vv, .string ty, .string tt, .string la, .slice a4 pa.length a8] 29)).alloc (by rw [size_alloc]; omega) (.cells #[.int .i64 k, .slice b1 spB.length b5, .slice b2 coB.length b6, .slice b3 itB.length b7, .int .i64 o, .bool d, .int .i64 sk, .int .i64 li, .string n, .string ke, .string vn, .string vk, .int .i64 vv, .string ty, .string tt, .string la, .slice b4 paB.length b8] 29))
  have S1 := Lib.hid (s1.below hB.out)
  have T1 := Lib.hid (t1.below hB.out)
  have Q1 := Lib.hid q1
  clear s1 t1 q1
  have S2 := Lib.hid (s2.below hB.out)
  have T2 := Lib.hid (t2.below hB.out)
  have Q2 := Lib.hid q2
  clear s2 t2 q2
  have S3 := Lib.hid (s3.below hB.out)
  have T3 := Lib.hid (t3.below hB.out)
  have Q3 := Lib.hid q3
  clear s3 t3 q3
  have S4 := Lib.hid (s4.below hB.out)
  have T4 := Lib.hid (t4.below hB.out)
  have Q4 := Lib.hid q4
  clear s4 t4 q4
  have LX := (Loc.new W #[.int .i64 k, .slice a1 sp.length a5, .slice a2 co.length a6, .slice a3 it.length a7, .int .i64 o, .bool d, .int .i64 sk, .int .i64 li, .string n, .string ke, .string vn, .string vk, .int .i64 vv, .string ty, .string tt, .string la, .slice a4 pa.length a8] 29).alloc (.cells #[.int .i64 k, .slice b1 spB.length b5, .slice b2 coB.length b6, .slice b3 itB.length b7, .int .i64 o, .bool d, .int .i64 sk, .int .i64 li, .string n, .string ke, .string vn, .string vk, .int .i64 vv, .string ty, .string tt, .string la, .slice b4 paB.length b8] 29)
  have LY := Loc.new (W.alloc (.cells #[.int .i64 k, .slice a1 sp.length a5, .slice a2 co.length a6, .slice a3 it.length a7, .int .i64 o, .bool d, .int .i64 sk, .int .i64 li, .string n, .string ke, .string vn, .string vk, .int .i64 vv, .string ty, .string tt, .string la, .slice a4 pa.length a8] 29)) #[.int .i64 k, .slice b1 spB.length b5, .slice b2 coB.length b6, .slice b3 itB.length b7, .int .i64 o, .bool d, .int .i64 sk, .int .i64 li, .string n, .string ke, .string vn, .string vk, .int .i64 vv, .string ty, .string tt, .string la, .slice b4 paB.length b8] 29
  rw [size_alloc] at LY
  have LX := Lib.hid LX
  have LY := Lib.hid LY
  go_enter Tryz.func55, Tryz.ntmps55
  go_upto_region 1 with fail
  obtain ⟨X, hX⟩ : ∃ X, X = W.heap.size := ⟨_, rfl⟩
  obtain ⟨Y, hY⟩ : ∃ Y, Y = W.heap.size + 1 := ⟨_, rfl⟩
  rw [← hX] at LX
  rw [← hY] at LY
  rw [← hY, ← hX]
  clear hX hY
  generalize (W.alloc (.cells #[.int .i64 k, .slice a1 sp.length a5, .slice a2 co.length a6, .slice a3 it.length a7, .int .i64 o, .bool d, .int .i64 sk, .int .i64 li, .string n, .string ke, .string vn, .string vk, .int .i64 vv, .string ty, .string tt, .string la, .slice a4 pa.length a8] 29)).alloc (.cells #[.int .i64 k, .slice b1 spB.length b5, .slice b2 coB.length b6, .slice b3 itB.length b7, .int .i64 o, .bool d, .int .i64 sk, .int .i64 li, .string n, .string ke, .string vn, .string vk, .int .i64 vv, .string ty, .string tt, .string la, .slice b4 paB.length b8] 29) = W2 at *
  have x0 : W2.cell? ⟨X, 0, none⟩ = some (.int .i64 k) := (LX.out.cell 0).trans rfl
  have y0 : W2.cell? ⟨Y, 0, none⟩ = some (.int .i64 k) := (LY.out.cell 0).trans rfl
  have x4 : W2.cell? ⟨X, 4, none⟩ = some (.int .i64 o) := (LX.out.cell 4).trans rfl
  have y4 : W2.cell? ⟨Y, 4, none⟩ = some (.int .i64 o) := (LY.out.cell 4).trans rfl
  have x5 : W2.cell? ⟨X, 5, none⟩ = some (.bool d) := (LX.out.cell 5).trans rfl
  have y5 : W2.cell? ⟨Y, 5, none⟩ = some (.bool d) := (LY.out.cell 5).trans rfl
  have x6 : W2.cell? ⟨X, 6, none⟩ = some (.int .i64 sk) := (LX.out.cell 6).trans rfl
  have y6 : W2.cell? ⟨Y, 6, none⟩ = some (.int .i64 sk) := (LY.out.cell 6).trans rfl
  have x7 : W2.cell? ⟨X, 7, none⟩ = some (.int .i64 li) := (LX.out.cell 7).trans rfl
  have y7 : W2.cell? ⟨Y, 7, none⟩ = some (.int .i64 li) := (LY.out.cell 7).trans rfl
  have x8 : W2.cell? ⟨X, 8, none⟩ = some (.string n) := (LX.out.cell 8).trans rfl
  have y8 : W2.cell? ⟨Y, 8, none⟩ = some (.string n) := (LY.out.cell 8).trans rfl
  have x9 : W2.cell? ⟨X, 9, none⟩ = some (.string ke) := (LX.out.cell 9).trans rfl
  have y9 : W2.cell? ⟨Y, 9, none⟩ = some (.string ke) := (LY.out.cell 9).trans rfl
  have x10 : W2.cell? ⟨X, 10, none⟩ = some (.string vn) := (LX.out.cell 10).trans rfl
  have y10 : W2.cell? ⟨Y, 10, none⟩ = some (.string vn) := (LY.out.cell 10).trans rfl
  have x11 : W2.cell? ⟨X, 11, none⟩ = some (.string vk) := (LX.out.cell 11).trans rfl
  have y11 : W2.cell? ⟨Y, 11, none⟩ = some (.string vk) := (LY.out.cell 11).trans rfl
  have x12 : W2.cell? ⟨X, 12, none⟩ = some (.int .i64 vv) := (LX.out.cell 12).trans rfl
  have y12 : W2.cell? ⟨Y, 12, none⟩ = some (.int .i64 vv) := (LY.out.cell 12).trans rfl
  have x13 : W2.cell? ⟨X, 13, none⟩ = some (.string ty) := (LX.out.cell 13).trans rfl
  have y13 : W2.cell? ⟨Y, 13, none⟩ = some (.string ty) := (LY.out.cell 13).trans rfl
  have x14 : W2.cell? ⟨X, 14, none⟩ = some (.string tt) := (LX.out.cell 14).trans rfl
  have y14 : W2.cell? ⟨Y, 14, none⟩ = some (.string tt) := (LY.out.cell 14).trans rfl
  have x15 : W2.cell? ⟨X, 15, none⟩ = some (.string la) := (LX.out.cell 15).trans rfl
  have y15 : W2.cell? ⟨Y, 15, none⟩ = some (.string la) := (LY.out.cell 15).trans rfl
  have x1 : W2.cell? ⟨X, 1, none⟩ = some (.slice a1 sp.length a5) := (LX.out.cell 1).trans rfl
  have y1 : W2.cell? ⟨Y, 1, none⟩ = some (.slice b1 spB.length b5) := (LY.out.cell 1).trans rfl
  have x2 : W2.cell? ⟨X, 2, none⟩ = some (.slice a2 co.length a6) := (LX.out.cell 2).trans rfl
  have y2 : W2.cell? ⟨Y, 2, none⟩ = some (.slice b2 coB.length b6) := (LY.out.cell 2).trans rfl
  have x3 : W2.cell? ⟨X, 3, none⟩ = some (.slice a3 it.length a7) := (LX.out.cell 3).trans rfl
  have y3 : W2.cell? ⟨Y, 3, none⟩ = some (.slice b3 itB.length b7) := (LY.out.cell 3).trans rfl
  have x16 : W2.cell? ⟨X, 16, none⟩ = some (.slice a4 pa.length a8) := (LX.out.cell 16).trans rfl
  have y16 : W2.cell? ⟨Y, 16, none⟩ = some (.slice b4 paB.length b8) := (LY.out.cell 16).trans rfl
  clear LX LY
  go_wp2_with fail
  refine (eqSpots S1.out T1.out m1).mono ?_
  rw [Q1.out]
  rintro e w1 ⟨rfl, d1, rfl⟩
  go_wp2_with fail
  refine (eqConds (S2.out.drew (d1)) (T2.out.drew (d1)) m2).mono ?_
  rw [Q2.out]
  rintro e w2 ⟨rfl, d2, rfl⟩
  go_wp2_with fail
  refine (eqItems (S3.out.drew (d1 + d2)) (T3.out.drew (d1 + d2)) m3).mono ?_
  rw [Q3.out]
  rintro e w3 ⟨rfl, d3, rfl⟩
  go_wp2_with fail
  refine (eqPairs (S4.out.drew (d1 + d2 + d3)) (T4.out.drew (d1 + d2 + d3)) m4).mono ?_
  rw [Q4.out]
  rintro e w4 ⟨rfl, d4, rfl⟩
  go_wp2_with fail
  go_ret
  exact ⟨rfl, (hB.out.trans (Joins.below_draws _ _ (d1 + d2 + d3 + d4)))⟩

end Go.Proofs.YtobgbmfpicmpcaaGreatDoor

/- The program's same, joined; hasTooMany. -/
namespace Go.Proofs.YtobgbmfpicmpcaaGreatDoor
open Go.RowKit

theorem same_ {W : World} {a b : PQuery} {vs vc vi vp us uc ui up : Value} (ha : QSees W a vs vc vi vp) (hb : QSees W b us uc ui up) (n1 : b.spots.length ≤ 3000) (n2 : b.conds.length ≤ 3000) (n3 : b.items.length ≤ 3000) (n4 : b.pairs.length ≤ 3000) :
    Calls Tryz.prog 55 #[.agg (qC a vs vc vi vp), .agg (qC b us uc ui up)] W fun e W' => e = .returned (.bool (eqQ a b)) ∧ Below W.heap.size W W' := by
  obtain ⟨a1, a5, rfl, _⟩ := sees_slice (l := a.spots) ha.rs
  obtain ⟨a2, a6, rfl, _⟩ := sees_slice (l := a.conds) ha.rc
  obtain ⟨a3, a7, rfl, _⟩ := sees_slice (l := a.items) ha.rt
  obtain ⟨a4, a8, rfl, _⟩ := sees_slice (l := a.pairs) ha.rp
  obtain ⟨b1, b5, rfl, _⟩ := sees_slice (l := b.spots) hb.rs
  obtain ⟨b2, b6, rfl, _⟩ := sees_slice (l := b.conds) hb.rc
  obtain ⟨b3, b7, rfl, _⟩ := sees_slice (l := b.items) hb.rt
  obtain ⟨b4, b8, rfl, _⟩ := sees_slice (l := b.pairs) hb.rp
  obtain ⟨k, sp, co, it, o, d, sk, li, n, ke, ⟨vn, vk, vv⟩, ty, tt, la, pa⟩ := a
  obtain ⟨k', spB, coB, itB, o', d', sk', li', n', ke', ⟨vn', vk', vv'⟩, ty', tt', la', paB⟩ := b
  by_cases e0 : k ≠ k'
  · rw [eqQ_no (fun h => e0 (congrArg (fun x : PQuery => x.kind) h))]
    exact sameNo0 (by simpa using e0)
  rw [ne_eq, Classical.not_not] at e0
  subst e0
  by_cases e1 : o ≠ o'
  · rw [eqQ_no (fun h => e1 (congrArg (fun x : PQuery => x.order) h))]
    exact sameNo1 (by simpa using e1)
  rw [ne_eq, Classical.not_not] at e1
  subst e1
  by_cases e2 : d ≠ d'
  · rw [eqQ_no (fun h => e2 (congrArg (fun x : PQuery => x.down) h))]
    exact sameNo2 (ne_bool e2)
  rw [ne_eq, Classical.not_not] at e2
  subst e2
  by_cases e3 : sk ≠ sk'
  · rw [eqQ_no (fun h => e3 (congrArg (fun x : PQuery => x.skip) h))]
    exact sameNo3 (by simpa using e3)
  rw [ne_eq, Classical.not_not] at e3
  subst e3
  by_cases e4 : li ≠ li'
  · rw [eqQ_no (fun h => e4 (congrArg (fun x : PQuery => x.limit) h))]
    exact sameNo4 (by simpa using e4)
  rw [ne_eq, Classical.not_not] at e4
  subst e4
  by_cases e5 : n ≠ n'
  · rw [eqQ_no (fun h => e5 (congrArg (fun x : PQuery => x.name) h))]
    exact sameNo5 (toList_ne e5)
  rw [ne_eq, Classical.not_not] at e5
  subst e5
  by_cases e6 : ke ≠ ke'
  · rw [eqQ_no (fun h => e6 (congrArg (fun x : PQuery => x.key) h))]
    exact sameNo6 (toList_ne e6)
  rw [ne_eq, Classical.not_not] at e6
  subst e6
  by_cases e7 : vn ≠ vn'
  · rw [eqQ_no (fun h => e7 (congrArg (fun x : PQuery => x.value.name) h))]
    exact sameNo7 (toList_ne e7)
  rw [ne_eq, Classical.not_not] at e7
  subst e7
  by_cases e8 : vk ≠ vk'
  · rw [eqQ_no (fun h => e8 (congrArg (fun x : PQuery => x.value.key) h))]
    exact sameNo8 (toList_ne e8)
  rw [ne_eq, Classical.not_not] at e8
  subst e8
  by_cases e9 : vv ≠ vv'
  · rw [eqQ_no (fun h => e9 (congrArg (fun x : PQuery => x.value.val) h))]
    exact sameNo9 (by simpa using e9)
  rw [ne_eq, Classical.not_not] at e9
  subst e9
  by_cases e10 : ty ≠ ty'
  · rw [eqQ_no (fun h => e10 (congrArg (fun x : PQuery => x.type) h))]
    exact sameNo10 (toList_ne e10)
  rw [ne_eq, Classical.not_not] at e10
  subst e10
  by_cases e11 : tt ≠ tt'
  · rw [eqQ_no (fun h => e11 (congrArg (fun x : PQuery => x.«to») h))]
    exact sameNo11 (toList_ne e11)
  rw [ne_eq, Classical.not_not] at e11
  subst e11
  by_cases e12 : la ≠ la'
  · rw [eqQ_no (fun h => e12 (congrArg (fun x : PQuery => x.label) h))]
    exact sameNo12 (toList_ne e12)
  rw [ne_eq, Classical.not_not] at e12
  subst e12
  cases q1 : eqL eqSpot sp spB with
  | false =>
    have hno : eqQ _ _ = false := eqQ_no (a := ⟨k, sp, co, it, o, d, sk, li, n, ke, ⟨vn, vk, vv⟩, ty, tt, la, pa⟩) (b := ⟨k, spB, coB, itB, o, d, sk, li, n, ke, ⟨vn, vk, vv⟩, ty, tt, la, paB⟩) (fun h => by have hl : sp = spB := congrArg (fun x : PQuery => x.spots) h; rw [show eqL eqSpot sp spB = true from (Pure.eqL_iff Pure.eqSpot_iff).2 hl] at q1; cases q1)
    rw [hno]
    exact sameLNo0  ha.rs hb.rs n1 q1
  | true =>
  cases q2 : eqL eqCond co coB with
  | false =>
    have hno : eqQ _ _ = false := eqQ_no (a := ⟨k, sp, co, it, o, d, sk, li, n, ke, ⟨vn, vk, vv⟩, ty, tt, la, pa⟩) (b := ⟨k, spB, coB, itB, o, d, sk, li, n, ke, ⟨vn, vk, vv⟩, ty, tt, la, paB⟩) (fun h => by have hl : co = coB := congrArg (fun x : PQuery => x.conds) h; rw [show eqL eqCond co coB = true from (Pure.eqL_iff Pure.eqCond_iff).2 hl] at q2; cases q2)
    rw [hno]
    exact sameLNo1 ha.rs hb.rs n1 q1  ha.rc hb.rc n2 q2
  | true =>
  cases q3 : eqL eqItem it itB with
  | false =>
    have hno : eqQ _ _ = false := eqQ_no (a := ⟨k, sp, co, it, o, d, sk, li, n, ke, ⟨vn, vk, vv⟩, ty, tt, la, pa⟩) (b := ⟨k, spB, coB, itB, o, d, sk, li, n, ke, ⟨vn, vk, vv⟩, ty, tt, la, paB⟩) (fun h => by have hl : it = itB := congrArg (fun x : PQuery => x.items) h; rw [show eqL eqItem it itB = true from (Pure.eqL_iff Pure.eqItem_iff).2 hl] at q3; cases q3)
    rw [hno]
    exact sameLNo2 ha.rs hb.rs n1 q1 ha.rc hb.rc n2 q2  ha.rt hb.rt n3 q3
  | true =>
  cases q4 : eqL eqPair pa paB with
  | false =>
    have hno : eqQ _ _ = false := eqQ_no (a := ⟨k, sp, co, it, o, d, sk, li, n, ke, ⟨vn, vk, vv⟩, ty, tt, la, pa⟩) (b := ⟨k, spB, coB, itB, o, d, sk, li, n, ke, ⟨vn, vk, vv⟩, ty, tt, la, paB⟩) (fun h => by have hl : pa = paB := congrArg (fun x : PQuery => x.pairs) h; rw [show eqL eqPair pa paB = true from (Pure.eqL_iff Pure.eqPair_iff).2 hl] at q4; cases q4)
    rw [hno]
    exact sameLNo3 ha.rs hb.rs n1 q1 ha.rc hb.rc n2 q2 ha.rt hb.rt n3 q3  ha.rp hb.rp n4 q4
  | true =>
  have hyes : eqQ _ _ = true := Pure.eqQ_iff (a := ⟨k, sp, co, it, o, d, sk, li, n, ke, ⟨vn, vk, vv⟩, ty, tt, la, pa⟩) (b := ⟨k, spB, coB, itB, o, d, sk, li, n, ke, ⟨vn, vk, vv⟩, ty, tt, la, paB⟩) |>.2 (by
    have h1 := (Pure.eqL_iff Pure.eqSpot_iff).1 q1
    have h2 := (Pure.eqL_iff Pure.eqCond_iff).1 q2
    have h3 := (Pure.eqL_iff Pure.eqItem_iff).1 q3
    have h4 := (Pure.eqL_iff Pure.eqPair_iff).1 q4
    subst h1; subst h2; subst h3; subst h4; rfl)
  rw [hyes]
  exact sameLYes ha.rs hb.rs n1 q1 ha.rc hb.rc n2 q2 ha.rt hb.rt n3 q3 ha.rp hb.rp n4 q4 

set_option maxRecDepth 100000 in
set_option maxHeartbeats 2000000 in
theorem many1 {W : World} {q : PQuery} {a1 a2 a3 a4 : Option Addr} {c1 c2 c3 c4 : Nat} (h1 : 6 < (q.spots.length : Int)) :
    Calls Tryz.prog 52 #[.agg (qC q (.slice a1 q.spots.length c1) (.slice a2 q.conds.length c2) (.slice a3 q.items.length c3) (.slice a4 q.pairs.length c4))] W fun e W' => e = .returned (.bool true) ∧ Below W.heap.size W W' := by
  have HL := Lib.hid (Loc.new W (qC q (.slice a1 q.spots.length c1) (.slice a2 q.conds.length c2) (.slice a3 q.items.length c3) (.slice a4 q.pairs.length c4)) 29)
  have HB := Lib.hid ((Below.refl W.heap.size W).alloc (Nat.le_refl _) (.cells (qC q (.slice a1 q.spots.length c1) (.slice a2 q.conds.length c2) (.slice a3 q.items.length c3) (.slice a4 q.pairs.length c4)) 29))
  go_enter Tryz.func52, Tryz.ntmps52
  go_upto_region 1 with fail
  obtain ⟨X, hX⟩ : ∃ X, X = W.heap.size := ⟨_, rfl⟩
  rw [← hX] at HL ⊢
  clear hX
  generalize W.alloc (.cells (qC q (.slice a1 q.spots.length c1) (.slice a2 q.conds.length c2) (.slice a3 q.items.length c3) (.slice a4 q.pairs.length c4)) 29) = W1 at HL HB ⊢
  have x1 : W1.cell? ⟨X, 1, none⟩ = some (.slice a1 q.spots.length c1) := (HL.out.cell 1).trans rfl
  have x2 : W1.cell? ⟨X, 2, none⟩ = some (.slice a2 q.conds.length c2) := (HL.out.cell 2).trans rfl
  have x3 : W1.cell? ⟨X, 3, none⟩ = some (.slice a3 q.items.length c3) := (HL.out.cell 3).trans rfl
  have x4 : W1.cell? ⟨X, 16, none⟩ = some (.slice a4 q.pairs.length c4) := (HL.out.cell 16).trans rfl
  go_wp2_with fail
  go_ret
  exact ⟨rfl, HB.out⟩
set_option maxRecDepth 100000 in
set_option maxHeartbeats 2000000 in
theorem many2 {W : World} {q : PQuery} {a1 a2 a3 a4 : Option Addr} {c1 c2 c3 c4 : Nat} (h1 : ¬ 6 < (q.spots.length : Int)) (h2 : 6 < (q.conds.length : Int)) :
    Calls Tryz.prog 52 #[.agg (qC q (.slice a1 q.spots.length c1) (.slice a2 q.conds.length c2) (.slice a3 q.items.length c3) (.slice a4 q.pairs.length c4))] W fun e W' => e = .returned (.bool true) ∧ Below W.heap.size W W' := by
  have HL := Lib.hid (Loc.new W (qC q (.slice a1 q.spots.length c1) (.slice a2 q.conds.length c2) (.slice a3 q.items.length c3) (.slice a4 q.pairs.length c4)) 29)
  have HB := Lib.hid ((Below.refl W.heap.size W).alloc (Nat.le_refl _) (.cells (qC q (.slice a1 q.spots.length c1) (.slice a2 q.conds.length c2) (.slice a3 q.items.length c3) (.slice a4 q.pairs.length c4)) 29))
  go_enter Tryz.func52, Tryz.ntmps52
  go_upto_region 1 with fail
  obtain ⟨X, hX⟩ : ∃ X, X = W.heap.size := ⟨_, rfl⟩
  rw [← hX] at HL ⊢
  clear hX
  generalize W.alloc (.cells (qC q (.slice a1 q.spots.length c1) (.slice a2 q.conds.length c2) (.slice a3 q.items.length c3) (.slice a4 q.pairs.length c4)) 29) = W1 at HL HB ⊢
  have x1 : W1.cell? ⟨X, 1, none⟩ = some (.slice a1 q.spots.length c1) := (HL.out.cell 1).trans rfl
  have x2 : W1.cell? ⟨X, 2, none⟩ = some (.slice a2 q.conds.length c2) := (HL.out.cell 2).trans rfl
  have x3 : W1.cell? ⟨X, 3, none⟩ = some (.slice a3 q.items.length c3) := (HL.out.cell 3).trans rfl
  have x4 : W1.cell? ⟨X, 16, none⟩ = some (.slice a4 q.pairs.length c4) := (HL.out.cell 16).trans rfl
  go_wp2_with fail
  go_ret
  exact ⟨rfl, HB.out⟩
set_option maxRecDepth 100000 in
set_option maxHeartbeats 2000000 in
theorem many3 {W : World} {q : PQuery} {a1 a2 a3 a4 : Option Addr} {c1 c2 c3 c4 : Nat} (h1 : ¬ 6 < (q.spots.length : Int)) (h2 : ¬ 6 < (q.conds.length : Int)) (h3 : 6 < (q.items.length : Int)) :
    Calls Tryz.prog 52 #[.agg (qC q (.slice a1 q.spots.length c1) (.slice a2 q.conds.length c2) (.slice a3 q.items.length c3) (.slice a4 q.pairs.length c4))] W fun e W' => e = .returned (.bool true) ∧ Below W.heap.size W W' := by
  have HL := Lib.hid (Loc.new W (qC q (.slice a1 q.spots.length c1) (.slice a2 q.conds.length c2) (.slice a3 q.items.length c3) (.slice a4 q.pairs.length c4)) 29)
  have HB := Lib.hid ((Below.refl W.heap.size W).alloc (Nat.le_refl _) (.cells (qC q (.slice a1 q.spots.length c1) (.slice a2 q.conds.length c2) (.slice a3 q.items.length c3) (.slice a4 q.pairs.length c4)) 29))
  go_enter Tryz.func52, Tryz.ntmps52
  go_upto_region 1 with fail
  obtain ⟨X, hX⟩ : ∃ X, X = W.heap.size := ⟨_, rfl⟩
  rw [← hX] at HL ⊢
  clear hX
  generalize W.alloc (.cells (qC q (.slice a1 q.spots.length c1) (.slice a2 q.conds.length c2) (.slice a3 q.items.length c3) (.slice a4 q.pairs.length c4)) 29) = W1 at HL HB ⊢
  have x1 : W1.cell? ⟨X, 1, none⟩ = some (.slice a1 q.spots.length c1) := (HL.out.cell 1).trans rfl
  have x2 : W1.cell? ⟨X, 2, none⟩ = some (.slice a2 q.conds.length c2) := (HL.out.cell 2).trans rfl
  have x3 : W1.cell? ⟨X, 3, none⟩ = some (.slice a3 q.items.length c3) := (HL.out.cell 3).trans rfl
  have x4 : W1.cell? ⟨X, 16, none⟩ = some (.slice a4 q.pairs.length c4) := (HL.out.cell 16).trans rfl
  go_wp2_with fail
  go_ret
  exact ⟨rfl, HB.out⟩
set_option maxRecDepth 100000 in
set_option maxHeartbeats 2000000 in
theorem many4 {W : World} {q : PQuery} {a1 a2 a3 a4 : Option Addr} {c1 c2 c3 c4 : Nat} (h1 : ¬ 6 < (q.spots.length : Int)) (h2 : ¬ 6 < (q.conds.length : Int)) (h3 : ¬ 6 < (q.items.length : Int)) (h4 : 6 < (q.pairs.length : Int)) :
    Calls Tryz.prog 52 #[.agg (qC q (.slice a1 q.spots.length c1) (.slice a2 q.conds.length c2) (.slice a3 q.items.length c3) (.slice a4 q.pairs.length c4))] W fun e W' => e = .returned (.bool true) ∧ Below W.heap.size W W' := by
  have HL := Lib.hid (Loc.new W (qC q (.slice a1 q.spots.length c1) (.slice a2 q.conds.length c2) (.slice a3 q.items.length c3) (.slice a4 q.pairs.length c4)) 29)
  have HB := Lib.hid ((Below.refl W.heap.size W).alloc (Nat.le_refl _) (.cells (qC q (.slice a1 q.spots.length c1) (.slice a2 q.conds.length c2) (.slice a3 q.items.length c3) (.slice a4 q.pairs.length c4)) 29))
  go_enter Tryz.func52, Tryz.ntmps52
  go_upto_region 1 with fail
  obtain ⟨X, hX⟩ : ∃ X, X = W.heap.size := ⟨_, rfl⟩
  rw [← hX] at HL ⊢
  clear hX
  generalize W.alloc (.cells (qC q (.slice a1 q.spots.length c1) (.slice a2 q.conds.length c2) (.slice a3 q.items.length c3) (.slice a4 q.pairs.length c4)) 29) = W1 at HL HB ⊢
  have x1 : W1.cell? ⟨X, 1, none⟩ = some (.slice a1 q.spots.length c1) := (HL.out.cell 1).trans rfl
  have x2 : W1.cell? ⟨X, 2, none⟩ = some (.slice a2 q.conds.length c2) := (HL.out.cell 2).trans rfl
  have x3 : W1.cell? ⟨X, 3, none⟩ = some (.slice a3 q.items.length c3) := (HL.out.cell 3).trans rfl
  have x4 : W1.cell? ⟨X, 16, none⟩ = some (.slice a4 q.pairs.length c4) := (HL.out.cell 16).trans rfl
  go_wp2_with fail
  go_ret
  exact ⟨rfl, HB.out⟩
set_option maxRecDepth 100000 in
set_option maxHeartbeats 2000000 in
theorem many0 {W : World} {q : PQuery} {a1 a2 a3 a4 : Option Addr} {c1 c2 c3 c4 : Nat} (h1 : ¬ 6 < (q.spots.length : Int)) (h2 : ¬ 6 < (q.conds.length : Int)) (h3 : ¬ 6 < (q.items.length : Int)) (h4 : ¬ 6 < (q.pairs.length : Int)) :
    Calls Tryz.prog 52 #[.agg (qC q (.slice a1 q.spots.length c1) (.slice a2 q.conds.length c2) (.slice a3 q.items.length c3) (.slice a4 q.pairs.length c4))] W fun e W' => e = .returned (.bool false) ∧ Below W.heap.size W W' := by
  have HL := Lib.hid (Loc.new W (qC q (.slice a1 q.spots.length c1) (.slice a2 q.conds.length c2) (.slice a3 q.items.length c3) (.slice a4 q.pairs.length c4)) 29)
  have HB := Lib.hid ((Below.refl W.heap.size W).alloc (Nat.le_refl _) (.cells (qC q (.slice a1 q.spots.length c1) (.slice a2 q.conds.length c2) (.slice a3 q.items.length c3) (.slice a4 q.pairs.length c4)) 29))
  go_enter Tryz.func52, Tryz.ntmps52
  go_upto_region 1 with fail
  obtain ⟨X, hX⟩ : ∃ X, X = W.heap.size := ⟨_, rfl⟩
  rw [← hX] at HL ⊢
  clear hX
  generalize W.alloc (.cells (qC q (.slice a1 q.spots.length c1) (.slice a2 q.conds.length c2) (.slice a3 q.items.length c3) (.slice a4 q.pairs.length c4)) 29) = W1 at HL HB ⊢
  have x1 : W1.cell? ⟨X, 1, none⟩ = some (.slice a1 q.spots.length c1) := (HL.out.cell 1).trans rfl
  have x2 : W1.cell? ⟨X, 2, none⟩ = some (.slice a2 q.conds.length c2) := (HL.out.cell 2).trans rfl
  have x3 : W1.cell? ⟨X, 3, none⟩ = some (.slice a3 q.items.length c3) := (HL.out.cell 3).trans rfl
  have x4 : W1.cell? ⟨X, 16, none⟩ = some (.slice a4 q.pairs.length c4) := (HL.out.cell 16).trans rfl
  go_wp2_with fail
  go_ret
  exact ⟨rfl, HB.out⟩
theorem many_ {W : World} {q : PQuery} {vs vc vi vp : Value} (h : QSees W q vs vc vi vp) :
    Calls Tryz.prog 52 #[.agg (qC q vs vc vi vp)] W fun e W' => e = .returned (.bool (tooMany q)) ∧ Below W.heap.size W W' := by
  obtain ⟨a1, c1, rfl, _⟩ := sees_slice (l := q.spots) h.rs
  obtain ⟨a2, c2, rfl, _⟩ := sees_slice (l := q.conds) h.rc
  obtain ⟨a3, c3, rfl, _⟩ := sees_slice (l := q.items) h.rt
  obtain ⟨a4, c4, rfl, _⟩ := sees_slice (l := q.pairs) h.rp
  by_cases h1 : 6 < q.spots.length
  · rw [show tooMany q = true by simp [tooMany, h1]]; exact many1 (by omega)
  by_cases h2 : 6 < q.conds.length
  · rw [show tooMany q = true by simp [tooMany, h2]]; exact many2 (by omega) (by omega)
  by_cases h3 : 6 < q.items.length
  · rw [show tooMany q = true by simp [tooMany, h3]]; exact many3 (by omega) (by omega) (by omega)
  by_cases h4 : 6 < q.pairs.length
  · rw [show tooMany q = true by simp [tooMany, h4]]; exact many4 (by omega) (by omega) (by omega) (by omega)
  rw [show tooMany q = false by simp [tooMany, h1, h2, h3, h4]]; exact many0 (by omega) (by omega) (by omega) (by omega)

end Go.Proofs.YtobgbmfpicmpcaaGreatDoor

/- The program's parser: conditions. -/
namespace Go.Proofs.YtobgbmfpicmpcaaGreatDoor
open Go.RowKit

set_option maxRecDepth 100000 in
set_option maxHeartbeats 2000000 in
theorem pCondIsTrue {b G : Nat} {st s1 : RS} {r : PCond} {W : World} (h : PI b G st W) (hn : condP st = (r, s1)) {a : PTerm} {a1 : RS} (ha : termP st = (a, a1)) (hi : peekP kIS a1 = true) (hm : peekP kNOT (acceptP kIS a1) = true) :
    Calls Tryz.prog 100 #[.pointer (some ⟨b, 0, none⟩)] W fun e W' => e = .returned (.agg #[.int .i64 r.op, .string r.a.name, .string r.a.key, .int .i64 r.a.val, .string r.b.name, .string r.b.key, .int .i64 r.b.val]) ∧ PI b G s1 W' ∧ W.grownBy W' (some b) := by
  have H0 := Lib.hid (PX.start h #[.int .i64 0, .string ⟨#[]⟩, .string ⟨#[]⟩, .int .i64 0, .string ⟨#[]⟩, .string ⟨#[]⟩, .int .i64 0] 87)
  have HA := Lib.hid ha
  have e : ((⟨8, a, term0⟩ : PCond), expectP kNULL (acceptP kNOT (acceptP kIS a1))) = (r, s1) := by rw [← hn]; unfold condP; simp only [ha, hi, hm]; rfl
  injection e with e1 e3
  subst e1; subst e3
  have HI := Lib.hid hi
  have HM := Lib.hid hm
  clear h hn hm ha hi
  go_enter Tryz.func100, Tryz.ntmps100
  go_wp2_with fail
  obtain ⟨X, hX⟩ : ∃ X, X = W.heap.size := ⟨_, rfl⟩
  rw [← hX] at H0 ⊢
  clear hX
  generalize W.alloc (.cells #[.int .i64 0, .string ⟨#[]⟩, .string ⟨#[]⟩, .int .i64 0, .string ⟨#[]⟩, .string ⟨#[]⟩, .int .i64 0] 87) = W0' at H0 ⊢
  refine (term_ H0.out.p HA.out).mono ?_
  rintro e W1 ⟨rfl, h, g⟩
  have H1 := Lib.hid (H0.out.call h g)
  clear h g H0
  have H2 := Lib.hid (H1.out.more #[.int .i64 0, .string a.name, .string a.key, .int .i64 a.val, .string ⟨#[]⟩, .string ⟨#[]⟩, .int .i64 0] 87)
  clear H1
  go_wp2_with fail
  obtain ⟨Y, hY⟩ : ∃ Y, Y = W1.heap.size := ⟨_, rfl⟩; rw [← hY] at H2 ⊢; clear hY; generalize W1.alloc (.cells #[.int .i64 0, .string a.name, .string a.key, .int .i64 a.val, .string ⟨#[]⟩, .string ⟨#[]⟩, .int .i64 0] 87) = W2 at H2 ⊢
  refine (accept_ H2.out.q.p kIS true HI.out).mono ?_
  rintro e W3 ⟨rfl, h, g⟩
  have H3 := Lib.hid (H2.out.call h g)
  clear h g H2
  have c0 : W3.cell? ⟨Y, 0, none⟩ = some (.int .i64 0) := (H3.out.ly.cell 0).trans rfl
  have f0 : W3.frozen? ⟨Y, 0, none⟩ = false := H3.out.ly.free 0
  have H4 := Lib.hid (H3.out.setY 0 (.int .i64 7))
  clear H3
  go_wp2_with fail
  generalize (W3.setCell ⟨Y, 0, none⟩ (.int .i64 7)) = W4 at H4 ⊢; clear c0 f0
  refine (accept_ H4.out.q.p kNOT true HM.out).mono ?_
  rintro e W5 ⟨rfl, h, g⟩
  have H5 := Lib.hid (H4.out.call h g)
  clear h g H4
  have c0 : W5.cell? ⟨Y, 0, none⟩ = some (.int .i64 7) := (H5.out.ly.cell 0).trans rfl
  have f0 : W5.frozen? ⟨Y, 0, none⟩ = false := H5.out.ly.free 0
  have H6 := Lib.hid (H5.out.setY 0 (.int .i64 8))
  clear H5
  go_wp2_with fail
  generalize (W5.setCell ⟨Y, 0, none⟩ (.int .i64 8)) = W6 at H6 ⊢; clear c0 f0
  refine (expect_ H6.out.q.p kNULL).mono ?_
  rintro e W7 ⟨rfl, h, g⟩
  have H7 := Lib.hid (H6.out.call h g)
  clear h g H6
  have x0 : W7.cell? ⟨X, 0, none⟩ = some (.int .i64 0) := (H7.out.q.lx.cell 0).trans rfl
  have g0 : W7.frozen? ⟨X, 0, none⟩ = false := H7.out.q.lx.free 0
  have x1 : W7.cell? ⟨X, 1, none⟩ = some (.string ⟨#[]⟩) := (H7.out.q.lx.cell 1).trans rfl
  have g1 : W7.frozen? ⟨X, 1, none⟩ = false := H7.out.q.lx.free 1
  have x2 : W7.cell? ⟨X, 2, none⟩ = some (.string ⟨#[]⟩) := (H7.out.q.lx.cell 2).trans rfl
  have g2 : W7.frozen? ⟨X, 2, none⟩ = false := H7.out.q.lx.free 2
  have x3 : W7.cell? ⟨X, 3, none⟩ = some (.int .i64 0) := (H7.out.q.lx.cell 3).trans rfl
  have g3 : W7.frozen? ⟨X, 3, none⟩ = false := H7.out.q.lx.free 3
  have x4 : W7.cell? ⟨X, 4, none⟩ = some (.string ⟨#[]⟩) := (H7.out.q.lx.cell 4).trans rfl
  have g4 : W7.frozen? ⟨X, 4, none⟩ = false := H7.out.q.lx.free 4
  have x5 : W7.cell? ⟨X, 5, none⟩ = some (.string ⟨#[]⟩) := (H7.out.q.lx.cell 5).trans rfl
  have g5 : W7.frozen? ⟨X, 5, none⟩ = false := H7.out.q.lx.free 5
  have x6 : W7.cell? ⟨X, 6, none⟩ = some (.int .i64 0) := (H7.out.q.lx.cell 6).trans rfl
  have g6 : W7.frozen? ⟨X, 6, none⟩ = false := H7.out.q.lx.free 6
  have y0 : W7.cell? ⟨Y, 0, none⟩ = some (.int .i64 8) := (H7.out.ly.cell 0).trans rfl
  have y1 : W7.cell? ⟨Y, 1, none⟩ = some (.string a.name) := (H7.out.ly.cell 1).trans rfl
  have y2 : W7.cell? ⟨Y, 2, none⟩ = some (.string a.key) := (H7.out.ly.cell 2).trans rfl
  have y3 : W7.cell? ⟨Y, 3, none⟩ = some (.int .i64 a.val) := (H7.out.ly.cell 3).trans rfl
  have y4 : W7.cell? ⟨Y, 4, none⟩ = some (.string ⟨#[]⟩) := (H7.out.ly.cell 4).trans rfl
  have y5 : W7.cell? ⟨Y, 5, none⟩ = some (.string ⟨#[]⟩) := (H7.out.ly.cell 5).trans rfl
  have y6 : W7.cell? ⟨Y, 6, none⟩ = some (.int .i64 0) := (H7.out.ly.cell 6).trans rfl
  go_wp2_with fail
  have hF := (((((((H7.out.setX 0 (.int .i64 8)).setX 1 (.string a.name)).setX 2 (.string a.key)).setX 3 (.int .i64 a.val)).setX 4 (.string ⟨#[]⟩)).setX 5 (.string ⟨#[]⟩)).setX 6 (.int .i64 0)).q
  generalize (((((((W7.setCell ⟨X, 0, none⟩ (.int .i64 8)).setCell ⟨X, 1, none⟩ (.string a.name)).setCell ⟨X, 2, none⟩ (.string a.key)).setCell ⟨X, 3, none⟩ (.int .i64 a.val)).setCell ⟨X, 4, none⟩ (.string ⟨#[]⟩)).setCell ⟨X, 5, none⟩ (.string ⟨#[]⟩)).setCell ⟨X, 6, none⟩ (.int .i64 0)) = WF at hF ⊢
  refine bodyPost_ret (v := .agg #[.int .i64 8, .string a.name, .string a.key, .int .i64 a.val, .string ⟨#[]⟩, .string ⟨#[]⟩, .int .i64 0]) ?_ rfl ⟨rfl, hF.p, hF.grown⟩
  have r0 := hF.lx.cell 0
  have r1 := hF.lx.cell 1
  have r2 := hF.lx.cell 2
  have r3 := hF.lx.cell 3
  have r4 := hF.lx.cell 4
  have r5 := hF.lx.cell 5
  have r6 := hF.lx.cell 6
  simp at r0 r1 r2 r3 r4 r5 r6
  simp [results, Tryz.results100, go_sem, r0, r1, r2, r3, r4, r5, r6]

set_option maxRecDepth 100000 in
set_option maxHeartbeats 2000000 in
theorem pCondIsFalse {b G : Nat} {st s1 : RS} {r : PCond} {W : World} (h : PI b G st W) (hn : condP st = (r, s1)) {a : PTerm} {a1 : RS} (ha : termP st = (a, a1)) (hi : peekP kIS a1 = true) (hm : peekP kNOT (acceptP kIS a1) = false) :
    Calls Tryz.prog 100 #[.pointer (some ⟨b, 0, none⟩)] W fun e W' => e = .returned (.agg #[.int .i64 r.op, .string r.a.name, .string r.a.key, .int .i64 r.a.val, .string r.b.name, .string r.b.key, .int .i64 r.b.val]) ∧ PI b G s1 W' ∧ W.grownBy W' (some b) := by
  have H0 := Lib.hid (PX.start h #[.int .i64 0, .string ⟨#[]⟩, .string ⟨#[]⟩, .int .i64 0, .string ⟨#[]⟩, .string ⟨#[]⟩, .int .i64 0] 87)
  have HA := Lib.hid ha
  have e : ((⟨7, a, term0⟩ : PCond), expectP kNULL (acceptP kNOT (acceptP kIS a1))) = (r, s1) := by rw [← hn]; unfold condP; simp only [ha, hi, hm]; rfl
  injection e with e1 e3
  subst e1; subst e3
  have HI := Lib.hid hi
  have HM := Lib.hid hm
  clear h hn hm ha hi
  go_enter Tryz.func100, Tryz.ntmps100
  go_wp2_with fail
  obtain ⟨X, hX⟩ : ∃ X, X = W.heap.size := ⟨_, rfl⟩
  rw [← hX] at H0 ⊢
  clear hX
  generalize W.alloc (.cells #[.int .i64 0, .string ⟨#[]⟩, .string ⟨#[]⟩, .int .i64 0, .string ⟨#[]⟩, .string ⟨#[]⟩, .int .i64 0] 87) = W0' at H0 ⊢
  refine (term_ H0.out.p HA.out).mono ?_
  rintro e W1 ⟨rfl, h, g⟩
  have H1 := Lib.hid (H0.out.call h g)
  clear h g H0
  have H2 := Lib.hid (H1.out.more #[.int .i64 0, .string a.name, .string a.key, .int .i64 a.val, .string ⟨#[]⟩, .string ⟨#[]⟩, .int .i64 0] 87)
  clear H1
  go_wp2_with fail
  obtain ⟨Y, hY⟩ : ∃ Y, Y = W1.heap.size := ⟨_, rfl⟩; rw [← hY] at H2 ⊢; clear hY; generalize W1.alloc (.cells #[.int .i64 0, .string a.name, .string a.key, .int .i64 a.val, .string ⟨#[]⟩, .string ⟨#[]⟩, .int .i64 0] 87) = W2 at H2 ⊢
  refine (accept_ H2.out.q.p kIS true HI.out).mono ?_
  rintro e W3 ⟨rfl, h, g⟩
  have H3 := Lib.hid (H2.out.call h g)
  clear h g H2
  have c0 : W3.cell? ⟨Y, 0, none⟩ = some (.int .i64 0) := (H3.out.ly.cell 0).trans rfl
  have f0 : W3.frozen? ⟨Y, 0, none⟩ = false := H3.out.ly.free 0
  have H4 := Lib.hid (H3.out.setY 0 (.int .i64 7))
  clear H3
  go_wp2_with fail
  generalize (W3.setCell ⟨Y, 0, none⟩ (.int .i64 7)) = W4 at H4 ⊢; clear c0 f0
  refine (accept_ H4.out.q.p kNOT false HM.out).mono ?_
  rintro e W5 ⟨rfl, h, g⟩
  have H5 := Lib.hid (H4.out.call h g)
  clear h g H4
  go_wp2_with fail
  refine (expect_ H5.out.q.p kNULL).mono ?_
  rintro e W6 ⟨rfl, h, g⟩
  have H6 := Lib.hid (H5.out.call h g)
  clear h g H5
  have x0 : W6.cell? ⟨X, 0, none⟩ = some (.int .i64 0) := (H6.out.q.lx.cell 0).trans rfl
  have g0 : W6.frozen? ⟨X, 0, none⟩ = false := H6.out.q.lx.free 0
  have x1 : W6.cell? ⟨X, 1, none⟩ = some (.string ⟨#[]⟩) := (H6.out.q.lx.cell 1).trans rfl
  have g1 : W6.frozen? ⟨X, 1, none⟩ = false := H6.out.q.lx.free 1
  have x2 : W6.cell? ⟨X, 2, none⟩ = some (.string ⟨#[]⟩) := (H6.out.q.lx.cell 2).trans rfl
  have g2 : W6.frozen? ⟨X, 2, none⟩ = false := H6.out.q.lx.free 2
  have x3 : W6.cell? ⟨X, 3, none⟩ = some (.int .i64 0) := (H6.out.q.lx.cell 3).trans rfl
  have g3 : W6.frozen? ⟨X, 3, none⟩ = false := H6.out.q.lx.free 3
  have x4 : W6.cell? ⟨X, 4, none⟩ = some (.string ⟨#[]⟩) := (H6.out.q.lx.cell 4).trans rfl
  have g4 : W6.frozen? ⟨X, 4, none⟩ = false := H6.out.q.lx.free 4
  have x5 : W6.cell? ⟨X, 5, none⟩ = some (.string ⟨#[]⟩) := (H6.out.q.lx.cell 5).trans rfl
  have g5 : W6.frozen? ⟨X, 5, none⟩ = false := H6.out.q.lx.free 5
  have x6 : W6.cell? ⟨X, 6, none⟩ = some (.int .i64 0) := (H6.out.q.lx.cell 6).trans rfl
  have g6 : W6.frozen? ⟨X, 6, none⟩ = false := H6.out.q.lx.free 6
  have y0 : W6.cell? ⟨Y, 0, none⟩ = some (.int .i64 7) := (H6.out.ly.cell 0).trans rfl
  have y1 : W6.cell? ⟨Y, 1, none⟩ = some (.string a.name) := (H6.out.ly.cell 1).trans rfl
  have y2 : W6.cell? ⟨Y, 2, none⟩ = some (.string a.key) := (H6.out.ly.cell 2).trans rfl
  have y3 : W6.cell? ⟨Y, 3, none⟩ = some (.int .i64 a.val) := (H6.out.ly.cell 3).trans rfl
  have y4 : W6.cell? ⟨Y, 4, none⟩ = some (.string ⟨#[]⟩) := (H6.out.ly.cell 4).trans rfl
  have y5 : W6.cell? ⟨Y, 5, none⟩ = some (.string ⟨#[]⟩) := (H6.out.ly.cell 5).trans rfl
  have y6 : W6.cell? ⟨Y, 6, none⟩ = some (.int .i64 0) := (H6.out.ly.cell 6).trans rfl
  go_wp2_with fail
  have hF := (((((((H6.out.setX 0 (.int .i64 7)).setX 1 (.string a.name)).setX 2 (.string a.key)).setX 3 (.int .i64 a.val)).setX 4 (.string ⟨#[]⟩)).setX 5 (.string ⟨#[]⟩)).setX 6 (.int .i64 0)).q
  generalize (((((((W6.setCell ⟨X, 0, none⟩ (.int .i64 7)).setCell ⟨X, 1, none⟩ (.string a.name)).setCell ⟨X, 2, none⟩ (.string a.key)).setCell ⟨X, 3, none⟩ (.int .i64 a.val)).setCell ⟨X, 4, none⟩ (.string ⟨#[]⟩)).setCell ⟨X, 5, none⟩ (.string ⟨#[]⟩)).setCell ⟨X, 6, none⟩ (.int .i64 0)) = WF at hF ⊢
  refine bodyPost_ret (v := .agg #[.int .i64 7, .string a.name, .string a.key, .int .i64 a.val, .string ⟨#[]⟩, .string ⟨#[]⟩, .int .i64 0]) ?_ rfl ⟨rfl, hF.p, hF.grown⟩
  have r0 := hF.lx.cell 0
  have r1 := hF.lx.cell 1
  have r2 := hF.lx.cell 2
  have r3 := hF.lx.cell 3
  have r4 := hF.lx.cell 4
  have r5 := hF.lx.cell 5
  have r6 := hF.lx.cell 6
  simp at r0 r1 r2 r3 r4 r5 r6
  simp [results, Tryz.results100, go_sem, r0, r1, r2, r3, r4, r5, r6]

set_option maxRecDepth 100000 in
set_option maxHeartbeats 2000000 in
theorem pCondNo {b G : Nat} {st s1 : RS} {r : PCond} {W : World} (h : PI b G st W) (hn : condP st = (r, s1)) {a : PTerm} {a1 : RS} (ha : termP st = (a, a1)) (hi : peekP kIS a1 = false) :
    Calls Tryz.prog 100 #[.pointer (some ⟨b, 0, none⟩)] W fun e W' => e = .returned (.agg #[.int .i64 r.op, .string r.a.name, .string r.a.key, .int .i64 r.a.val, .string r.b.name, .string r.b.key, .int .i64 r.b.val]) ∧ PI b G s1 W' ∧ W.grownBy W' (some b) := by
  have H0 := Lib.hid (PX.start h #[.int .i64 0, .string ⟨#[]⟩, .string ⟨#[]⟩, .int .i64 0, .string ⟨#[]⟩, .string ⟨#[]⟩, .int .i64 0] 87)
  have HA := Lib.hid ha
  obtain ⟨o', a2, hk⟩ : ∃ k' az, opLoopP opsR 1 a1 = (k', az) := ⟨_, _, rfl⟩
  obtain ⟨t', a3, ht⟩ : ∃ k' az, termP a2 = (k', az) := ⟨_, _, rfl⟩
  have e : ((⟨o', a, t'⟩ : PCond), a3) = (r, s1) := by rw [← hn]; unfold condP; simp only [ha, hi, hk, ht]; rfl
  injection e with e1 e3
  subst e1; subst e3
  have HI := Lib.hid hi
  have HK := Lib.hid hk
  have HT := Lib.hid ht
  clear h hn ha hi hk ht
  go_enter Tryz.func100, Tryz.ntmps100
  go_wp2_with fail
  obtain ⟨X, hX⟩ : ∃ X, X = W.heap.size := ⟨_, rfl⟩
  rw [← hX] at H0 ⊢
  clear hX
  generalize W.alloc (.cells #[.int .i64 0, .string ⟨#[]⟩, .string ⟨#[]⟩, .int .i64 0, .string ⟨#[]⟩, .string ⟨#[]⟩, .int .i64 0] 87) = W0' at H0 ⊢
  refine (term_ H0.out.p HA.out).mono ?_
  rintro e W1 ⟨rfl, h, g⟩
  have H1 := Lib.hid (H0.out.call h g)
  clear h g H0
  have H2 := Lib.hid (H1.out.more #[.int .i64 0, .string a.name, .string a.key, .int .i64 a.val, .string ⟨#[]⟩, .string ⟨#[]⟩, .int .i64 0] 87)
  clear H1
  go_wp2_with fail
  obtain ⟨Y, hY⟩ : ∃ Y, Y = W1.heap.size := ⟨_, rfl⟩; rw [← hY] at H2 ⊢; clear hY; generalize W1.alloc (.cells #[.int .i64 0, .string a.name, .string a.key, .int .i64 a.val, .string ⟨#[]⟩, .string ⟨#[]⟩, .int .i64 0] 87) = W2 at H2 ⊢
  refine (accept_ H2.out.q.p kIS false HI.out).mono ?_
  rintro e W3 ⟨rfl, h, g⟩
  have H3 := Lib.hid (H2.out.call h g)
  clear h g H2
  rw [show acceptP kIS a1 = a1 by unfold acceptP; rw [HI.out]; rfl] at H3
  go_wp2_with fail
  refine (comparison_ H3.out.q.p HK.out).mono ?_
  rintro e W4 ⟨rfl, h, g⟩
  have H4 := Lib.hid (H3.out.call h g)
  clear h g H3
  have c0 : W4.cell? ⟨Y, 0, none⟩ = some (.int .i64 0) := (H4.out.ly.cell 0).trans rfl
  have f0 : W4.frozen? ⟨Y, 0, none⟩ = false := H4.out.ly.free 0
  have H5 := Lib.hid (H4.out.setY 0 (.int .i64 o'))
  clear H4
  go_wp2_with fail
  generalize (W4.setCell ⟨Y, 0, none⟩ (.int .i64 o')) = W5 at H5 ⊢; clear c0 f0
  refine (term_ H5.out.q.p HT.out).mono ?_
  rintro e W6 ⟨rfl, h, g⟩
  have H6 := Lib.hid (H5.out.call h g)
  clear h g H5
  have c4 : W6.cell? ⟨Y, 4, none⟩ = some (.string ⟨#[]⟩) := (H6.out.ly.cell 4).trans rfl
  have f4 : W6.frozen? ⟨Y, 4, none⟩ = false := H6.out.ly.free 4
  have c5 : W6.cell? ⟨Y, 5, none⟩ = some (.string ⟨#[]⟩) := (H6.out.ly.cell 5).trans rfl
  have f5 : W6.frozen? ⟨Y, 5, none⟩ = false := H6.out.ly.free 5
  have c6 : W6.cell? ⟨Y, 6, none⟩ = some (.int .i64 0) := (H6.out.ly.cell 6).trans rfl
  have f6 : W6.frozen? ⟨Y, 6, none⟩ = false := H6.out.ly.free 6
  have H7 := Lib.hid (((H6.out.setY 4 (.string t'.name)).setY 5 (.string t'.key)).setY 6 (.int .i64 t'.val))
  clear H6
  go_upto_region 10 with fail
  generalize (((W6.setCell ⟨Y, 4, none⟩ (.string t'.name)).setCell ⟨Y, 5, none⟩ (.string t'.key)).setCell ⟨Y, 6, none⟩ (.int .i64 t'.val)) = W7 at H7 ⊢; clear c4 f4 c5 f5 c6 f6
  have x0 : W7.cell? ⟨X, 0, none⟩ = some (.int .i64 0) := (H7.out.q.lx.cell 0).trans rfl
  have g0 : W7.frozen? ⟨X, 0, none⟩ = false := H7.out.q.lx.free 0
  have x1 : W7.cell? ⟨X, 1, none⟩ = some (.string ⟨#[]⟩) := (H7.out.q.lx.cell 1).trans rfl
  have g1 : W7.frozen? ⟨X, 1, none⟩ = false := H7.out.q.lx.free 1
  have x2 : W7.cell? ⟨X, 2, none⟩ = some (.string ⟨#[]⟩) := (H7.out.q.lx.cell 2).trans rfl
  have g2 : W7.frozen? ⟨X, 2, none⟩ = false := H7.out.q.lx.free 2
  have x3 : W7.cell? ⟨X, 3, none⟩ = some (.int .i64 0) := (H7.out.q.lx.cell 3).trans rfl
  have g3 : W7.frozen? ⟨X, 3, none⟩ = false := H7.out.q.lx.free 3
  have x4 : W7.cell? ⟨X, 4, none⟩ = some (.string ⟨#[]⟩) := (H7.out.q.lx.cell 4).trans rfl
  have g4 : W7.frozen? ⟨X, 4, none⟩ = false := H7.out.q.lx.free 4
  have x5 : W7.cell? ⟨X, 5, none⟩ = some (.string ⟨#[]⟩) := (H7.out.q.lx.cell 5).trans rfl
  have g5 : W7.frozen? ⟨X, 5, none⟩ = false := H7.out.q.lx.free 5
  have x6 : W7.cell? ⟨X, 6, none⟩ = some (.int .i64 0) := (H7.out.q.lx.cell 6).trans rfl
  have g6 : W7.frozen? ⟨X, 6, none⟩ = false := H7.out.q.lx.free 6
  have y0 : W7.cell? ⟨Y, 0, none⟩ = some (.int .i64 o') := (H7.out.ly.cell 0).trans rfl
  have y1 : W7.cell? ⟨Y, 1, none⟩ = some (.string a.name) := (H7.out.ly.cell 1).trans rfl
  have y2 : W7.cell? ⟨Y, 2, none⟩ = some (.string a.key) := (H7.out.ly.cell 2).trans rfl
  have y3 : W7.cell? ⟨Y, 3, none⟩ = some (.int .i64 a.val) := (H7.out.ly.cell 3).trans rfl
  have y4 : W7.cell? ⟨Y, 4, none⟩ = some (.string t'.name) := (H7.out.ly.cell 4).trans rfl
  have y5 : W7.cell? ⟨Y, 5, none⟩ = some (.string t'.key) := (H7.out.ly.cell 5).trans rfl
  have y6 : W7.cell? ⟨Y, 6, none⟩ = some (.int .i64 t'.val) := (H7.out.ly.cell 6).trans rfl
  go_wp2_with fail
  have hF := (((((((H7.out.setX 0 (.int .i64 o')).setX 1 (.string a.name)).setX 2 (.string a.key)).setX 3 (.int .i64 a.val)).setX 4 (.string t'.name)).setX 5 (.string t'.key)).setX 6 (.int .i64 t'.val)).q
  generalize (((((((W7.setCell ⟨X, 0, none⟩ (.int .i64 o')).setCell ⟨X, 1, none⟩ (.string a.name)).setCell ⟨X, 2, none⟩ (.string a.key)).setCell ⟨X, 3, none⟩ (.int .i64 a.val)).setCell ⟨X, 4, none⟩ (.string t'.name)).setCell ⟨X, 5, none⟩ (.string t'.key)).setCell ⟨X, 6, none⟩ (.int .i64 t'.val)) = WF at hF ⊢
  refine bodyPost_ret (v := .agg #[.int .i64 o', .string a.name, .string a.key, .int .i64 a.val, .string t'.name, .string t'.key, .int .i64 t'.val]) ?_ rfl ⟨rfl, hF.p, hF.grown⟩
  have r0 := hF.lx.cell 0
  have r1 := hF.lx.cell 1
  have r2 := hF.lx.cell 2
  have r3 := hF.lx.cell 3
  have r4 := hF.lx.cell 4
  have r5 := hF.lx.cell 5
  have r6 := hF.lx.cell 6
  simp at r0 r1 r2 r3 r4 r5 r6
  simp [results, Tryz.results100, go_sem, r0, r1, r2, r3, r4, r5, r6]

theorem cond_ {b G : Nat} {st s1 : RS} {r : PCond} {W : World} (h : PI b G st W) (hn : condP st = (r, s1)) :
    Calls Tryz.prog 100 #[.pointer (some ⟨b, 0, none⟩)] W fun e W' => e = .returned (.agg #[.int .i64 r.op, .string r.a.name, .string r.a.key, .int .i64 r.a.val, .string r.b.name, .string r.b.key, .int .i64 r.b.val]) ∧ PI b G s1 W' ∧ W.grownBy W' (some b) := by
  obtain ⟨a, a1, ha⟩ : ∃ k' az, termP st = (k', az) := ⟨_, _, rfl⟩
  cases hi : peekP kIS a1 with
  | false => exact pCondNo h hn ha hi
  | true =>
    cases hm : peekP kNOT (acceptP kIS a1) with
    | true => exact pCondIsTrue h hn ha hi hm
    | false => exact pCondIsFalse h hn ha hi hm

end Go.Proofs.YtobgbmfpicmpcaaGreatDoor

