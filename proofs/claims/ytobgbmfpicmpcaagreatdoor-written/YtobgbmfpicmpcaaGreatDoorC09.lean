/- The program's same: a number parts. -/
import Derived.Test.YtobgbmfpicmpcaaGreatDoorC08
namespace Go.Proofs.YtobgbmfpicmpcaaGreatDoor
open Go.RowKit

set_option maxRecDepth 100000 in
set_option maxHeartbeats 4000000 in
theorem sameNo0 {W : World} {k k' o o' sk sk' li li' vv vv' : Int} {n n' ke ke' vn vn' vk vk' ty ty' tt tt' la la' : ByteArray} {d d' : Bool} {sp spB : List PSpot} {co coB : List PCond} {it itB : List PItem} {pa paB : List PPair} {a1 a2 a3 a4 b1 b2 b3 b4 : Option Addr} {a5 a6 a7 a8 b5 b6 b7 b8 : Nat}
    (e : (k == k') = false) :
    Calls Tryz.prog 55 #[.agg #[.int .i64 k, .slice a1 sp.length a5, .slice a2 co.length a6, .slice a3 it.length a7, .int .i64 o, .bool d, .int .i64 sk, .int .i64 li, .string n, .string ke, .string vn, .string vk, .int .i64 vv, .string ty, .string tt, .string la, .slice a4 pa.length a8], .agg #[.int .i64 k', .slice b1 spB.length b5, .slice b2 coB.length b6, .slice b3 itB.length b7, .int .i64 o', .bool d', .int .i64 sk', .int .i64 li', .string n', .string ke', .string vn', .string vk', .int .i64 vv', .string ty', .string tt', .string la', .slice b4 paB.length b8]] W fun e W' => e = .returned (.bool false) ∧ Below W.heap.size W W' := by
  have hB := Lib.hid (((Below.refl W.heap.size W).alloc (Nat.le_refl _) (.cells #[.int .i64 k, .slice a1 sp.length a5, .slice a2 co.length a6, .slice a3 it.length a7, .int .i64 o, .bool d, .int .i64 sk, .int .i64 li, .string n, .string ke, .string vn, .string vk, .int .i64 vv, .string ty, .string tt, .string la, .slice a4 pa.length a8] 29)).alloc (by rw [size_alloc]; omega) (.cells #[.int .i64 k', .slice b1 spB.length b5, .slice b2 coB.length b6, .slice b3 itB.length b7, .int .i64 o', .bool d', .int .i64 sk', .int .i64 li', .string n', .string ke', .string vn', .string vk', .int .i64 vv', .string ty', .string tt', .string la', .slice b4 paB.length b8] 29))
  have LX := (Loc.new W #[.int .i64 k, .slice a1 sp.length a5, .slice a2 co.length a6, .slice a3 it.length a7, .int .i64 o, .bool d, .int .i64 sk, .int .i64 li, .string n, .string ke, .string vn, .string vk, .int .i64 vv, .string ty, .string tt, .string la, .slice a4 pa.length a8] 29).alloc (.cells #[.int .i64 k', .slice b1 spB.length b5, .slice b2 coB.length b6, .slice b3 itB.length b7, .int .i64 o', .bool d', .int .i64 sk', .int .i64 li', .string n', .string ke', .string vn', .string vk', .int .i64 vv', .string ty', .string tt', .string la', .slice b4 paB.length b8] 29)
  have LY := Loc.new (W.alloc (.cells #[.int .i64 k, .slice a1 sp.length a5, .slice a2 co.length a6, .slice a3 it.length a7, .int .i64 o, .bool d, .int .i64 sk, .int .i64 li, .string n, .string ke, .string vn, .string vk, .int .i64 vv, .string ty, .string tt, .string la, .slice a4 pa.length a8] 29)) #[.int .i64 k', .slice b1 spB.length b5, .slice b2 coB.length b6, .slice b3 itB.length b7, .int .i64 o', .bool d', .int .i64 sk', .int .i64 li', .string n', .string ke', .string vn', .string vk', .int .i64 vv', .string ty', .string tt', .string la', .slice b4 paB.length b8] 29
  rw [size_alloc] at LY
  have LX := Lib.hid LX
  have LY := Lib.hid LY
  go_enter Tryz.func55, Tryz.ntmps55
  go_upto_region 1 with fail
  obtain ⟨X, hX⟩ : ∃ X, X = W.heap.size := ⟨_, rfl⟩
  obtain ⟨Y, hY⟩ : ∃ Y, Y = W.heap.size + 1 := ⟨_, rfl⟩
  rw [← hX] at LX
  rw [← hY] at LY
  rw [← hY, ← hX]
  clear hX hY
  generalize (W.alloc (.cells #[.int .i64 k, .slice a1 sp.length a5, .slice a2 co.length a6, .slice a3 it.length a7, .int .i64 o, .bool d, .int .i64 sk, .int .i64 li, .string n, .string ke, .string vn, .string vk, .int .i64 vv, .string ty, .string tt, .string la, .slice a4 pa.length a8] 29)).alloc (.cells #[.int .i64 k', .slice b1 spB.length b5, .slice b2 coB.length b6, .slice b3 itB.length b7, .int .i64 o', .bool d', .int .i64 sk', .int .i64 li', .string n', .string ke', .string vn', .string vk', .int .i64 vv', .string ty', .string tt', .string la', .slice b4 paB.length b8] 29) = W2 at *
  have x0 : W2.cell? ⟨X, 0, none⟩ = some (.int .i64 k) := (LX.out.cell 0).trans rfl
  have y0 : W2.cell? ⟨Y, 0, none⟩ = some (.int .i64 k') := (LY.out.cell 0).trans rfl
  clear LX LY
  go_wp2_with fail
  go_ret
  exact ⟨rfl, hB.out⟩

set_option maxRecDepth 100000 in
set_option maxHeartbeats 4000000 in
theorem sameNo1 {W : World} {k o o' sk sk' li li' vv vv' : Int} {n n' ke ke' vn vn' vk vk' ty ty' tt tt' la la' : ByteArray} {d d' : Bool} {sp spB : List PSpot} {co coB : List PCond} {it itB : List PItem} {pa paB : List PPair} {a1 a2 a3 a4 b1 b2 b3 b4 : Option Addr} {a5 a6 a7 a8 b5 b6 b7 b8 : Nat}
    (e : (o == o') = false) :
    Calls Tryz.prog 55 #[.agg #[.int .i64 k, .slice a1 sp.length a5, .slice a2 co.length a6, .slice a3 it.length a7, .int .i64 o, .bool d, .int .i64 sk, .int .i64 li, .string n, .string ke, .string vn, .string vk, .int .i64 vv, .string ty, .string tt, .string la, .slice a4 pa.length a8], .agg #[.int .i64 k, .slice b1 spB.length b5, .slice b2 coB.length b6, .slice b3 itB.length b7, .int .i64 o', .bool d', .int .i64 sk', .int .i64 li', .string n', .string ke', .string vn', .string vk', .int .i64 vv', .string ty', .string tt', .string la', .slice b4 paB.length b8]] W fun e W' => e = .returned (.bool false) ∧ Below W.heap.size W W' := by
  have hB := Lib.hid (((Below.refl W.heap.size W).alloc (Nat.le_refl _) (.cells #[.int .i64 k, .slice a1 sp.length a5, .slice a2 co.length a6, .slice a3 it.length a7, .int .i64 o, .bool d, .int .i64 sk, .int .i64 li, .string n, .string ke, .string vn, .string vk, .int .i64 vv, .string ty, .string tt, .string la, .slice a4 pa.length a8] 29)).alloc (by rw [size_alloc]; omega) (.cells #[.int .i64 k, .slice b1 spB.length b5, .slice b2 coB.length b6, .slice b3 itB.length b7, .int .i64 o', .bool d', .int .i64 sk', .int .i64 li', .string n', .string ke', .string vn', .string vk', .int .i64 vv', .string ty', .string tt', .string la', .slice b4 paB.length b8] 29))
  have LX := (Loc.new W #[.int .i64 k, .slice a1 sp.length a5, .slice a2 co.length a6, .slice a3 it.length a7, .int .i64 o, .bool d, .int .i64 sk, .int .i64 li, .string n, .string ke, .string vn, .string vk, .int .i64 vv, .string ty, .string tt, .string la, .slice a4 pa.length a8] 29).alloc (.cells #[.int .i64 k, .slice b1 spB.length b5, .slice b2 coB.length b6, .slice b3 itB.length b7, .int .i64 o', .bool d', .int .i64 sk', .int .i64 li', .string n', .string ke', .string vn', .string vk', .int .i64 vv', .string ty', .string tt', .string la', .slice b4 paB.length b8] 29)
  have LY := Loc.new (W.alloc (.cells #[.int .i64 k, .slice a1 sp.length a5, .slice a2 co.length a6, .slice a3 it.length a7, .int .i64 o, .bool d, .int .i64 sk, .int .i64 li, .string n, .string ke, .string vn, .string vk, .int .i64 vv, .string ty, .string tt, .string la, .slice a4 pa.length a8] 29)) #[.int .i64 k, .slice b1 spB.length b5, .slice b2 coB.length b6, .slice b3 itB.length b7, .int .i64 o', .bool d', .int .i64 sk', .int .i64 li', .string n', .string ke', .string vn', .string vk', .int .i64 vv', .string ty', .string tt', .string la', .slice b4 paB.length b8] 29
  rw [size_alloc] at LY
  have LX := Lib.hid LX
  have LY := Lib.hid LY
  go_enter Tryz.func55, Tryz.ntmps55
  go_upto_region 1 with fail
  obtain ⟨X, hX⟩ : ∃ X, X = W.heap.size := ⟨_, rfl⟩
  obtain ⟨Y, hY⟩ : ∃ Y, Y = W.heap.size + 1 := ⟨_, rfl⟩
  rw [← hX] at LX
  rw [← hY] at LY
  rw [← hY, ← hX]
  clear hX hY
  generalize (W.alloc (.cells #[.int .i64 k, .slice a1 sp.length a5, .slice a2 co.length a6, .slice a3 it.length a7, .int .i64 o, .bool d, .int .i64 sk, .int .i64 li, .string n, .string ke, .string vn, .string vk, .int .i64 vv, .string ty, .string tt, .string la, .slice a4 pa.length a8] 29)).alloc (.cells #[.int .i64 k, .slice b1 spB.length b5, .slice b2 coB.length b6, .slice b3 itB.length b7, .int .i64 o', .bool d', .int .i64 sk', .int .i64 li', .string n', .string ke', .string vn', .string vk', .int .i64 vv', .string ty', .string tt', .string la', .slice b4 paB.length b8] 29) = W2 at *
  have x0 : W2.cell? ⟨X, 0, none⟩ = some (.int .i64 k) := (LX.out.cell 0).trans rfl
  have y0 : W2.cell? ⟨Y, 0, none⟩ = some (.int .i64 k) := (LY.out.cell 0).trans rfl
  have x4 : W2.cell? ⟨X, 4, none⟩ = some (.int .i64 o) := (LX.out.cell 4).trans rfl
  have y4 : W2.cell? ⟨Y, 4, none⟩ = some (.int .i64 o') := (LY.out.cell 4).trans rfl
  clear LX LY
  go_wp2_with fail
  go_ret
  exact ⟨rfl, hB.out⟩

set_option maxRecDepth 100000 in
set_option maxHeartbeats 4000000 in
theorem sameNo2 {W : World} {k o sk sk' li li' vv vv' : Int} {n n' ke ke' vn vn' vk vk' ty ty' tt tt' la la' : ByteArray} {d d' : Bool} {sp spB : List PSpot} {co coB : List PCond} {it itB : List PItem} {pa paB : List PPair} {a1 a2 a3 a4 b1 b2 b3 b4 : Option Addr} {a5 a6 a7 a8 b5 b6 b7 b8 : Nat}
    (e : (d == d') = false) :
    Calls Tryz.prog 55 #[.agg #[.int .i64 k, .slice a1 sp.length a5, .slice a2 co.length a6, .slice a3 it.length a7, .int .i64 o, .bool d, .int .i64 sk, .int .i64 li, .string n, .string ke, .string vn, .string vk, .int .i64 vv, .string ty, .string tt, .string la, .slice a4 pa.length a8], .agg #[.int .i64 k, .slice b1 spB.length b5, .slice b2 coB.length b6, .slice b3 itB.length b7, .int .i64 o, .bool d', .int .i64 sk', .int .i64 li', .string n', .string ke', .string vn', .string vk', .int .i64 vv', .string ty', .string tt', .string la', .slice b4 paB.length b8]] W fun e W' => e = .returned (.bool false) ∧ Below W.heap.size W W' := by
  have hB := Lib.hid (((Below.refl W.heap.size W).alloc (Nat.le_refl _) (.cells #[.int .i64 k, .slice a1 sp.length a5, .slice a2 co.length a6, .slice a3 it.length a7, .int .i64 o, .bool d, .int .i64 sk, .int .i64 li, .string n, .string ke, .string vn, .string vk, .int .i64 vv, .string ty, .string tt, .string la, .slice a4 pa.length a8] 29)).alloc (by rw [size_alloc]; omega) (.cells #[.int .i64 k, .slice b1 spB.length b5, .slice b2 coB.length b6, .slice b3 itB.length b7, .int .i64 o, .bool d', .int .i64 sk', .int .i64 li', .string n', .string ke', .string vn', .string vk', .int .i64 vv', .string ty', .string tt', .string la', .slice b4 paB.length b8] 29))
  have LX := (Loc.new W #[.int .i64 k, .slice a1 sp.length a5, .slice a2 co.length a6, .slice a3 it.length a7, .int .i64 o, .bool d, .int .i64 sk, .int .i64 li, .string n, .string ke, .string vn, .string vk, .int .i64 vv, .string ty, .string tt, .string la, .slice a4 pa.length a8] 29).alloc (.cells #[.int .i64 k, .slice b1 spB.length b5, .slice b2 coB.length b6, .slice b3 itB.length b7, .int .i64 o, .bool d', .int .i64 sk', .int .i64 li', .string n', .string ke', .string vn', .string vk', .int .i64 vv', .string ty', .string tt', .string la', .slice b4 paB.length b8] 29)
  have LY := Loc.new (W.alloc (.cells #[.int .i64 k, .slice a1 sp.length a5, .slice a2 co.length a6, .slice a3 it.length a7, .int .i64 o, .bool d, .int .i64 sk, .int .i64 li, .string n, .string ke, .string vn, .string vk, .int .i64 vv, .string ty, .string tt, .string la, .slice a4 pa.length a8] 29)) #[.int .i64 k, .slice b1 spB.length b5, .slice b2 coB.length b6, .slice b3 itB.length b7, .int .i64 o, .bool d', .int .i64 sk', .int .i64 li', .string n', .string ke', .string vn', .string vk', .int .i64 vv', .string ty', .string tt', .string la', .slice b4 paB.length b8] 29
  rw [size_alloc] at LY
  have LX := Lib.hid LX
  have LY := Lib.hid LY
  go_enter Tryz.func55, Tryz.ntmps55
  go_upto_region 1 with fail
  obtain ⟨X, hX⟩ : ∃ X, X = W.heap.size := ⟨_, rfl⟩
  obtain ⟨Y, hY⟩ : ∃ Y, Y = W.heap.size + 1 := ⟨_, rfl⟩
  rw [← hX] at LX
  rw [← hY] at LY
  rw [← hY, ← hX]
  clear hX hY
  generalize (W.alloc (.cells #[.int .i64 k, .slice a1 sp.length a5, .slice a2 co.length a6, .slice a3 it.length a7, .int .i64 o, .bool d, .int .i64 sk, .int .i64 li, .string n, .string ke, .string vn, .string vk, .int .i64 vv, .string ty, .string tt, .string la, .slice a4 pa.length a8] 29)).alloc (.cells #[.int .i64 k, .slice b1 spB.length b5, .slice b2 coB.length b6, .slice b3 itB.length b7, .int .i64 o, .bool d', .int .i64 sk', .int .i64 li', .string n', .string ke', .string vn', .string vk', .int .i64 vv', .string ty', .string tt', .string la', .slice b4 paB.length b8] 29) = W2 at *
  have x0 : W2.cell? ⟨X, 0, none⟩ = some (.int .i64 k) := (LX.out.cell 0).trans rfl
  have y0 : W2.cell? ⟨Y, 0, none⟩ = some (.int .i64 k) := (LY.out.cell 0).trans rfl
  have x4 : W2.cell? ⟨X, 4, none⟩ = some (.int .i64 o) := (LX.out.cell 4).trans rfl
  have y4 : W2.cell? ⟨Y, 4, none⟩ = some (.int .i64 o) := (LY.out.cell 4).trans rfl
  have x5 : W2.cell? ⟨X, 5, none⟩ = some (.bool d) := (LX.out.cell 5).trans rfl
  have y5 : W2.cell? ⟨Y, 5, none⟩ = some (.bool d') := (LY.out.cell 5).trans rfl
  clear LX LY
  go_wp2_with fail
  go_ret
  exact ⟨rfl, hB.out⟩

set_option maxRecDepth 100000 in
set_option maxHeartbeats 4000000 in
theorem sameNo3 {W : World} {k o sk sk' li li' vv vv' : Int} {n n' ke ke' vn vn' vk vk' ty ty' tt tt' la la' : ByteArray} {d : Bool} {sp spB : List PSpot} {co coB : List PCond} {it itB : List PItem} {pa paB : List PPair} {a1 a2 a3 a4 b1 b2 b3 b4 : Option Addr} {a5 a6 a7 a8 b5 b6 b7 b8 : Nat}
    (e : (sk == sk') = false) :
    Calls Tryz.prog 55 #[.agg #[.int .i64 k, .slice a1 sp.length a5, .slice a2 co.length a6, .slice a3 it.length a7, .int .i64 o, .bool d, .int .i64 sk, .int .i64 li, .string n, .string ke, .string vn, .string vk, .int .i64 vv, .string ty, .string tt, .string la, .slice a4 pa.length a8], .agg #[.int .i64 k, .slice b1 spB.length b5, .slice b2 coB.length b6, .slice b3 itB.length b7, .int .i64 o, .bool d, .int .i64 sk', .int .i64 li', .string n', .string ke', .string vn', .string vk', .int .i64 vv', .string ty', .string tt', .string la', .slice b4 paB.length b8]] W fun e W' => e = .returned (.bool false) ∧ Below W.heap.size W W' := by
  have hB := Lib.hid (((Below.refl W.heap.size W).alloc (Nat.le_refl _) (.cells #[.int .i64 k, .slice a1 sp.length a5, .slice a2 co.length a6, .slice a3 it.length a7, .int .i64 o, .bool d, .int .i64 sk, .int .i64 li, .string n, .string ke, .string vn, .string vk, .int .i64 vv, .string ty, .string tt, .string la, .slice a4 pa.length a8] 29)).alloc (by rw [size_alloc]; omega) (.cells #[.int .i64 k, .slice b1 spB.length b5, .slice b2 coB.length b6, .slice b3 itB.length b7, .int .i64 o, .bool d, .int .i64 sk', .int .i64 li', .string n', .string ke', .string vn', .string vk', .int .i64 vv', .string ty', .string tt', .string la', .slice b4 paB.length b8] 29))
  have LX := (Loc.new W #[.int .i64 k, .slice a1 sp.length a5, .slice a2 co.length a6, .slice a3 it.length a7, .int .i64 o, .bool d, .int .i64 sk, .int .i64 li, .string n, .string ke, .string vn, .string vk, .int .i64 vv, .string ty, .string tt, .string la, .slice a4 pa.length a8] 29).alloc (.cells #[.int .i64 k, .slice b1 spB.length b5, .slice b2 coB.length b6, .slice b3 itB.length b7, .int .i64 o, .bool d, .int .i64 sk', .int .i64 li', .string n', .string ke', .string vn', .string vk', .int .i64 vv', .string ty', .string tt', .string la', .slice b4 paB.length b8] 29)
  have LY := Loc.new (W.alloc (.cells #[.int .i64 k, .slice a1 sp.length a5, .slice a2 co.length a6, .slice a3 it.length a7, .int .i64 o, .bool d, .int .i64 sk, .int .i64 li, .string n, .string ke, .string vn, .string vk, .int .i64 vv, .string ty, .string tt, .string la, .slice a4 pa.length a8] 29)) #[.int .i64 k, .slice b1 spB.length b5, .slice b2 coB.length b6, .slice b3 itB.length b7, .int .i64 o, .bool d, .int .i64 sk', .int .i64 li', .string n', .string ke', .string vn', .string vk', .int .i64 vv', .string ty', .string tt', .string la', .slice b4 paB.length b8] 29
  rw [size_alloc] at LY
  have LX := Lib.hid LX
  have LY := Lib.hid LY
  go_enter Tryz.func55, Tryz.ntmps55
  go_upto_region 1 with fail
  obtain ⟨X, hX⟩ : ∃ X, X = W.heap.size := ⟨_, rfl⟩
  obtain ⟨Y, hY⟩ : ∃ Y, Y = W.heap.size + 1 := ⟨_, rfl⟩
  rw [← hX] at LX
  rw [← hY] at LY
  rw [← hY, ← hX]
  clear hX hY
  generalize (W.alloc (.cells #[.int .i64 k, .slice a1 sp.length a5, .slice a2 co.length a6, .slice a3 it.length a7, .int .i64 o, .bool d, .int .i64 sk, .int .i64 li, .string n, .string ke, .string vn, .string vk, .int .i64 vv, .string ty, .string tt, .string la, .slice a4 pa.length a8] 29)).alloc (.cells #[.int .i64 k, .slice b1 spB.length b5, .slice b2 coB.length b6, .slice b3 itB.length b7, .int .i64 o, .bool d, .int .i64 sk', .int .i64 li', .string n', .string ke', .string vn', .string vk', .int .i64 vv', .string ty', .string tt', .string la', .slice b4 paB.length b8] 29) = W2 at *
  have x0 : W2.cell? ⟨X, 0, none⟩ = some (.int .i64 k) := (LX.out.cell 0).trans rfl
  have y0 : W2.cell? ⟨Y, 0, none⟩ = some (.int .i64 k) := (LY.out.cell 0).trans rfl
  have x4 : W2.cell? ⟨X, 4, none⟩ = some (.int .i64 o) := (LX.out.cell 4).trans rfl
  have y4 : W2.cell? ⟨Y, 4, none⟩ = some (.int .i64 o) := (LY.out.cell 4).trans rfl
  have x5 : W2.cell? ⟨X, 5, none⟩ = some (.bool d) := (LX.out.cell 5).trans rfl
  have y5 : W2.cell? ⟨Y, 5, none⟩ = some (.bool d) := (LY.out.cell 5).trans rfl
  have x6 : W2.cell? ⟨X, 6, none⟩ = some (.int .i64 sk) := (LX.out.cell 6).trans rfl
  have y6 : W2.cell? ⟨Y, 6, none⟩ = some (.int .i64 sk') := (LY.out.cell 6).trans rfl
  clear LX LY
  go_wp2_with fail
  go_ret
  exact ⟨rfl, hB.out⟩

set_option maxRecDepth 100000 in
set_option maxHeartbeats 4000000 in
theorem sameNo4 {W : World} {k o sk li li' vv vv' : Int} {n n' ke ke' vn vn' vk vk' ty ty' tt tt' la la' : ByteArray} {d : Bool} {sp spB : List PSpot} {co coB : List PCond} {it itB : List PItem} {pa paB : List PPair} {a1 a2 a3 a4 b1 b2 b3 b4 : Option Addr} {a5 a6 a7 a8 b5 b6 b7 b8 : Nat}
    (e : (li == li') = false) :
    Calls Tryz.prog 55 #[.agg #[.int .i64 k, .slice a1 sp.length a5, .slice a2 co.length a6, .slice a3 it.length a7, .int .i64 o, .bool d, .int .i64 sk, .int .i64 li, .string n, .string ke, .string vn, .string vk, .int .i64 vv, .string ty, .string tt, .string la, .slice a4 pa.length a8], .agg #[.int .i64 k, .slice b1 spB.length b5, .slice b2 coB.length b6, .slice b3 itB.length b7, .int .i64 o, .bool d, .int .i64 sk, .int .i64 li', .string n', .string ke', .string vn', .string vk', .int .i64 vv', .string ty', .string tt', .string la', .slice b4 paB.length b8]] W fun e W' => e = .returned (.bool false) ∧ Below W.heap.size W W' := by
  have hB := Lib.hid (((Below.refl W.heap.size W).alloc (Nat.le_refl _) (.cells #[.int .i64 k, .slice a1 sp.length a5, .slice a2 co.length a6, .slice a3 it.length a7, .int .i64 o, .bool d, .int .i64 sk, .int .i64 li, .string n, .string ke, .string vn, .string vk, .int .i64 vv, .string ty, .string tt, .string la, .slice a4 pa.length a8] 29)).alloc (by rw [size_alloc]; omega) (.cells #[.int .i64 k, .slice b1 spB.length b5, .slice b2 coB.length b6, .slice b3 itB.length b7, .int .i64 o, .bool d, .int .i64 sk, .int .i64 li', .string n', .string ke', .string vn', .string vk', .int .i64 vv', .string ty', .string tt', .string la', .slice b4 paB.length b8] 29))
  have LX := (Loc.new W #[.int .i64 k, .slice a1 sp.length a5, .slice a2 co.length a6, .slice a3 it.length a7, .int .i64 o, .bool d, .int .i64 sk, .int .i64 li, .string n, .string ke, .string vn, .string vk, .int .i64 vv, .string ty, .string tt, .string la, .slice a4 pa.length a8] 29).alloc (.cells #[.int .i64 k, .slice b1 spB.length b5, .slice b2 coB.length b6, .slice b3 itB.length b7, .int .i64 o, .bool d, .int .i64 sk, .int .i64 li', .string n', .string ke', .string vn', .string vk', .int .i64 vv', .string ty', .string tt', .string la', .slice b4 paB.length b8] 29)
  have LY := Loc.new (W.alloc (.cells #[.int .i64 k, .slice a1 sp.length a5, .slice a2 co.length a6, .slice a3 it.length a7, .int .i64 o, .bool d, .int .i64 sk, .int .i64 li, .string n, .string ke, .string vn, .string vk, .int .i64 vv, .string ty, .string tt, .string la, .slice a4 pa.length a8] 29)) #[.int .i64 k, .slice b1 spB.length b5, .slice b2 coB.length b6, .slice b3 itB.length b7, .int .i64 o, .bool d, .int .i64 sk, .int .i64 li', .string n', .string ke', .string vn', .string vk', .int .i64 vv', .string ty', .string tt', .string la', .slice b4 paB.length b8] 29
  rw [size_alloc] at LY
  have LX := Lib.hid LX
  have LY := Lib.hid LY
  go_enter Tryz.func55, Tryz.ntmps55
  go_upto_region 1 with fail
  obtain ⟨X, hX⟩ : ∃ X, X = W.heap.size := ⟨_, rfl⟩
  obtain ⟨Y, hY⟩ : ∃ Y, Y = W.heap.size + 1 := ⟨_, rfl⟩
  rw [← hX] at LX
  rw [← hY] at LY
  rw [← hY, ← hX]
  clear hX hY
  generalize (W.alloc (.cells #[.int .i64 k, .slice a1 sp.length a5, .slice a2 co.length a6, .slice a3 it.length a7, .int .i64 o, .bool d, .int .i64 sk, .int .i64 li, .string n, .string ke, .string vn, .string vk, .int .i64 vv, .string ty, .string tt, .string la, .slice a4 pa.length a8] 29)).alloc (.cells #[.int .i64 k, .slice b1 spB.length b5, .slice b2 coB.length b6, .slice b3 itB.length b7, .int .i64 o, .bool d, .int .i64 sk, .int .i64 li', .string n', .string ke', .string vn', .string vk', .int .i64 vv', .string ty', .string tt', .string la', .slice b4 paB.length b8] 29) = W2 at *
  have x0 : W2.cell? ⟨X, 0, none⟩ = some (.int .i64 k) := (LX.out.cell 0).trans rfl
  have y0 : W2.cell? ⟨Y, 0, none⟩ = some (.int .i64 k) := (LY.out.cell 0).trans rfl
  have x4 : W2.cell? ⟨X, 4, none⟩ = some (.int .i64 o) := (LX.out.cell 4).trans rfl
  have y4 : W2.cell? ⟨Y, 4, none⟩ = some (.int .i64 o) := (LY.out.cell 4).trans rfl
  have x5 : W2.cell? ⟨X, 5, none⟩ = some (.bool d) := (LX.out.cell 5).trans rfl
  have y5 : W2.cell? ⟨Y, 5, none⟩ = some (.bool d) := (LY.out.cell 5).trans rfl
  have x6 : W2.cell? ⟨X, 6, none⟩ = some (.int .i64 sk) := (LX.out.cell 6).trans rfl
  have y6 : W2.cell? ⟨Y, 6, none⟩ = some (.int .i64 sk) := (LY.out.cell 6).trans rfl
  have x7 : W2.cell? ⟨X, 7, none⟩ = some (.int .i64 li) := (LX.out.cell 7).trans rfl
  have y7 : W2.cell? ⟨Y, 7, none⟩ = some (.int .i64 li') := (LY.out.cell 7).trans rfl
  clear LX LY
  go_wp2_with fail
  go_ret
  exact ⟨rfl, hB.out⟩

end Go.Proofs.YtobgbmfpicmpcaaGreatDoor

/- The program's same: a name parts. -/
namespace Go.Proofs.YtobgbmfpicmpcaaGreatDoor
open Go.RowKit

set_option maxRecDepth 100000 in
set_option maxHeartbeats 4000000 in
theorem sameNo5 {W : World} {k o sk li vv vv' : Int} {n n' ke ke' vn vn' vk vk' ty ty' tt tt' la la' : ByteArray} {d : Bool} {sp spB : List PSpot} {co coB : List PCond} {it itB : List PItem} {pa paB : List PPair} {a1 a2 a3 a4 b1 b2 b3 b4 : Option Addr} {a5 a6 a7 a8 b5 b6 b7 b8 : Nat}
    (e : (n.toList == n'.toList) = false) :
    Calls Tryz.prog 55 #[.agg #[.int .i64 k, .slice a1 sp.length a5, .slice a2 co.length a6, .slice a3 it.length a7, .int .i64 o, .bool d, .int .i64 sk, .int .i64 li, .string n, .string ke, .string vn, .string vk, .int .i64 vv, .string ty, .string tt, .string la, .slice a4 pa.length a8], .agg #[.int .i64 k, .slice b1 spB.length b5, .slice b2 coB.length b6, .slice b3 itB.length b7, .int .i64 o, .bool d, .int .i64 sk, .int .i64 li, .string n', .string ke', .string vn', .string vk', .int .i64 vv', .string ty', .string tt', .string la', .slice b4 paB.length b8]] W fun e W' => e = .returned (.bool false) ∧ Below W.heap.size W W' := by
  have hB := Lib.hid (((Below.refl W.heap.size W).alloc (Nat.le_refl _) (.cells #[.int .i64 k, .slice a1 sp.length a5, .slice a2 co.length a6, .slice a3 it.length a7, .int .i64 o, .bool d, .int .i64 sk, .int .i64 li, .string n, .string ke, .string vn, .string vk, .int .i64 vv, .string ty, .string tt, .string la, .slice a4 pa.length a8] 29)).alloc (by rw [size_alloc]; omega) (.cells #[.int .i64 k, .slice b1 spB.length b5, .slice b2 coB.length b6, .slice b3 itB.length b7, .int .i64 o, .bool d, .int .i64 sk, .int .i64 li, .string n', .string ke', .string vn', .string vk', .int .i64 vv', .string ty', .string tt', .string la', .slice b4 paB.length b8] 29))
  have LX := (Loc.new W #[.int .i64 k, .slice a1 sp.length a5, .slice a2 co.length a6, .slice a3 it.length a7, .int .i64 o, .bool d, .int .i64 sk, .int .i64 li, .string n, .string ke, .string vn, .string vk, .int .i64 vv, .string ty, .string tt, .string la, .slice a4 pa.length a8] 29).alloc (.cells #[.int .i64 k, .slice b1 spB.length b5, .slice b2 coB.length b6, .slice b3 itB.length b7, .int .i64 o, .bool d, .int .i64 sk, .int .i64 li, .string n', .string ke', .string vn', .string vk', .int .i64 vv', .string ty', .string tt', .string la', .slice b4 paB.length b8] 29)
  have LY := Loc.new (W.alloc (.cells #[.int .i64 k, .slice a1 sp.length a5, .slice a2 co.length a6, .slice a3 it.length a7, .int .i64 o, .bool d, .int .i64 sk, .int .i64 li, .string n, .string ke, .string vn, .string vk, .int .i64 vv, .string ty, .string tt, .string la, .slice a4 pa.length a8] 29)) #[.int .i64 k, .slice b1 spB.length b5, .slice b2 coB.length b6, .slice b3 itB.length b7, .int .i64 o, .bool d, .int .i64 sk, .int .i64 li, .string n', .string ke', .string vn', .string vk', .int .i64 vv', .string ty', .string tt', .string la', .slice b4 paB.length b8] 29
  rw [size_alloc] at LY
  have LX := Lib.hid LX
  have LY := Lib.hid LY
  go_enter Tryz.func55, Tryz.ntmps55
  go_upto_region 1 with fail
  obtain ⟨X, hX⟩ : ∃ X, X = W.heap.size := ⟨_, rfl⟩
  obtain ⟨Y, hY⟩ : ∃ Y, Y = W.heap.size + 1 := ⟨_, rfl⟩
  rw [← hX] at LX
  rw [← hY] at LY
  rw [← hY, ← hX]
  clear hX hY
  generalize (W.alloc (.cells #[.int .i64 k, .slice a1 sp.length a5, .slice a2 co.length a6, .slice a3 it.length a7, .int .i64 o, .bool d, .int .i64 sk, .int .i64 li, .string n, .string ke, .string vn, .string vk, .int .i64 vv, .string ty, .string tt, .string la, .slice a4 pa.length a8] 29)).alloc (.cells #[.int .i64 k, .slice b1 spB.length b5, .slice b2 coB.length b6, .slice b3 itB.length b7, .int .i64 o, .bool d, .int .i64 sk, .int .i64 li, .string n', .string ke', .string vn', .string vk', .int .i64 vv', .string ty', .string tt', .string la', .slice b4 paB.length b8] 29) = W2 at *
  have x0 : W2.cell? ⟨X, 0, none⟩ = some (.int .i64 k) := (LX.out.cell 0).trans rfl
  have y0 : W2.cell? ⟨Y, 0, none⟩ = some (.int .i64 k) := (LY.out.cell 0).trans rfl
  have x4 : W2.cell? ⟨X, 4, none⟩ = some (.int .i64 o) := (LX.out.cell 4).trans rfl
  have y4 : W2.cell? ⟨Y, 4, none⟩ = some (.int .i64 o) := (LY.out.cell 4).trans rfl
  have x5 : W2.cell? ⟨X, 5, none⟩ = some (.bool d) := (LX.out.cell 5).trans rfl
  have y5 : W2.cell? ⟨Y, 5, none⟩ = some (.bool d) := (LY.out.cell 5).trans rfl
  have x6 : W2.cell? ⟨X, 6, none⟩ = some (.int .i64 sk) := (LX.out.cell 6).trans rfl
  have y6 : W2.cell? ⟨Y, 6, none⟩ = some (.int .i64 sk) := (LY.out.cell 6).trans rfl
  have x7 : W2.cell? ⟨X, 7, none⟩ = some (.int .i64 li) := (LX.out.cell 7).trans rfl
  have y7 : W2.cell? ⟨Y, 7, none⟩ = some (.int .i64 li) := (LY.out.cell 7).trans rfl
  have x8 : W2.cell? ⟨X, 8, none⟩ = some (.string n) := (LX.out.cell 8).trans rfl
  have y8 : W2.cell? ⟨Y, 8, none⟩ = some (.string n') := (LY.out.cell 8).trans rfl
  clear LX LY
  go_wp2_with fail
  go_ret
  exact ⟨rfl, hB.out⟩

set_option maxRecDepth 100000 in
set_option maxHeartbeats 4000000 in
theorem sameNo6 {W : World} {k o sk li vv vv' : Int} {n ke ke' vn vn' vk vk' ty ty' tt tt' la la' : ByteArray} {d : Bool} {sp spB : List PSpot} {co coB : List PCond} {it itB : List PItem} {pa paB : List PPair} {a1 a2 a3 a4 b1 b2 b3 b4 : Option Addr} {a5 a6 a7 a8 b5 b6 b7 b8 : Nat}
    (e : (ke.toList == ke'.toList) = false) :
    Calls Tryz.prog 55 #[.agg #[.int .i64 k, .slice a1 sp.length a5, .slice a2 co.length a6, .slice a3 it.length a7, .int .i64 o, .bool d, .int .i64 sk, .int .i64 li, .string n, .string ke, .string vn, .string vk, .int .i64 vv, .string ty, .string tt, .string la, .slice a4 pa.length a8], .agg #[.int .i64 k, .slice b1 spB.length b5, .slice b2 coB.length b6, .slice b3 itB.length b7, .int .i64 o, .bool d, .int .i64 sk, .int .i64 li, .string n, .string ke', .string vn', .string vk', .int .i64 vv', .string ty', .string tt', .string la', .slice b4 paB.length b8]] W fun e W' => e = .returned (.bool false) ∧ Below W.heap.size W W' := by
  have hB := Lib.hid (((Below.refl W.heap.size W).alloc (Nat.le_refl _) (.cells #[.int .i64 k, .slice a1 sp.length a5, .slice a2 co.length a6, .slice a3 it.length a7, .int .i64 o, .bool d, .int .i64 sk, .int .i64 li, .string n, .string ke, .string vn, .string vk, .int .i64 vv, .string ty, .string tt, .string la, .slice a4 pa.length a8] 29)).alloc (by rw [size_alloc]; omega) (.cells #[.int .i64 k, .slice b1 spB.length b5, .slice b2 coB.length b6, .slice b3 itB.length b7, .int .i64 o, .bool d, .int .i64 sk, .int .i64 li, .string n, .string ke', .string vn', .string vk', .int .i64 vv', .string ty', .string tt', .string la', .slice b4 paB.length b8] 29))
  have LX := (Loc.new W #[.int .i64 k, .slice a1 sp.length a5, .slice a2 co.length a6, .slice a3 it.length a7, .int .i64 o, .bool d, .int .i64 sk, .int .i64 li, .string n, .string ke, .string vn, .string vk, .int .i64 vv, .string ty, .string tt, .string la, .slice a4 pa.length a8] 29).alloc (.cells #[.int .i64 k, .slice b1 spB.length b5, .slice b2 coB.length b6, .slice b3 itB.length b7, .int .i64 o, .bool d, .int .i64 sk, .int .i64 li, .string n, .string ke', .string vn', .string vk', .int .i64 vv', .string ty', .string tt', .string la', .slice b4 paB.length b8] 29)
  have LY := Loc.new (W.alloc (.cells #[.int .i64 k, .slice a1 sp.length a5, .slice a2 co.length a6, .slice a3 it.length a7, .int .i64 o, .bool d, .int .i64 sk, .int .i64 li, .string n, .string ke, .string vn, .string vk, .int .i64 vv, .string ty, .string tt, .string la, .slice a4 pa.length a8] 29)) #[.int .i64 k, .slice b1 spB.length b5, .slice b2 coB.length b6, .slice b3 itB.length b7, .int .i64 o, .bool d, .int .i64 sk, .int .i64 li, .string n, .string ke', .string vn', .string vk', .int .i64 vv', .string ty', .string tt', .string la', .slice b4 paB.length b8] 29
  rw [size_alloc] at LY
  have LX := Lib.hid LX
  have LY := Lib.hid LY
  go_enter Tryz.func55, Tryz.ntmps55
  go_upto_region 1 with fail
  obtain ⟨X, hX⟩ : ∃ X, X = W.heap.size := ⟨_, rfl⟩
  obtain ⟨Y, hY⟩ : ∃ Y, Y = W.heap.size + 1 := ⟨_, rfl⟩
  rw [← hX] at LX
  rw [← hY] at LY
  rw [← hY, ← hX]
  clear hX hY
  generalize (W.alloc (.cells #[.int .i64 k, .slice a1 sp.length a5, .slice a2 co.length a6, .slice a3 it.length a7, .int .i64 o, .bool d, .int .i64 sk, .int .i64 li, .string n, .string ke, .string vn, .string vk, .int .i64 vv, .string ty, .string tt, .string la, .slice a4 pa.length a8] 29)).alloc (.cells #[.int .i64 k, .slice b1 spB.length b5, .slice b2 coB.length b6, .slice b3 itB.length b7, .int .i64 o, .bool d, .int .i64 sk, .int .i64 li, .string n, .string ke', .string vn', .string vk', .int .i64 vv', .string ty', .string tt', .string la', .slice b4 paB.length b8] 29) = W2 at *
  have x0 : W2.cell? ⟨X, 0, none⟩ = some (.int .i64 k) := (LX.out.cell 0).trans rfl
  have y0 : W2.cell? ⟨Y, 0, none⟩ = some (.int .i64 k) := (LY.out.cell 0).trans rfl
  have x4 : W2.cell? ⟨X, 4, none⟩ = some (.int .i64 o) := (LX.out.cell 4).trans rfl
  have y4 : W2.cell? ⟨Y, 4, none⟩ = some (.int .i64 o) := (LY.out.cell 4).trans rfl
  have x5 : W2.cell? ⟨X, 5, none⟩ = some (.bool d) := (LX.out.cell 5).trans rfl
  have y5 : W2.cell? ⟨Y, 5, none⟩ = some (.bool d) := (LY.out.cell 5).trans rfl
  have x6 : W2.cell? ⟨X, 6, none⟩ = some (.int .i64 sk) := (LX.out.cell 6).trans rfl
  have y6 : W2.cell? ⟨Y, 6, none⟩ = some (.int .i64 sk) := (LY.out.cell 6).trans rfl
  have x7 : W2.cell? ⟨X, 7, none⟩ = some (.int .i64 li) := (LX.out.cell 7).trans rfl
  have y7 : W2.cell? ⟨Y, 7, none⟩ = some (.int .i64 li) := (LY.out.cell 7).trans rfl
  have x8 : W2.cell? ⟨X, 8, none⟩ = some (.string n) := (LX.out.cell 8).trans rfl
  have y8 : W2.cell? ⟨Y, 8, none⟩ = some (.string n) := (LY.out.cell 8).trans rfl
  have x9 : W2.cell? ⟨X, 9, none⟩ = some (.string ke) := (LX.out.cell 9).trans rfl
  have y9 : W2.cell? ⟨Y, 9, none⟩ = some (.string ke') := (LY.out.cell 9).trans rfl
  clear LX LY
  go_wp2_with fail
  go_ret
  exact ⟨rfl, hB.out⟩

set_option maxRecDepth 100000 in
set_option maxHeartbeats 4000000 in
theorem sameNo7 {W : World} {k o sk li vv vv' : Int} {n ke vn vn' vk vk' ty ty' tt tt' la la' : ByteArray} {d : Bool} {sp spB : List PSpot} {co coB : List PCond} {it itB : List PItem} {pa paB : List PPair} {a1 a2 a3 a4 b1 b2 b3 b4 : Option Addr} {a5 a6 a7 a8 b5 b6 b7 b8 : Nat}
    (e : (vn.toList == vn'.toList) = false) :
    Calls Tryz.prog 55 #[.agg #[.int .i64 k, .slice a1 sp.length a5, .slice a2 co.length a6, .slice a3 it.length a7, .int .i64 o, .bool d, .int .i64 sk, .int .i64 li, .string n, .string ke, .string vn, .string vk, .int .i64 vv, .string ty, .string tt, .string la, .slice a4 pa.length a8], .agg #[.int .i64 k, .slice b1 spB.length b5, .slice b2 coB.length b6, .slice b3 itB.length b7, .int .i64 o, .bool d, .int .i64 sk, .int .i64 li, .string n, .string ke, .string vn', .string vk', .int .i64 vv', .string ty', .string tt', .string la', .slice b4 paB.length b8]] W fun e W' => e = .returned (.bool false) ∧ Below W.heap.size W W' := by
  have hB := Lib.hid (((Below.refl W.heap.size W).alloc (Nat.le_refl _) (.cells #[.int .i64 k, .slice a1 sp.length a5, .slice a2 co.length a6, .slice a3 it.length a7, .int .i64 o, .bool d, .int .i64 sk, .int .i64 li, .string n, .string ke, .string vn, .string vk, .int .i64 vv, .string ty, .string tt, .string la, .slice a4 pa.length a8] 29)).alloc (by rw [size_alloc]; omega) (.cells #[.int .i64 k, .slice b1 spB.length b5, .slice b2 coB.length b6, .slice b3 itB.length b7, .int .i64 o, .bool d, .int .i64 sk, .int .i64 li, .string n, .string ke, .string vn', .string vk', .int .i64 vv', .string ty', .string tt', .string la', .slice b4 paB.length b8] 29))
  have LX := (Loc.new W #[.int .i64 k, .slice a1 sp.length a5, .slice a2 co.length a6, .slice a3 it.length a7, .int .i64 o, .bool d, .int .i64 sk, .int .i64 li, .string n, .string ke, .string vn, .string vk, .int .i64 vv, .string ty, .string tt, .string la, .slice a4 pa.length a8] 29).alloc (.cells #[.int .i64 k, .slice b1 spB.length b5, .slice b2 coB.length b6, .slice b3 itB.length b7, .int .i64 o, .bool d, .int .i64 sk, .int .i64 li, .string n, .string ke, .string vn', .string vk', .int .i64 vv', .string ty', .string tt', .string la', .slice b4 paB.length b8] 29)
  have LY := Loc.new (W.alloc (.cells #[.int .i64 k, .slice a1 sp.length a5, .slice a2 co.length a6, .slice a3 it.length a7, .int .i64 o, .bool d, .int .i64 sk, .int .i64 li, .string n, .string ke, .string vn, .string vk, .int .i64 vv, .string ty, .string tt, .string la, .slice a4 pa.length a8] 29)) #[.int .i64 k, .slice b1 spB.length b5, .slice b2 coB.length b6, .slice b3 itB.length b7, .int .i64 o, .bool d, .int .i64 sk, .int .i64 li, .string n, .string ke, .string vn', .string vk', .int .i64 vv', .string ty', .string tt', .string la', .slice b4 paB.length b8] 29
  rw [size_alloc] at LY
  have LX := Lib.hid LX
  have LY := Lib.hid LY
  go_enter Tryz.func55, Tryz.ntmps55
  go_upto_region 1 with fail
  obtain ⟨X, hX⟩ : ∃ X, X = W.heap.size := ⟨_, rfl⟩
  obtain ⟨Y, hY⟩ : ∃ Y, Y = W.heap.size + 1 := ⟨_, rfl⟩
  rw [← hX] at LX
  rw [← hY] at LY
  rw [← hY, ← hX]
  clear hX hY
  generalize (W.alloc (.cells #[.int .i64 k, .slice a1 sp.length a5, .slice a2 co.length a6, .slice a3 it.length a7, .int .i64 o, .bool d, .int .i64 sk, .int .i64 li, .string n, .string ke, .string vn, .string vk, .int .i64 vv, .string ty, .string tt, .string la, .slice a4 pa.length a8] 29)).alloc (.cells #[.int .i64 k, .slice b1 spB.length b5, .slice b2 coB.length b6, .slice b3 itB.length b7, .int .i64 o, .bool d, .int .i64 sk, .int .i64 li, .string n, .string ke, .string vn', .string vk', .int .i64 vv', .string ty', .string tt', .string la', .slice b4 paB.length b8] 29) = W2 at *
  have x0 : W2.cell? ⟨X, 0, none⟩ = some (.int .i64 k) := (LX.out.cell 0).trans rfl
  have y0 : W2.cell? ⟨Y, 0, none⟩ = some (.int .i64 k) := (LY.out.cell 0).trans rfl
  have x4 : W2.cell? ⟨X, 4, none⟩ = some (.int .i64 o) := (LX.out.cell 4).trans rfl
  have y4 : W2.cell? ⟨Y, 4, none⟩ = some (.int .i64 o) := (LY.out.cell 4).trans rfl
  have x5 : W2.cell? ⟨X, 5, none⟩ = some (.bool d) := (LX.out.cell 5).trans rfl
  have y5 : W2.cell? ⟨Y, 5, none⟩ = some (.bool d) := (LY.out.cell 5).trans rfl
  have x6 : W2.cell? ⟨X, 6, none⟩ = some (.int .i64 sk) := (LX.out.cell 6).trans rfl
  have y6 : W2.cell? ⟨Y, 6, none⟩ = some (.int .i64 sk) := (LY.out.cell 6).trans rfl
  have x7 : W2.cell? ⟨X, 7, none⟩ = some (.int .i64 li) := (LX.out.cell 7).trans rfl
  have y7 : W2.cell? ⟨Y, 7, none⟩ = some (.int .i64 li) := (LY.out.cell 7).trans rfl
  have x8 : W2.cell? ⟨X, 8, none⟩ = some (.string n) := (LX.out.cell 8).trans rfl
  have y8 : W2.cell? ⟨Y, 8, none⟩ = some (.string n) := (LY.out.cell 8).trans rfl
  have x9 : W2.cell? ⟨X, 9, none⟩ = some (.string ke) := (LX.out.cell 9).trans rfl
  have y9 : W2.cell? ⟨Y, 9, none⟩ = some (.string ke) := (LY.out.cell 9).trans rfl
  have x10 : W2.cell? ⟨X, 10, none⟩ = some (.string vn) := (LX.out.cell 10).trans rfl
  have y10 : W2.cell? ⟨Y, 10, none⟩ = some (.string vn') := (LY.out.cell 10).trans rfl
  have x11 : W2.cell? ⟨X, 11, none⟩ = some (.string vk) := (LX.out.cell 11).trans rfl
  have y11 : W2.cell? ⟨Y, 11, none⟩ = some (.string vk') := (LY.out.cell 11).trans rfl
  have x12 : W2.cell? ⟨X, 12, none⟩ = some (.int .i64 vv) := (LX.out.cell 12).trans rfl
  have y12 : W2.cell? ⟨Y, 12, none⟩ = some (.int .i64 vv') := (LY.out.cell 12).trans rfl
  clear LX LY
  go_wp2_with fail
  go_ret
  exact ⟨rfl, hB.out⟩

set_option maxRecDepth 100000 in
set_option maxHeartbeats 4000000 in
theorem sameNo8 {W : World} {k o sk li vv vv' : Int} {n ke vn vk vk' ty ty' tt tt' la la' : ByteArray} {d : Bool} {sp spB : List PSpot} {co coB : List PCond} {it itB : List PItem} {pa paB : List PPair} {a1 a2 a3 a4 b1 b2 b3 b4 : Option Addr} {a5 a6 a7 a8 b5 b6 b7 b8 : Nat}
    (e : (vk.toList == vk'.toList) = false) :
    Calls Tryz.prog 55 #[.agg #[.int .i64 k, .slice a1 sp.length a5, .slice a2 co.length a6, .slice a3 it.length a7, .int .i64 o, .bool d, .int .i64 sk, .int .i64 li, .string n, .string ke, .string vn, .string vk, .int .i64 vv, .string ty, .string tt, .string la, .slice a4 pa.length a8], .agg #[.int .i64 k, .slice b1 spB.length b5, .slice b2 coB.length b6, .slice b3 itB.length b7, .int .i64 o, .bool d, .int .i64 sk, .int .i64 li, .string n, .string ke, .string vn, .string vk', .int .i64 vv', .string ty', .string tt', .string la', .slice b4 paB.length b8]] W fun e W' => e = .returned (.bool false) ∧ Below W.heap.size W W' := by
  have hB := Lib.hid (((Below.refl W.heap.size W).alloc (Nat.le_refl _) (.cells #[.int .i64 k, .slice a1 sp.length a5, .slice a2 co.length a6, .slice a3 it.length a7, .int .i64 o, .bool d, .int .i64 sk, .int .i64 li, .string n, .string ke, .string vn, .string vk, .int .i64 vv, .string ty, .string tt, .string la, .slice a4 pa.length a8] 29)).alloc (by rw [size_alloc]; omega) (.cells #[.int .i64 k, .slice b1 spB.length b5, .slice b2 coB.length b6, .slice b3 itB.length b7, .int .i64 o, .bool d, .int .i64 sk, .int .i64 li, .string n, .string ke, .string vn, .string vk', .int .i64 vv', .string ty', .string tt', .string la', .slice b4 paB.length b8] 29))
  have LX := (Loc.new W #[.int .i64 k, .slice a1 sp.length a5, .slice a2 co.length a6, .slice a3 it.length a7, .int .i64 o, .bool d, .int .i64 sk, .int .i64 li, .string n, .string ke, .string vn, .string vk, .int .i64 vv, .string ty, .string tt, .string la, .slice a4 pa.length a8] 29).alloc (.cells #[.int .i64 k, .slice b1 spB.length b5, .slice b2 coB.length b6, .slice b3 itB.length b7, .int .i64 o, .bool d, .int .i64 sk, .int .i64 li, .string n, .string ke, .string vn, .string vk', .int .i64 vv', .string ty', .string tt', .string la', .slice b4 paB.length b8] 29)
  have LY := Loc.new (W.alloc (.cells #[.int .i64 k, .slice a1 sp.length a5, .slice a2 co.length a6, .slice a3 it.length a7, .int .i64 o, .bool d, .int .i64 sk, .int .i64 li, .string n, .string ke, .string vn, .string vk, .int .i64 vv, .string ty, .string tt, .string la, .slice a4 pa.length a8] 29)) #[.int .i64 k, .slice b1 spB.length b5, .slice b2 coB.length b6, .slice b3 itB.length b7, .int .i64 o, .bool d, .int .i64 sk, .int .i64 li, .string n, .string ke, .string vn, .string vk', .int .i64 vv', .string ty', .string tt', .string la', .slice b4 paB.length b8] 29
  rw [size_alloc] at LY
  have LX := Lib.hid LX
  have LY := Lib.hid LY
  go_enter Tryz.func55, Tryz.ntmps55
  go_upto_region 1 with fail
  obtain ⟨X, hX⟩ : ∃ X, X = W.heap.size := ⟨_, rfl⟩
  obtain ⟨Y, hY⟩ : ∃ Y, Y = W.heap.size + 1 := ⟨_, rfl⟩
  rw [← hX] at LX
  rw [← hY] at LY
  rw [← hY, ← hX]
  clear hX hY
  generalize (W.alloc (.cells #[.int .i64 k, .slice a1 sp.length a5, .slice a2 co.length a6, .slice a3 it.length a7, .int .i64 o, .bool d, .int .i64 sk, .int .i64 li, .string n, .string ke, .string vn, .string vk, .int .i64 vv, .string ty, .string tt, .string la, .slice a4 pa.length a8] 29)).alloc (.cells #[.int .i64 k, .slice b1 spB.length b5, .slice b2 coB.length b6, .slice b3 itB.length b7, .int .i64 o, .bool d, .int .i64 sk, .int .i64 li, .string n, .string ke, .string vn, .string vk', .int .i64 vv', .string ty', .string tt', .string la', .slice b4 paB.length b8] 29) = W2 at *
  have x0 : W2.cell? ⟨X, 0, none⟩ = some (.int .i64 k) := (LX.out.cell 0).trans rfl
  have y0 : W2.cell? ⟨Y, 0, none⟩ = some (.int .i64 k) := (LY.out.cell 0).trans rfl
  have x4 : W2.cell? ⟨X, 4, none⟩ = some (.int .i64 o) := (LX.out.cell 4).trans rfl
  have y4 : W2.cell? ⟨Y, 4, none⟩ = some (.int .i64 o) := (LY.out.cell 4).trans rfl
  have x5 : W2.cell? ⟨X, 5, none⟩ = some (.bool d) := (LX.out.cell 5).trans rfl
  have y5 : W2.cell? ⟨Y, 5, none⟩ = some (.bool d) := (LY.out.cell 5).trans rfl
  have x6 : W2.cell? ⟨X, 6, none⟩ = some (.int .i64 sk) := (LX.out.cell 6).trans rfl
  have y6 : W2.cell? ⟨Y, 6, none⟩ = some (.int .i64 sk) := (LY.out.cell 6).trans rfl
  have x7 : W2.cell? ⟨X, 7, none⟩ = some (.int .i64 li) := (LX.out.cell 7).trans rfl
  have y7 : W2.cell? ⟨Y, 7, none⟩ = some (.int .i64 li) := (LY.out.cell 7).trans rfl
  have x8 : W2.cell? ⟨X, 8, none⟩ = some (.string n) := (LX.out.cell 8).trans rfl
  have y8 : W2.cell? ⟨Y, 8, none⟩ = some (.string n) := (LY.out.cell 8).trans rfl
  have x9 : W2.cell? ⟨X, 9, none⟩ = some (.string ke) := (LX.out.cell 9).trans rfl
  have y9 : W2.cell? ⟨Y, 9, none⟩ = some (.string ke) := (LY.out.cell 9).trans rfl
  have x10 : W2.cell? ⟨X, 10, none⟩ = some (.string vn) := (LX.out.cell 10).trans rfl
  have y10 : W2.cell? ⟨Y, 10, none⟩ = some (.string vn) := (LY.out.cell 10).trans rfl
  have x11 : W2.cell? ⟨X, 11, none⟩ = some (.string vk) := (LX.out.cell 11).trans rfl
  have y11 : W2.cell? ⟨Y, 11, none⟩ = some (.string vk') := (LY.out.cell 11).trans rfl
  have x12 : W2.cell? ⟨X, 12, none⟩ = some (.int .i64 vv) := (LX.out.cell 12).trans rfl
  have y12 : W2.cell? ⟨Y, 12, none⟩ = some (.int .i64 vv') := (LY.out.cell 12).trans rfl
  clear LX LY
  go_wp2_with fail
  go_ret
  exact ⟨rfl, hB.out⟩

set_option maxRecDepth 100000 in
set_option maxHeartbeats 4000000 in
theorem sameNo9 {W : World} {k o sk li vv vv' : Int} {n ke vn vk ty ty' tt tt' la la' : ByteArray} {d : Bool} {sp spB : List PSpot} {co coB : List PCond} {it itB : List PItem} {pa paB : List PPair} {a1 a2 a3 a4 b1 b2 b3 b4 : Option Addr} {a5 a6 a7 a8 b5 b6 b7 b8 : Nat}
    (e : (vv == vv') = false) :
    Calls Tryz.prog 55 #[.agg #[.int .i64 k, .slice a1 sp.length a5, .slice a2 co.length a6, .slice a3 it.length a7, .int .i64 o, .bool d, .int .i64 sk, .int .i64 li, .string n, .string ke, .string vn, .string vk, .int .i64 vv, .string ty, .string tt, .string la, .slice a4 pa.length a8], .agg #[.int .i64 k, .slice b1 spB.length b5, .slice b2 coB.length b6, .slice b3 itB.length b7, .int .i64 o, .bool d, .int .i64 sk, .int .i64 li, .string n, .string ke, .string vn, .string vk, .int .i64 vv', .string ty', .string tt', .string la', .slice b4 paB.length b8]] W fun e W' => e = .returned (.bool false) ∧ Below W.heap.size W W' := by
  have hB := Lib.hid (((Below.refl W.heap.size W).alloc (Nat.le_refl _) (.cells #[.int .i64 k, .slice a1 sp.length a5, .slice a2 co.length a6, .slice a3 it.length a7, .int .i64 o, .bool d, .int .i64 sk, .int .i64 li, .string n, .string ke, .string vn, .string vk, .int .i64 vv, .string ty, .string tt, .string la, .slice a4 pa.length a8] 29)).alloc (by rw [size_alloc]; omega) (.cells #[.int .i64 k, .slice b1 spB.length b5, .slice b2 coB.length b6, .slice b3 itB.length b7, .int .i64 o, .bool d, .int .i64 sk, .int .i64 li, .string n, .string ke, .string vn, .string vk, .int .i64 vv', .string ty', .string tt', .string la', .slice b4 paB.length b8] 29))
  have LX := (Loc.new W #[.int .i64 k, .slice a1 sp.length a5, .slice a2 co.length a6, .slice a3 it.length a7, .int .i64 o, .bool d, .int .i64 sk, .int .i64 li, .string n, .string ke, .string vn, .string vk, .int .i64 vv, .string ty, .string tt, .string la, .slice a4 pa.length a8] 29).alloc (.cells #[.int .i64 k, .slice b1 spB.length b5, .slice b2 coB.length b6, .slice b3 itB.length b7, .int .i64 o, .bool d, .int .i64 sk, .int .i64 li, .string n, .string ke, .string vn, .string vk, .int .i64 vv', .string ty', .string tt', .string la', .slice b4 paB.length b8] 29)
  have LY := Loc.new (W.alloc (.cells #[.int .i64 k, .slice a1 sp.length a5, .slice a2 co.length a6, .slice a3 it.length a7, .int .i64 o, .bool d, .int .i64 sk, .int .i64 li, .string n, .string ke, .string vn, .string vk, .int .i64 vv, .string ty, .string tt, .string la, .slice a4 pa.length a8] 29)) #[.int .i64 k, .slice b1 spB.length b5, .slice b2 coB.length b6, .slice b3 itB.length b7, .int .i64 o, .bool d, .int .i64 sk, .int .i64 li, .string n, .string ke, .string vn, .string vk, .int .i64 vv', .string ty', .string tt', .string la', .slice b4 paB.length b8] 29
  rw [size_alloc] at LY
  have LX := Lib.hid LX
  have LY := Lib.hid LY
  go_enter Tryz.func55, Tryz.ntmps55
  go_upto_region 1 with fail
  obtain ⟨X, hX⟩ : ∃ X, X = W.heap.size := ⟨_, rfl⟩
  obtain ⟨Y, hY⟩ : ∃ Y, Y = W.heap.size + 1 := ⟨_, rfl⟩
  rw [← hX] at LX
  rw [← hY] at LY
  rw [← hY, ← hX]
  clear hX hY
  generalize (W.alloc (.cells #[.int .i64 k, .slice a1 sp.length a5, .slice a2 co.length a6, .slice a3 it.length a7, .int .i64 o, .bool d, .int .i64 sk, .int .i64 li, .string n, .string ke, .string vn, .string vk, .int .i64 vv, .string ty, .string tt, .string la, .slice a4 pa.length a8] 29)).alloc (.cells #[.int .i64 k, .slice b1 spB.length b5, .slice b2 coB.length b6, .slice b3 itB.length b7, .int .i64 o, .bool d, .int .i64 sk, .int .i64 li, .string n, .string ke, .string vn, .string vk, .int .i64 vv', .string ty', .string tt', .string la', .slice b4 paB.length b8] 29) = W2 at *
  have x0 : W2.cell? ⟨X, 0, none⟩ = some (.int .i64 k) := (LX.out.cell 0).trans rfl
  have y0 : W2.cell? ⟨Y, 0, none⟩ = some (.int .i64 k) := (LY.out.cell 0).trans rfl
  have x4 : W2.cell? ⟨X, 4, none⟩ = some (.int .i64 o) := (LX.out.cell 4).trans rfl
  have y4 : W2.cell? ⟨Y, 4, none⟩ = some (.int .i64 o) := (LY.out.cell 4).trans rfl
  have x5 : W2.cell? ⟨X, 5, none⟩ = some (.bool d) := (LX.out.cell 5).trans rfl
  have y5 : W2.cell? ⟨Y, 5, none⟩ = some (.bool d) := (LY.out.cell 5).trans rfl
  have x6 : W2.cell? ⟨X, 6, none⟩ = some (.int .i64 sk) := (LX.out.cell 6).trans rfl
  have y6 : W2.cell? ⟨Y, 6, none⟩ = some (.int .i64 sk) := (LY.out.cell 6).trans rfl
  have x7 : W2.cell? ⟨X, 7, none⟩ = some (.int .i64 li) := (LX.out.cell 7).trans rfl
  have y7 : W2.cell? ⟨Y, 7, none⟩ = some (.int .i64 li) := (LY.out.cell 7).trans rfl
  have x8 : W2.cell? ⟨X, 8, none⟩ = some (.string n) := (LX.out.cell 8).trans rfl
  have y8 : W2.cell? ⟨Y, 8, none⟩ = some (.string n) := (LY.out.cell 8).trans rfl
  have x9 : W2.cell? ⟨X, 9, none⟩ = some (.string ke) := (LX.out.cell 9).trans rfl
  have y9 : W2.cell? ⟨Y, 9, none⟩ = some (.string ke) := (LY.out.cell 9).trans rfl
  have x10 : W2.cell? ⟨X, 10, none⟩ = some (.string vn) := (LX.out.cell 10).trans rfl
  have y10 : W2.cell? ⟨Y, 10, none⟩ = some (.string vn) := (LY.out.cell 10).trans rfl
  have x11 : W2.cell? ⟨X, 11, none⟩ = some (.string vk) := (LX.out.cell 11).trans rfl
  have y11 : W2.cell? ⟨Y, 11, none⟩ = some (.string vk) := (LY.out.cell 11).trans rfl
  have x12 : W2.cell? ⟨X, 12, none⟩ = some (.int .i64 vv) := (LX.out.cell 12).trans rfl
  have y12 : W2.cell? ⟨Y, 12, none⟩ = some (.int .i64 vv') := (LY.out.cell 12).trans rfl
  clear LX LY
  go_wp2_with fail
  go_ret
  exact ⟨rfl, hB.out⟩

end Go.Proofs.YtobgbmfpicmpcaaGreatDoor

/- The program's same: what is left parts. -/
namespace Go.Proofs.YtobgbmfpicmpcaaGreatDoor
open Go.RowKit

set_option maxRecDepth 100000 in
set_option maxHeartbeats 4000000 in
theorem sameNo10 {W : World} {k o sk li vv : Int} {n ke vn vk ty ty' tt tt' la la' : ByteArray} {d : Bool} {sp spB : List PSpot} {co coB : List PCond} {it itB : List PItem} {pa paB : List PPair} {a1 a2 a3 a4 b1 b2 b3 b4 : Option Addr} {a5 a6 a7 a8 b5 b6 b7 b8 : Nat}
    (e : (ty.toList == ty'.toList) = false) :
    Calls Tryz.prog 55 #[.agg #[.int .i64 k, .slice a1 sp.length a5, .slice a2 co.length a6, .slice a3 it.length a7, .int .i64 o, .bool d, .int .i64 sk, .int .i64 li, .string n, .string ke, .string vn, .string vk, .int .i64 vv, .string ty, .string tt, .string la, .slice a4 pa.length a8], .agg #[.int .i64 k, .slice b1 spB.length b5, .slice b2 coB.length b6, .slice b3 itB.length b7, .int .i64 o, .bool d, .int .i64 sk, .int .i64 li, .string n, .string ke, .string vn, .string vk, .int .i64 vv, .string ty', .string tt', .string la', .slice b4 paB.length b8]] W fun e W' => e = .returned (.bool false) ∧ Below W.heap.size W W' := by
  have hB := Lib.hid (((Below.refl W.heap.size W).alloc (Nat.le_refl _) (.cells #[.int .i64 k, .slice a1 sp.length a5, .slice a2 co.length a6, .slice a3 it.length a7, .int .i64 o, .bool d, .int .i64 sk, .int .i64 li, .string n, .string ke, .string vn, .string vk, .int .i64 vv, .string ty, .string tt, .string la, .slice a4 pa.length a8] 29)).alloc (by rw [size_alloc]; omega) (.cells #[.int .i64 k, .slice b1 spB.length b5, .slice b2 coB.length b6, .slice b3 itB.length b7, .int .i64 o, .bool d, .int .i64 sk, .int .i64 li, .string n, .string ke, .string vn, .string vk, .int .i64 vv, .string ty', .string tt', .string la', .slice b4 paB.length b8] 29))
  have LX := (Loc.new W #[.int .i64 k, .slice a1 sp.length a5, .slice a2 co.length a6, .slice a3 it.length a7, .int .i64 o, .bool d, .int .i64 sk, .int .i64 li, .string n, .string ke, .string vn, .string vk, .int .i64 vv, .string ty, .string tt, .string la, .slice a4 pa.length a8] 29).alloc (.cells #[.int .i64 k, .slice b1 spB.length b5, .slice b2 coB.length b6, .slice b3 itB.length b7, .int .i64 o, .bool d, .int .i64 sk, .int .i64 li, .string n, .string ke, .string vn, .string vk, .int .i64 vv, .string ty', .string tt', .string la', .slice b4 paB.length b8] 29)
  have LY := Loc.new (W.alloc (.cells #[.int .i64 k, .slice a1 sp.length a5, .slice a2 co.length a6, .slice a3 it.length a7, .int .i64 o, .bool d, .int .i64 sk, .int .i64 li, .string n, .string ke, .string vn, .string vk, .int .i64 vv, .string ty, .string tt, .string la, .slice a4 pa.length a8] 29)) #[.int .i64 k, .slice b1 spB.length b5, .slice b2 coB.length b6, .slice b3 itB.length b7, .int .i64 o, .bool d, .int .i64 sk, .int .i64 li, .string n, .string ke, .string vn, .string vk, .int .i64 vv, .string ty', .string tt', .string la', .slice b4 paB.length b8] 29
  rw [size_alloc] at LY
  have LX := Lib.hid LX
  have LY := Lib.hid LY
  go_enter Tryz.func55, Tryz.ntmps55
  go_upto_region 1 with fail
  obtain ⟨X, hX⟩ : ∃ X, X = W.heap.size := ⟨_, rfl⟩
  obtain ⟨Y, hY⟩ : ∃ Y, Y = W.heap.size + 1 := ⟨_, rfl⟩
  rw [← hX] at LX
  rw [← hY] at LY
  rw [← hY, ← hX]
  clear hX hY
  generalize (W.alloc (.cells #[.int .i64 k, .slice a1 sp.length a5, .slice a2 co.length a6, .slice a3 it.length a7, .int .i64 o, .bool d, .int .i64 sk, .int .i64 li, .string n, .string ke, .string vn, .string vk, .int .i64 vv, .string ty, .string tt, .string la, .slice a4 pa.length a8] 29)).alloc (.cells #[.int .i64 k, .slice b1 spB.length b5, .slice b2 coB.length b6, .slice b3 itB.length b7, .int .i64 o, .bool d, .int .i64 sk, .int .i64 li, .string n, .string ke, .string vn, .string vk, .int .i64 vv, .string ty', .string tt', .string la', .slice b4 paB.length b8] 29) = W2 at *
  have x0 : W2.cell? ⟨X, 0, none⟩ = some (.int .i64 k) := (LX.out.cell 0).trans rfl
  have y0 : W2.cell? ⟨Y, 0, none⟩ = some (.int .i64 k) := (LY.out.cell 0).trans rfl
  have x4 : W2.cell? ⟨X, 4, none⟩ = some (.int .i64 o) := (LX.out.cell 4).trans rfl
  have y4 : W2.cell? ⟨Y, 4, none⟩ = some (.int .i64 o) := (LY.out.cell 4).trans rfl
  have x5 : W2.cell? ⟨X, 5, none⟩ = some (.bool d) := (LX.out.cell 5).trans rfl
  have y5 : W2.cell? ⟨Y, 5, none⟩ = some (.bool d) := (LY.out.cell 5).trans rfl
  have x6 : W2.cell? ⟨X, 6, none⟩ = some (.int .i64 sk) := (LX.out.cell 6).trans rfl
  have y6 : W2.cell? ⟨Y, 6, none⟩ = some (.int .i64 sk) := (LY.out.cell 6).trans rfl
  have x7 : W2.cell? ⟨X, 7, none⟩ = some (.int .i64 li) := (LX.out.cell 7).trans rfl
  have y7 : W2.cell? ⟨Y, 7, none⟩ = some (.int .i64 li) := (LY.out.cell 7).trans rfl
  have x8 : W2.cell? ⟨X, 8, none⟩ = some (.string n) := (LX.out.cell 8).trans rfl
  have y8 : W2.cell? ⟨Y, 8, none⟩ = some (.string n) := (LY.out.cell 8).trans rfl
  have x9 : W2.cell? ⟨X, 9, none⟩ = some (.string ke) := (LX.out.cell 9).trans rfl
  have y9 : W2.cell? ⟨Y, 9, none⟩ = some (.string ke) := (LY.out.cell 9).trans rfl
  have x10 : W2.cell? ⟨X, 10, none⟩ = some (.string vn) := (LX.out.cell 10).trans rfl
  have y10 : W2.cell? ⟨Y, 10, none⟩ = some (.string vn) := (LY.out.cell 10).trans rfl
  have x11 : W2.cell? ⟨X, 11, none⟩ = some (.string vk) := (LX.out.cell 11).trans rfl
  have y11 : W2.cell? ⟨Y, 11, none⟩ = some (.string vk) := (LY.out.cell 11).trans rfl
  have x12 : W2.cell? ⟨X, 12, none⟩ = some (.int .i64 vv) := (LX.out.cell 12).trans rfl
  have y12 : W2.cell? ⟨Y, 12, none⟩ = some (.int .i64 vv) := (LY.out.cell 12).trans rfl
  have x13 : W2.cell? ⟨X, 13, none⟩ = some (.string ty) := (LX.out.cell 13).trans rfl
  have y13 : W2.cell? ⟨Y, 13, none⟩ = some (.string ty') := (LY.out.cell 13).trans rfl
  clear LX LY
  go_wp2_with fail
  go_ret
  exact ⟨rfl, hB.out⟩

set_option maxRecDepth 100000 in
set_option maxHeartbeats 4000000 in
theorem sameNo11 {W : World} {k o sk li vv : Int} {n ke vn vk ty tt tt' la la' : ByteArray} {d : Bool} {sp spB : List PSpot} {co coB : List PCond} {it itB : List PItem} {pa paB : List PPair} {a1 a2 a3 a4 b1 b2 b3 b4 : Option Addr} {a5 a6 a7 a8 b5 b6 b7 b8 : Nat}
    (e : (tt.toList == tt'.toList) = false) :
    Calls Tryz.prog 55 #[.agg #[.int .i64 k, .slice a1 sp.length a5, .slice a2 co.length a6, .slice a3 it.length a7, .int .i64 o, .bool d, .int .i64 sk, .int .i64 li, .string n, .string ke, .string vn, .string vk, .int .i64 vv, .string ty, .string tt, .string la, .slice a4 pa.length a8], .agg #[.int .i64 k, .slice b1 spB.length b5, .slice b2 coB.length b6, .slice b3 itB.length b7, .int .i64 o, .bool d, .int .i64 sk, .int .i64 li, .string n, .string ke, .string vn, .string vk, .int .i64 vv, .string ty, .string tt', .string la', .slice b4 paB.length b8]] W fun e W' => e = .returned (.bool false) ∧ Below W.heap.size W W' := by
  have hB := Lib.hid (((Below.refl W.heap.size W).alloc (Nat.le_refl _) (.cells #[.int .i64 k, .slice a1 sp.length a5, .slice a2 co.length a6, .slice a3 it.length a7, .int .i64 o, .bool d, .int .i64 sk, .int .i64 li, .string n, .string ke, .string vn, .string vk, .int .i64 vv, .string ty, .string tt, .string la, .slice a4 pa.length a8] 29)).alloc (by rw [size_alloc]; omega) (.cells #[.int .i64 k, .slice b1 spB.length b5, .slice b2 coB.length b6, .slice b3 itB.length b7, .int .i64 o, .bool d, .int .i64 sk, .int .i64 li, .string n, .string ke, .string vn, .string vk, .int .i64 vv, .string ty, .string tt', .string la', .slice b4 paB.length b8] 29))
  have LX := (Loc.new W #[.int .i64 k, .slice a1 sp.length a5, .slice a2 co.length a6, .slice a3 it.length a7, .int .i64 o, .bool d, .int .i64 sk, .int .i64 li, .string n, .string ke, .string vn, .string vk, .int .i64 vv, .string ty, .string tt, .string la, .slice a4 pa.length a8] 29).alloc (.cells #[.int .i64 k, .slice b1 spB.length b5, .slice b2 coB.length b6, .slice b3 itB.length b7, .int .i64 o, .bool d, .int .i64 sk, .int .i64 li, .string n, .string ke, .string vn, .string vk, .int .i64 vv, .string ty, .string tt', .string la', .slice b4 paB.length b8] 29)
  have LY := Loc.new (W.alloc (.cells #[.int .i64 k, .slice a1 sp.length a5, .slice a2 co.length a6, .slice a3 it.length a7, .int .i64 o, .bool d, .int .i64 sk, .int .i64 li, .string n, .string ke, .string vn, .string vk, .int .i64 vv, .string ty, .string tt, .string la, .slice a4 pa.length a8] 29)) #[.int .i64 k, .slice b1 spB.length b5, .slice b2 coB.length b6, .slice b3 itB.length b7, .int .i64 o, .bool d, .int .i64 sk, .int .i64 li, .string n, .string ke, .string vn, .string vk, .int .i64 vv, .string ty, .string tt', .string la', .slice b4 paB.length b8] 29
  rw [size_alloc] at LY
  have LX := Lib.hid LX
  have LY := Lib.hid LY
  go_enter Tryz.func55, Tryz.ntmps55
  go_upto_region 1 with fail
  obtain ⟨X, hX⟩ : ∃ X, X = W.heap.size := ⟨_, rfl⟩
  obtain ⟨Y, hY⟩ : ∃ Y, Y = W.heap.size + 1 := ⟨_, rfl⟩
  rw [← hX] at LX
  rw [← hY] at LY
  rw [← hY, ← hX]
  clear hX hY
  generalize (W.alloc (.cells #[.int .i64 k, .slice a1 sp.length a5, .slice a2 co.length a6, .slice a3 it.length a7, .int .i64 o, .bool d, .int .i64 sk, .int .i64 li, .string n, .string ke, .string vn, .string vk, .int .i64 vv, .string ty, .string tt, .string la, .slice a4 pa.length a8] 29)).alloc (.cells #[.int .i64 k, .slice b1 spB.length b5, .slice b2 coB.length b6, .slice b3 itB.length b7, .int .i64 o, .bool d, .int .i64 sk, .int .i64 li, .string n, .string ke, .string vn, .string vk, .int .i64 vv, .string ty, .string tt', .string la', .slice b4 paB.length b8] 29) = W2 at *
  have x0 : W2.cell? ⟨X, 0, none⟩ = some (.int .i64 k) := (LX.out.cell 0).trans rfl
  have y0 : W2.cell? ⟨Y, 0, none⟩ = some (.int .i64 k) := (LY.out.cell 0).trans rfl
  have x4 : W2.cell? ⟨X, 4, none⟩ = some (.int .i64 o) := (LX.out.cell 4).trans rfl
  have y4 : W2.cell? ⟨Y, 4, none⟩ = some (.int .i64 o) := (LY.out.cell 4).trans rfl
  have x5 : W2.cell? ⟨X, 5, none⟩ = some (.bool d) := (LX.out.cell 5).trans rfl
  have y5 : W2.cell? ⟨Y, 5, none⟩ = some (.bool d) := (LY.out.cell 5).trans rfl
  have x6 : W2.cell? ⟨X, 6, none⟩ = some (.int .i64 sk) := (LX.out.cell 6).trans rfl
  have y6 : W2.cell? ⟨Y, 6, none⟩ = some (.int .i64 sk) := (LY.out.cell 6).trans rfl
  have x7 : W2.cell? ⟨X, 7, none⟩ = some (.int .i64 li) := (LX.out.cell 7).trans rfl
  have y7 : W2.cell? ⟨Y, 7, none⟩ = some (.int .i64 li) := (LY.out.cell 7).trans rfl
  have x8 : W2.cell? ⟨X, 8, none⟩ = some (.string n) := (LX.out.cell 8).trans rfl
  have y8 : W2.cell? ⟨Y, 8, none⟩ = some (.string n) := (LY.out.cell 8).trans rfl
  have x9 : W2.cell? ⟨X, 9, none⟩ = some (.string ke) := (LX.out.cell 9).trans rfl
  have y9 : W2.cell? ⟨Y, 9, none⟩ = some (.string ke) := (LY.out.cell 9).trans rfl
  have x10 : W2.cell? ⟨X, 10, none⟩ = some (.string vn) := (LX.out.cell 10).trans rfl
  have y10 : W2.cell? ⟨Y, 10, none⟩ = some (.string vn) := (LY.out.cell 10).trans rfl
  have x11 : W2.cell? ⟨X, 11, none⟩ = some (.string vk) := (LX.out.cell 11).trans rfl
  have y11 : W2.cell? ⟨Y, 11, none⟩ = some (.string vk) := (LY.out.cell 11).trans rfl
  have x12 : W2.cell? ⟨X, 12, none⟩ = some (.int .i64 vv) := (LX.out.cell 12).trans rfl
  have y12 : W2.cell? ⟨Y, 12, none⟩ = some (.int .i64 vv) := (LY.out.cell 12).trans rfl
  have x13 : W2.cell? ⟨X, 13, none⟩ = some (.string ty) := (LX.out.cell 13).trans rfl
  have y13 : W2.cell? ⟨Y, 13, none⟩ = some (.string ty) := (LY.out.cell 13).trans rfl
  have x14 : W2.cell? ⟨X, 14, none⟩ = some (.string tt) := (LX.out.cell 14).trans rfl
  have y14 : W2.cell? ⟨Y, 14, none⟩ = some (.string tt') := (LY.out.cell 14).trans rfl
  clear LX LY
  go_wp2_with fail
  go_ret
  exact ⟨rfl, hB.out⟩

set_option maxRecDepth 100000 in
set_option maxHeartbeats 4000000 in
theorem sameNo12 {W : World} {k o sk li vv : Int} {n ke vn vk ty tt la la' : ByteArray} {d : Bool} {sp spB : List PSpot} {co coB : List PCond} {it itB : List PItem} {pa paB : List PPair} {a1 a2 a3 a4 b1 b2 b3 b4 : Option Addr} {a5 a6 a7 a8 b5 b6 b7 b8 : Nat}
    (e : (la.toList == la'.toList) = false) :
    Calls Tryz.prog 55 #[.agg #[.int .i64 k, .slice a1 sp.length a5, .slice a2 co.length a6, .slice a3 it.length a7, .int .i64 o, .bool d, .int .i64 sk, .int .i64 li, .string n, .string ke, .string vn, .string vk, .int .i64 vv, .string ty, .string tt, .string la, .slice a4 pa.length a8], .agg #[.int .i64 k, .slice b1 spB.length b5, .slice b2 coB.length b6, .slice b3 itB.length b7, .int .i64 o, .bool d, .int .i64 sk, .int .i64 li, .string n, .string ke, .string vn, .string vk, .int .i64 vv, .string ty, .string tt, .string la', .slice b4 paB.length b8]] W fun e W' => e = .returned (.bool false) ∧ Below W.heap.size W W' := by
  have hB := Lib.hid (((Below.refl W.heap.size W).alloc (Nat.le_refl _) (.cells #[.int .i64 k, .slice a1 sp.length a5, .slice a2 co.length a6, .slice a3 it.length a7, .int .i64 o, .bool d, .int .i64 sk, .int .i64 li, .string n, .string ke, .string vn, .string vk, .int .i64 vv, .string ty, .string tt, .string la, .slice a4 pa.length a8] 29)).alloc (by rw [size_alloc]; omega) (.cells #[.int .i64 k, .slice b1 spB.length b5, .slice b2 coB.length b6, .slice b3 itB.length b7, .int .i64 o, .bool d, .int .i64 sk, .int .i64 li, .string n, .string ke, .string vn, .string vk, .int .i64 vv, .string ty, .string tt, .string la', .slice b4 paB.length b8] 29))
  have LX := (Loc.new W #[.int .i64 k, .slice a1 sp.length a5, .slice a2 co.length a6, .slice a3 it.length a7, .int .i64 o, .bool d, .int .i64 sk, .int .i64 li, .string n, .string ke, .string vn, .string vk, .int .i64 vv, .string ty, .string tt, .string la, .slice a4 pa.length a8] 29).alloc (.cells #[.int .i64 k, .slice b1 spB.length b5, .slice b2 coB.length b6, .slice b3 itB.length b7, .int .i64 o, .bool d, .int .i64 sk, .int .i64 li, .string n, .string ke, .string vn, .string vk, .int .i64 vv, .string ty, .string tt, .string la', .slice b4 paB.length b8] 29)
  have LY := Loc.new (W.alloc (.cells #[.int .i64 k, .slice a1 sp.length a5, .slice a2 co.length a6, .slice a3 it.length a7, .int .i64 o, .bool d, .int .i64 sk, .int .i64 li, .string n, .string ke, .string vn, .string vk, .int .i64 vv, .string ty, .string tt, .string la, .slice a4 pa.length a8] 29)) #[.int .i64 k, .slice b1 spB.length b5, .slice b2 coB.length b6, .slice b3 itB.length b7, .int .i64 o, .bool d, .int .i64 sk, .int .i64 li, .string n, .string ke, .string vn, .string vk, .int .i64 vv, .string ty, .string tt, .string la', .slice b4 paB.length b8] 29
  rw [size_alloc] at LY
  have LX := Lib.hid LX
  have LY := Lib.hid LY
  go_enter Tryz.func55, Tryz.ntmps55
  go_upto_region 1 with fail
  obtain ⟨X, hX⟩ : ∃ X, X = W.heap.size := ⟨_, rfl⟩
  obtain ⟨Y, hY⟩ : ∃ Y, Y = W.heap.size + 1 := ⟨_, rfl⟩
  rw [← hX] at LX
  rw [← hY] at LY
  rw [← hY, ← hX]
  clear hX hY
  generalize (W.alloc (.cells #[.int .i64 k, .slice a1 sp.length a5, .slice a2 co.length a6, .slice a3 it.length a7, .int .i64 o, .bool d, .int .i64 sk, .int .i64 li, .string n, .string ke, .string vn, .string vk, .int .i64 vv, .string ty, .string tt, .string la, .slice a4 pa.length a8] 29)).alloc (.cells #[.int .i64 k, .slice b1 spB.length b5, .slice b2 coB.length b6, .slice b3 itB.length b7, .int .i64 o, .bool d, .int .i64 sk, .int .i64 li, .string n, .string ke, .string vn, .string vk, .int .i64 vv, .string ty, .string tt, .string la', .slice b4 paB.length b8] 29) = W2 at *
  have x0 : W2.cell? ⟨X, 0, none⟩ = some (.int .i64 k) := (LX.out.cell 0).trans rfl
  have y0 : W2.cell? ⟨Y, 0, none⟩ = some (.int .i64 k) := (LY.out.cell 0).trans rfl
  have x4 : W2.cell? ⟨X, 4, none⟩ = some (.int .i64 o) := (LX.out.cell 4).trans rfl
  have y4 : W2.cell? ⟨Y, 4, none⟩ = some (.int .i64 o) := (LY.out.cell 4).trans rfl
  have x5 : W2.cell? ⟨X, 5, none⟩ = some (.bool d) := (LX.out.cell 5).trans rfl
  have y5 : W2.cell? ⟨Y, 5, none⟩ = some (.bool d) := (LY.out.cell 5).trans rfl
  have x6 : W2.cell? ⟨X, 6, none⟩ = some (.int .i64 sk) := (LX.out.cell 6).trans rfl
  have y6 : W2.cell? ⟨Y, 6, none⟩ = some (.int .i64 sk) := (LY.out.cell 6).trans rfl
  have x7 : W2.cell? ⟨X, 7, none⟩ = some (.int .i64 li) := (LX.out.cell 7).trans rfl
  have y7 : W2.cell? ⟨Y, 7, none⟩ = some (.int .i64 li) := (LY.out.cell 7).trans rfl
  have x8 : W2.cell? ⟨X, 8, none⟩ = some (.string n) := (LX.out.cell 8).trans rfl
  have y8 : W2.cell? ⟨Y, 8, none⟩ = some (.string n) := (LY.out.cell 8).trans rfl
  have x9 : W2.cell? ⟨X, 9, none⟩ = some (.string ke) := (LX.out.cell 9).trans rfl
  have y9 : W2.cell? ⟨Y, 9, none⟩ = some (.string ke) := (LY.out.cell 9).trans rfl
  have x10 : W2.cell? ⟨X, 10, none⟩ = some (.string vn) := (LX.out.cell 10).trans rfl
  have y10 : W2.cell? ⟨Y, 10, none⟩ = some (.string vn) := (LY.out.cell 10).trans rfl
  have x11 : W2.cell? ⟨X, 11, none⟩ = some (.string vk) := (LX.out.cell 11).trans rfl
  have y11 : W2.cell? ⟨Y, 11, none⟩ = some (.string vk) := (LY.out.cell 11).trans rfl
  have x12 : W2.cell? ⟨X, 12, none⟩ = some (.int .i64 vv) := (LX.out.cell 12).trans rfl
  have y12 : W2.cell? ⟨Y, 12, none⟩ = some (.int .i64 vv) := (LY.out.cell 12).trans rfl
  have x13 : W2.cell? ⟨X, 13, none⟩ = some (.string ty) := (LX.out.cell 13).trans rfl
  have y13 : W2.cell? ⟨Y, 13, none⟩ = some (.string ty) := (LY.out.cell 13).trans rfl
  have x14 : W2.cell? ⟨X, 14, none⟩ = some (.string tt) := (LX.out.cell 14).trans rfl
  have y14 : W2.cell? ⟨Y, 14, none⟩ = some (.string tt) := (LY.out.cell 14).trans rfl
  have x15 : W2.cell? ⟨X, 15, none⟩ = some (.string la) := (LX.out.cell 15).trans rfl
  have y15 : W2.cell? ⟨Y, 15, none⟩ = some (.string la') := (LY.out.cell 15).trans rfl
  clear LX LY
  go_wp2_with fail
  go_ret
  exact ⟨rfl, hB.out⟩

set_option maxRecDepth 100000 in
set_option maxHeartbeats 4000000 in
theorem sameLNo0 {W : World} {k o sk li vv : Int} {n ke vn vk ty tt la : ByteArray} {d : Bool} {sp spB : List PSpot} {co coB : List PCond} {it itB : List PItem} {pa paB : List PPair} {a1 a2 a3 a4 b1 b2 b3 b4 : Option Addr} {a5 a6 a7 a8 b5 b6 b7 b8 : Nat}
    (s1 : Sees W 5 (.slice a1 sp.length a5) sp.length (spotCells sp)) (t1 : Sees W 5 (.slice b1 spB.length b5) spB.length (spotCells spB)) (m1 : spB.length ≤ 3000) (q1 : eqL eqSpot sp spB = false)  :
    Calls Tryz.prog 55 #[.agg #[.int .i64 k, .slice a1 sp.length a5, .slice a2 co.length a6, .slice a3 it.length a7, .int .i64 o, .bool d, .int .i64 sk, .int .i64 li, .string n, .string ke, .string vn, .string vk, .int .i64 vv, .string ty, .string tt, .string la, .slice a4 pa.length a8], .agg #[.int .i64 k, .slice b1 spB.length b5, .slice b2 coB.length b6, .slice b3 itB.length b7, .int .i64 o, .bool d, .int .i64 sk, .int .i64 li, .string n, .string ke, .string vn, .string vk, .int .i64 vv, .string ty, .string tt, .string la, .slice b4 paB.length b8]] W fun e W' => e = .returned (.bool false) ∧ Below W.heap.size W W' := by
  have hB := Lib.hid (((Below.refl W.heap.size W).alloc (Nat.le_refl _) (.cells #[.int .i64 k, .slice a1 sp.length a5, .slice a2 co.length a6, .slice a3 it.length a7, .int .i64 o, .bool d, .int .i64 sk, .int .i64 li, .string n, .string ke, .string vn, .string vk, .int .i64 vv, .string ty, .string tt, .string la, .slice a4 pa.length a8] 29)).alloc (by rw [size_alloc]; omega) (.cells #[.int .i64 k, .slice b1 spB.length b5, .slice b2 coB.length b6, .slice b3 itB.length b7, .int .i64 o, .bool d, .int .i64 sk, .int .i64 li, .string n, .string ke, .string vn, .string vk, .int .i64 vv, .string ty, .string tt, .string la, .slice b4 paB.length b8] 29))
  have S1 := Lib.hid (s1.below hB.out)
  have T1 := Lib.hid (t1.below hB.out)
  have Q1 := Lib.hid q1
  clear s1 t1 q1
  have LX := (Loc.new W #[.int .i64 k, .slice a1 sp.length a5, .slice a2 co.length a6, .slice a3 it.length a7, .int .i64 o, .bool d, .int .i64 sk, .int .i64 li, .string n, .string ke, .string vn, .string vk, .int .i64 vv, .string ty, .string tt, .string la, .slice a4 pa.length a8] 29).alloc (.cells #[.int .i64 k, .slice b1 spB.length b5, .slice b2 coB.length b6, .slice b3 itB.length b7, .int .i64 o, .bool d, .int .i64 sk, .int .i64 li, .string n, .string ke, .string vn, .string vk, .int .i64 vv, .string ty, .string tt, .string la, .slice b4 paB.length b8] 29)
  have LY := Loc.new (W.alloc (.cells #[.int .i64 k, .slice a1 sp.length a5, .slice a2 co.length a6, .slice a3 it.length a7, .int .i64 o, .bool d, .int .i64 sk, .int .i64 li, .string n, .string ke, .string vn, .string vk, .int .i64 vv, .string ty, .string tt, .string la, .slice a4 pa.length a8] 29)) #[.int .i64 k, .slice b1 spB.length b5, .slice b2 coB.length b6, .slice b3 itB.length b7, .int .i64 o, .bool d, .int .i64 sk, .int .i64 li, .string n, .string ke, .string vn, .string vk, .int .i64 vv, .string ty, .string tt, .string la, .slice b4 paB.length b8] 29
  rw [size_alloc] at LY
  have LX := Lib.hid LX
  have LY := Lib.hid LY
  go_enter Tryz.func55, Tryz.ntmps55
  go_upto_region 1 with fail
  obtain ⟨X, hX⟩ : ∃ X, X = W.heap.size := ⟨_, rfl⟩
  obtain ⟨Y, hY⟩ : ∃ Y, Y = W.heap.size + 1 := ⟨_, rfl⟩
  rw [← hX] at LX
  rw [← hY] at LY
  rw [← hY, ← hX]
  clear hX hY
  generalize (W.alloc (.cells #[.int .i64 k, .slice a1 sp.length a5, .slice a2 co.length a6, .slice a3 it.length a7, .int .i64 o, .bool d, .int .i64 sk, .int .i64 li, .string n, .string ke, .string vn, .string vk, .int .i64 vv, .string ty, .string tt, .string la, .slice a4 pa.length a8] 29)).alloc (.cells #[.int .i64 k, .slice b1 spB.length b5, .slice b2 coB.length b6, .slice b3 itB.length b7, .int .i64 o, .bool d, .int .i64 sk, .int .i64 li, .string n, .string ke, .string vn, .string vk, .int .i64 vv, .string ty, .string tt, .string la, .slice b4 paB.length b8] 29) = W2 at *
  have x0 : W2.cell? ⟨X, 0, none⟩ = some (.int .i64 k) := (LX.out.cell 0).trans rfl
  have y0 : W2.cell? ⟨Y, 0, none⟩ = some (.int .i64 k) := (LY.out.cell 0).trans rfl
  have x4 : W2.cell? ⟨X, 4, none⟩ = some (.int .i64 o) := (LX.out.cell 4).trans rfl
  have y4 : W2.cell? ⟨Y, 4, none⟩ = some (.int .i64 o) := (LY.out.cell 4).trans rfl
  have x5 : W2.cell? ⟨X, 5, none⟩ = some (.bool d) := (LX.out.cell 5).trans rfl
  have y5 : W2.cell? ⟨Y, 5, none⟩ = some (.bool d) := (LY.out.cell 5).trans rfl
  have x6 : W2.cell? ⟨X, 6, none⟩ = some (.int .i64 sk) := (LX.out.cell 6).trans rfl
  have y6 : W2.cell? ⟨Y, 6, none⟩ = some (.int .i64 sk) := (LY.out.cell 6).trans rfl
  have x7 : W2.cell? ⟨X, 7, none⟩ = some (.int .i64 li) := (LX.out.cell 7).trans rfl
  have y7 : W2.cell? ⟨Y, 7, none⟩ = some (.int .i64 li) := (LY.out.cell 7).trans rfl
  have x8 : W2.cell? ⟨X, 8, none⟩ = some (.string n) := (LX.out.cell 8).trans rfl
  have y8 : W2.cell? ⟨Y, 8, none⟩ = some (.string n) := (LY.out.cell 8).trans rfl
  have x9 : W2.cell? ⟨X, 9, none⟩ = some (.string ke) := (LX.out.cell 9).trans rfl
  have y9 : W2.cell? ⟨Y, 9, none⟩ = some (.string ke) := (LY.out.cell 9).trans rfl
  have x10 : W2.cell? ⟨X, 10, none⟩ = some (.string vn) := (LX.out.cell 10).trans rfl
  have y10 : W2.cell? ⟨Y, 10, none⟩ = some (.string vn) := (LY.out.cell 10).trans rfl
  have x11 : W2.cell? ⟨X, 11, none⟩ = some (.string vk) := (LX.out.cell 11).trans rfl
  have y11 : W2.cell? ⟨Y, 11, none⟩ = some (.string vk) := (LY.out.cell 11).trans rfl
  have x12 : W2.cell? ⟨X, 12, none⟩ = some (.int .i64 vv) := (LX.out.cell 12).trans rfl
  have y12 : W2.cell? ⟨Y, 12, none⟩ = some (.int .i64 vv) := (LY.out.cell 12).trans rfl
  have x13 : W2.cell? ⟨X, 13, none⟩ = some (.string ty) := (LX.out.cell 13).trans rfl
  have y13 : W2.cell? ⟨Y, 13, none⟩ = some (.string ty) := (LY.out.cell 13).trans rfl
  have x14 : W2.cell? ⟨X, 14, none⟩ = some (.string tt) := (LX.out.cell 14).trans rfl
  have y14 : W2.cell? ⟨Y, 14, none⟩ = some (.string tt) := (LY.out.cell 14).trans rfl
  have x15 : W2.cell? ⟨X, 15, none⟩ = some (.string la) := (LX.out.cell 15).trans rfl
  have y15 : W2.cell? ⟨Y, 15, none⟩ = some (.string la) := (LY.out.cell 15).trans rfl
  have x1 : W2.cell? ⟨X, 1, none⟩ = some (.slice a1 sp.length a5) := (LX.out.cell 1).trans rfl
  have y1 : W2.cell? ⟨Y, 1, none⟩ = some (.slice b1 spB.length b5) := (LY.out.cell 1).trans rfl
  clear LX LY
  go_wp2_with fail
  refine (eqSpots S1.out T1.out m1).mono ?_
  rw [Q1.out]
  rintro e w1 ⟨rfl, d1, rfl⟩
  go_wp2_with fail
  go_ret
  exact ⟨rfl, (hB.out.trans (Joins.below_draws _ _ (d1)))⟩

end Go.Proofs.YtobgbmfpicmpcaaGreatDoor

