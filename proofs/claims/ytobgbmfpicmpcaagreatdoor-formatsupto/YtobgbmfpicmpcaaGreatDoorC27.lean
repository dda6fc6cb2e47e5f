/- The program's same: two queries that part in their lists alone. -/
import Derived.Test.YtobgbmfpicmpcaaGreatDoorC26
import Derived.Test.YtobgbmfpicmpcaaGreatDoorC25
import Derived.Test.YtobgbmfpicmpcaaGreatDoorC14
import Derived.Test.YtobgbmfpicmpcaaGreatDoorC21
import Derived.Test.YtobgbmfpicmpcaaGreatDoorC02
import Derived.Deep.AppendLies
import Derived.Laws.OwnMore
import Derived.Test.YtobgbmfpicmpcaaGreatDoorC11
import Derived.Laws.IdiomStrings
namespace Go.Proofs.YtobgbmfpicmpcaaGreatDoor
open Go.RowKit
set_option maxRecDepth 100000 in
set_option maxHeartbeats 9000000 in
theorem sameLists {W:World} {kd od sk li vv:Int} {nm ke vn vk ty tt la:ByteArray} {dn:Bool} {sp spB:List PSpot} {co coB:List PCond} {it itB:List PItem} {pa paB:List PPair} {a1 a2 a3 a4 b1 b2 b3 b4:Option Addr} {k1 k2 k3 k4 l1 l2 l3 l4:Nat}
  (ha:QSees W ⟨kd,sp,co,it,od,dn,sk,li,nm,ke,⟨vn,vk,vv⟩,ty,tt,la,pa⟩ (.slice a1 sp.length k1) (.slice a2 co.length k2) (.slice a3 it.length k3) (.slice a4 pa.length k4)) (hb:QSees W ⟨kd,spB,coB,itB,od,dn,sk,li,nm,ke,⟨vn,vk,vv⟩,ty,tt,la,paB⟩ (.slice b1 spB.length l1) (.slice b2 coB.length l2) (.slice b3 itB.length l3) (.slice b4 paB.length l4)) (m1:spB.length≤3000) (m2:coB.length≤3000) (m3:itB.length≤3000) (m4:paB.length≤3000):
  Calls Tryz.prog 55 #[.agg (qC ⟨kd,sp,co,it,od,dn,sk,li,nm,ke,⟨vn,vk,vv⟩,ty,tt,la,pa⟩ (.slice a1 sp.length k1) (.slice a2 co.length k2) (.slice a3 it.length k3) (.slice a4 pa.length k4)),.agg (qC ⟨kd,spB,coB,itB,od,dn,sk,li,nm,ke,⟨vn,vk,vv⟩,ty,tt,la,paB⟩ (.slice b1 spB.length l1) (.slice b2 coB.length l2) (.slice b3 itB.length l3) (.slice b4 paB.length l4))] W fun e W'=>e=.returned (.bool (eqL eqSpot sp spB&&eqL eqCond co coB&&eqL eqItem it itB&&eqL eqPair pa paB))∧Below W.heap.size W W':=by
 have HSA:=Lib.hid ha
 have HSB:=Lib.hid hb
 clear ha hb
 have H0:Hid (Below W.heap.size W ((W.alloc (.cells (qC ⟨kd,sp,co,it,od,dn,sk,li,nm,ke,⟨vn,vk,vv⟩,ty,tt,la,pa⟩ (.slice a1 sp.length k1) (.slice a2 co.length k2) (.slice a3 it.length k3) (.slice a4 pa.length k4)) 29)).alloc (.cells (qC ⟨kd,spB,coB,itB,od,dn,sk,li,nm,ke,⟨vn,vk,vv⟩,ty,tt,la,paB⟩ (.slice b1 spB.length l1) (.slice b2 coB.length l2) (.slice b3 itB.length l3) (.slice b4 paB.length l4)) 29))∧Loc ((W.alloc (.cells (qC ⟨kd,sp,co,it,od,dn,sk,li,nm,ke,⟨vn,vk,vv⟩,ty,tt,la,pa⟩ (.slice a1 sp.length k1) (.slice a2 co.length k2) (.slice a3 it.length k3) (.slice a4 pa.length k4)) 29)).alloc (.cells (qC ⟨kd,spB,coB,itB,od,dn,sk,li,nm,ke,⟨vn,vk,vv⟩,ty,tt,la,paB⟩ (.slice b1 spB.length l1) (.slice b2 coB.length l2) (.slice b3 itB.length l3) (.slice b4 paB.length l4)) 29)) W.heap.size (qC ⟨kd,sp,co,it,od,dn,sk,li,nm,ke,⟨vn,vk,vv⟩,ty,tt,la,pa⟩ (.slice a1 sp.length k1) (.slice a2 co.length k2) (.slice a3 it.length k3) (.slice a4 pa.length k4)) 29∧Loc ((W.alloc (.cells (qC ⟨kd,sp,co,it,od,dn,sk,li,nm,ke,⟨vn,vk,vv⟩,ty,tt,la,pa⟩ (.slice a1 sp.length k1) (.slice a2 co.length k2) (.slice a3 it.length k3) (.slice a4 pa.length k4)) 29)).alloc (.cells (qC ⟨kd,spB,coB,itB,od,dn,sk,li,nm,ke,⟨vn,vk,vv⟩,ty,tt,la,paB⟩ (.slice b1 spB.length l1) (.slice b2 coB.length l2) (.slice b3 itB.length l3) (.slice b4 paB.length l4)) 29)) (W.heap.size+1) (qC ⟨kd,spB,coB,itB,od,dn,sk,li,nm,ke,⟨vn,vk,vv⟩,ty,tt,la,paB⟩ (.slice b1 spB.length l1) (.slice b2 coB.length l2) (.slice b3 itB.length l3) (.slice b4 paB.length l4)) 29):=by
  have hs:=size_alloc W (.cells (qC ⟨kd,sp,co,it,od,dn,sk,li,nm,ke,⟨vn,vk,vv⟩,ty,tt,la,pa⟩ (.slice a1 sp.length k1) (.slice a2 co.length k2) (.slice a3 it.length k3) (.slice a4 pa.length k4)) 29)
  refine⟨Below.alloc (Below.alloc (Below.refl _ _) (Nat.le_refl _) _) (by omega) _,(Loc.new W _ _).alloc _,?_⟩
  rw[←hs];exact Loc.new _ _ _
 go_enter Tryz.func55,Tryz.ntmps55
 go_upto_region 1 with fail
 have HB:=Lib.hid H0.out.1
 have LX:=Lib.hid H0.out.2.1
 have LY:=Lib.hid H0.out.2.2
 clear H0
 obtain⟨X,hX⟩:∃X,X=W.heap.size:=⟨_,rfl⟩
 obtain⟨Y,hY⟩:∃Y,Y=W.heap.size+1:=⟨_,rfl⟩
 rw[←hX] at LX
 rw[←hY] at LY
 rw[←hY,←hX]
 clear hX hY
 generalize (W.alloc (.cells (qC ⟨kd,sp,co,it,od,dn,sk,li,nm,ke,⟨vn,vk,vv⟩,ty,tt,la,pa⟩ (.slice a1 sp.length k1) (.slice a2 co.length k2) (.slice a3 it.length k3) (.slice a4 pa.length k4)) 29)).alloc (.cells (qC ⟨kd,spB,coB,itB,od,dn,sk,li,nm,ke,⟨vn,vk,vv⟩,ty,tt,la,paB⟩ (.slice b1 spB.length l1) (.slice b2 coB.length l2) (.slice b3 itB.length l3) (.slice b4 paB.length l4)) 29)=W2 at HB LX LY⊢
 have x0:=LX.out.at_ 0 (.int .i64 kd) rfl
 have y0:=LY.out.at_ 0 (.int .i64 kd) rfl
 have x4:=LX.out.at_ 4 (.int .i64 od) rfl
 have y4:=LY.out.at_ 4 (.int .i64 od) rfl
 have x5:=LX.out.at_ 5 (.bool dn) rfl
 have y5:=LY.out.at_ 5 (.bool dn) rfl
 have x6:=LX.out.at_ 6 (.int .i64 sk) rfl
 have y6:=LY.out.at_ 6 (.int .i64 sk) rfl
 have x7:=LX.out.at_ 7 (.int .i64 li) rfl
 have y7:=LY.out.at_ 7 (.int .i64 li) rfl
 have x8:=LX.out.at_ 8 (.string nm) rfl
 have y8:=LY.out.at_ 8 (.string nm) rfl
 have x9:=LX.out.at_ 9 (.string ke) rfl
 have y9:=LY.out.at_ 9 (.string ke) rfl
 have x10:=LX.out.at_ 10 (.string vn) rfl
 have y10:=LY.out.at_ 10 (.string vn) rfl
 have x11:=LX.out.at_ 11 (.string vk) rfl
 have y11:=LY.out.at_ 11 (.string vk) rfl
 have x12:=LX.out.at_ 12 (.int .i64 vv) rfl
 have y12:=LY.out.at_ 12 (.int .i64 vv) rfl
 have x13:=LX.out.at_ 13 (.string ty) rfl
 have y13:=LY.out.at_ 13 (.string ty) rfl
 have x14:=LX.out.at_ 14 (.string tt) rfl
 have y14:=LY.out.at_ 14 (.string tt) rfl
 have x15:=LX.out.at_ 15 (.string la) rfl
 have y15:=LY.out.at_ 15 (.string la) rfl
 have x1:=LX.out.at_ 1 (.slice a1 sp.length k1) rfl
 have y1:=LY.out.at_ 1 (.slice b1 spB.length l1) rfl
 have x2:=LX.out.at_ 2 (.slice a2 co.length k2) rfl
 have y2:=LY.out.at_ 2 (.slice b2 coB.length l2) rfl
 have x3:=LX.out.at_ 3 (.slice a3 it.length k3) rfl
 have y3:=LY.out.at_ 3 (.slice b3 itB.length l3) rfl
 have x16:=LX.out.at_ 16 (.slice a4 pa.length k4) rfl
 have y16:=LY.out.at_ 16 (.slice b4 paB.length l4) rfl
 clear LX LY
 have S:=Lib.hid (HSA.out.below HB.out)
 have R:=Lib.hid (HSB.out.below HB.out)
 clear HSA HSB
 go_wp2_with fail
 refine(eqSpots S.out.rs R.out.rs m1).mono ?_
 rintro e w1 ⟨rfl,d1,rfl⟩
 obtain⟨z1,hz1⟩:∃z,z=eqL eqSpot sp spB:=⟨_,rfl⟩
 have Z1:=Lib.hid hz1
 rw[←hz1]
 clear hz1
 cases z1 with
 | false=>
  go_wp2_with fail
  go_ret
  exact⟨by simp[←Z1.out],HB.out.trans (Joins.below_draws _ _ d1)⟩
 | true=>
  go_wp2_with fail
  refine(eqConds (S.out.rc.drew d1) (R.out.rc.drew d1) m2).mono ?_
  rintro e w2 ⟨rfl,d2,rfl⟩
  obtain⟨z2,hz2⟩:∃z,z=eqL eqCond co coB:=⟨_,rfl⟩
  have Z2:=Lib.hid hz2
  rw[←hz2]
  clear hz2
  cases z2 with
  | false=>
   go_wp2_with fail
   go_ret
   exact⟨by simp[←Z1.out,←Z2.out],HB.out.trans (Joins.below_draws _ _ (d1+d2))⟩
  | true=>
   go_wp2_with fail
   refine(eqItems (S.out.rt.drew (d1+d2)) (R.out.rt.drew (d1+d2)) m3).mono ?_
   rintro e w3 ⟨rfl,d3,rfl⟩
   obtain⟨z3,hz3⟩:∃z,z=eqL eqItem it itB:=⟨_,rfl⟩
   have Z3:=Lib.hid hz3
   rw[←hz3]
   clear hz3
   cases z3 with
   | false=>
    go_wp2_with fail
    go_ret
    exact⟨by simp[←Z1.out,←Z2.out,←Z3.out],HB.out.trans (Joins.below_draws _ _ (d1+d2+d3))⟩
   | true=>
    go_wp2_with fail
    refine(eqPairs (S.out.rp.drew (d1+d2+d3)) (R.out.rp.drew (d1+d2+d3)) m4).mono ?_
    rintro e w4 ⟨rfl,d4,rfl⟩
    obtain⟨z4,hz4⟩:∃z,z=eqL eqPair pa paB:=⟨_,rfl⟩
    have Z4:=Lib.hid hz4
    rw[←hz4]
    clear hz4
    cases z4 with
    | false=>
     go_wp2_with fail
     go_ret
     exact⟨by simp[←Z1.out,←Z2.out,←Z3.out,←Z4.out],HB.out.trans (Joins.below_draws _ _ (d1+d2+d3+d4))⟩
    | true=>
     go_wp2_with fail
     go_ret
     exact⟨by simp[←Z1.out,←Z2.out,←Z3.out,←Z4.out],HB.out.trans (Joins.below_draws _ _ (d1+d2+d3+d4))⟩
end Go.Proofs.YtobgbmfpicmpcaaGreatDoor

/- The program's same, joined; hasTooMany. -/
namespace Go.Proofs.YtobgbmfpicmpcaaGreatDoor
open Go.RowKit
theorem same_ {W:World} {a b:PQuery} {vs vc vi vp us uc ui up:Value} (ha:QSees W a vs vc vi vp) (hb:QSees W b us uc ui up) (n1:b.spots.length≤3000) (n2:b.conds.length≤3000) (n3:b.items.length≤3000) (n4:b.pairs.length≤3000):
  Calls Tryz.prog 55 #[.agg (qC a vs vc vi vp),.agg (qC b us uc ui up)] W fun e W'=>e=.returned (.bool (eqQ a b))∧Below W.heap.size W W':=by
 obtain⟨a1,a5,rfl,_⟩:=sees_slice (l:=a.spots) ha.rs
 obtain⟨a2,a6,rfl,_⟩:=sees_slice (l:=a.conds) ha.rc
 obtain⟨a3,a7,rfl,_⟩:=sees_slice (l:=a.items) ha.rt
 obtain⟨a4,a8,rfl,_⟩:=sees_slice (l:=a.pairs) ha.rp
 obtain⟨b1,b5,rfl,_⟩:=sees_slice (l:=b.spots) hb.rs
 obtain⟨b2,b6,rfl,_⟩:=sees_slice (l:=b.conds) hb.rc
 obtain⟨b3,b7,rfl,_⟩:=sees_slice (l:=b.items) hb.rt
 obtain⟨b4,b8,rfl,_⟩:=sees_slice (l:=b.pairs) hb.rp
 cases hr:eqRest a b with
 | false=>
  rw[show eqQ a b=false by unfold eqQ;rw[hr];simp]
  exact sameScal hr
 | true=>
  rw[show eqQ a b=(eqL eqSpot a.spots b.spots&&eqL eqCond a.conds b.conds&&eqL eqItem a.items b.items&&eqL eqPair a.pairs b.pairs) by unfold eqQ;rw[hr];simp]
  obtain⟨kd,sp,co,it,od,dn,sk,li,nm,ke,⟨vn,vk,vv⟩,ty,tt,la,pa⟩:=a
  obtain⟨kd',spB,coB,itB,od',dn',sk',li',nm',ke',⟨vn',vk',vv'⟩,ty',tt',la',paB⟩:=b
  have h:=eqRest_all hr
  simp only at h
  obtain⟨rfl,rfl,rfl,rfl,rfl,rfl,rfl,rfl,rfl,rfl,rfl,rfl,rfl⟩:=h
  exact sameLists ha hb n1 n2 n3 n4
set_option maxRecDepth 100000 in
set_option maxHeartbeats 2000000 in
theorem many1 {W:World} {q:PQuery} {a1 a2 a3 a4:Option Addr} {c1 c2 c3 c4:Nat} (h1:6<(q.spots.length:Int)):
  Calls Tryz.prog 52 #[.agg (qC q (.slice a1 q.spots.length c1) (.slice a2 q.conds.length c2) (.slice a3 q.items.length c3) (.slice a4 q.pairs.length c4))] W fun e W'=>e=.returned (.bool true)∧Below W.heap.size W W':=by
 have HL:=Lib.hid (Loc.new W (qC q (.slice a1 q.spots.length c1) (.slice a2 q.conds.length c2) (.slice a3 q.items.length c3) (.slice a4 q.pairs.length c4)) 29)
 have HB:=Lib.hid ((Below.refl W.heap.size W).alloc (Nat.le_refl _) (.cells (qC q (.slice a1 q.spots.length c1) (.slice a2 q.conds.length c2) (.slice a3 q.items.length c3) (.slice a4 q.pairs.length c4)) 29))
 go_enter Tryz.func52,Tryz.ntmps52
 go_upto_region 1 with fail
 obtain⟨X,hX⟩:∃X,X=W.heap.size:=⟨_,rfl⟩
 rw[←hX] at HL⊢
 clear hX
 generalize W.alloc (.cells (qC q (.slice a1 q.spots.length c1) (.slice a2 q.conds.length c2) (.slice a3 q.items.length c3) (.slice a4 q.pairs.length c4)) 29)=W1 at HL HB⊢
 have x1:=HL.out.at_ 1 (.slice a1 q.spots.length c1) rfl
 have x2:=HL.out.at_ 2 (.slice a2 q.conds.length c2) rfl
 have x3:=HL.out.at_ 3 (.slice a3 q.items.length c3) rfl
 have x4:=HL.out.at_ 16 (.slice a4 q.pairs.length c4) rfl
 go_wp2_with fail
 go_ret
 exact⟨rfl,HB.out⟩
set_option maxRecDepth 100000 in
set_option maxHeartbeats 2000000 in
theorem many2 {W:World} {q:PQuery} {a1 a2 a3 a4:Option Addr} {c1 c2 c3 c4:Nat} (h1:¬6<(q.spots.length:Int)) (h2:6<(q.conds.length:Int)):
  Calls Tryz.prog 52 #[.agg (qC q (.slice a1 q.spots.length c1) (.slice a2 q.conds.length c2) (.slice a3 q.items.length c3) (.slice a4 q.pairs.length c4))] W fun e W'=>e=.returned (.bool true)∧Below W.heap.size W W':=by
 have HL:=Lib.hid (Loc.new W (qC q (.slice a1 q.spots.length c1) (.slice a2 q.conds.length c2) (.slice a3 q.items.length c3) (.slice a4 q.pairs.length c4)) 29)
 have HB:=Lib.hid ((Below.refl W.heap.size W).alloc (Nat.le_refl _) (.cells (qC q (.slice a1 q.spots.length c1) (.slice a2 q.conds.length c2) (.slice a3 q.items.length c3) (.slice a4 q.pairs.length c4)) 29))
 go_enter Tryz.func52,Tryz.ntmps52
 go_upto_region 1 with fail
 obtain⟨X,hX⟩:∃X,X=W.heap.size:=⟨_,rfl⟩
 rw[←hX] at HL⊢
 clear hX
 generalize W.alloc (.cells (qC q (.slice a1 q.spots.length c1) (.slice a2 q.conds.length c2) (.slice a3 q.items.length c3) (.slice a4 q.pairs.length c4)) 29)=W1 at HL HB⊢
 have x1:=HL.out.at_ 1 (.slice a1 q.spots.length c1) rfl
 have x2:=HL.out.at_ 2 (.slice a2 q.conds.length c2) rfl
 have x3:=HL.out.at_ 3 (.slice a3 q.items.length c3) rfl
 have x4:=HL.out.at_ 16 (.slice a4 q.pairs.length c4) rfl
 go_wp2_with fail
 go_ret
 exact⟨rfl,HB.out⟩
set_option maxRecDepth 100000 in
set_option maxHeartbeats 2000000 in
theorem many3 {W:World} {q:PQuery} {a1 a2 a3 a4:Option Addr} {c1 c2 c3 c4:Nat} (h1:¬6<(q.spots.length:Int)) (h2:¬6<(q.conds.length:Int)) (h3:6<(q.items.length:Int)):
  Calls Tryz.prog 52 #[.agg (qC q (.slice a1 q.spots.length c1) (.slice a2 q.conds.length c2) (.slice a3 q.items.length c3) (.slice a4 q.pairs.length c4))] W fun e W'=>e=.returned (.bool true)∧Below W.heap.size W W':=by
 have HL:=Lib.hid (Loc.new W (qC q (.slice a1 q.spots.length c1) (.slice a2 q.conds.length c2) (.slice a3 q.items.length c3) (.slice a4 q.pairs.length c4)) 29)
 have HB:=Lib.hid ((Below.refl W.heap.size W).alloc (Nat.le_refl _) (.cells (qC q (.slice a1 q.spots.length c1) (.slice a2 q.conds.length c2) (.slice a3 q.items.length c3) (.slice a4 q.pairs.length c4)) 29))
 go_enter Tryz.func52,Tryz.ntmps52
 go_upto_region 1 with fail
 obtain⟨X,hX⟩:∃X,X=W.heap.size:=⟨_,rfl⟩
 rw[←hX] at HL⊢
 clear hX
 generalize W.alloc (.cells (qC q (.slice a1 q.spots.length c1) (.slice a2 q.conds.length c2) (.slice a3 q.items.length c3) (.slice a4 q.pairs.length c4)) 29)=W1 at HL HB⊢
 have x1:=HL.out.at_ 1 (.slice a1 q.spots.length c1) rfl
 have x2:=HL.out.at_ 2 (.slice a2 q.conds.length c2) rfl
 have x3:=HL.out.at_ 3 (.slice a3 q.items.length c3) rfl
 have x4:=HL.out.at_ 16 (.slice a4 q.pairs.length c4) rfl
 go_wp2_with fail
 go_ret
 exact⟨rfl,HB.out⟩
set_option maxRecDepth 100000 in
set_option maxHeartbeats 2000000 in
theorem many4 {W:World} {q:PQuery} {a1 a2 a3 a4:Option Addr} {c1 c2 c3 c4:Nat} (h1:¬6<(q.spots.length:Int)) (h2:¬6<(q.conds.length:Int)) (h3:¬6<(q.items.length:Int)) (h4:6<(q.pairs.length:Int)):
  Calls Tryz.prog 52 #[.agg (qC q (.slice a1 q.spots.length c1) (.slice a2 q.conds.length c2) (.slice a3 q.items.length c3) (.slice a4 q.pairs.length c4))] W fun e W'=>e=.returned (.bool true)∧Below W.heap.size W W':=by
 have HL:=Lib.hid (Loc.new W (qC q (.slice a1 q.spots.length c1) (.slice a2 q.conds.length c2) (.slice a3 q.items.length c3) (.slice a4 q.pairs.length c4)) 29)
 have HB:=Lib.hid ((Below.refl W.heap.size W).alloc (Nat.le_refl _) (.cells (qC q (.slice a1 q.spots.length c1) (.slice a2 q.conds.length c2) (.slice a3 q.items.length c3) (.slice a4 q.pairs.length c4)) 29))
 go_enter Tryz.func52,Tryz.ntmps52
 go_upto_region 1 with fail
 obtain⟨X,hX⟩:∃X,X=W.heap.size:=⟨_,rfl⟩
 rw[←hX] at HL⊢
 clear hX
 generalize W.alloc (.cells (qC q (.slice a1 q.spots.length c1) (.slice a2 q.conds.length c2) (.slice a3 q.items.length c3) (.slice a4 q.pairs.length c4)) 29)=W1 at HL HB⊢
 have x1:=HL.out.at_ 1 (.slice a1 q.spots.length c1) rfl
 have x2:=HL.out.at_ 2 (.slice a2 q.conds.length c2) rfl
 have x3:=HL.out.at_ 3 (.slice a3 q.items.length c3) rfl
 have x4:=HL.out.at_ 16 (.slice a4 q.pairs.length c4) rfl
 go_wp2_with fail
 go_ret
 exact⟨rfl,HB.out⟩
set_option maxRecDepth 100000 in
set_option maxHeartbeats 2000000 in
theorem many0 {W:World} {q:PQuery} {a1 a2 a3 a4:Option Addr} {c1 c2 c3 c4:Nat} (h1:¬6<(q.spots.length:Int)) (h2:¬6<(q.conds.length:Int)) (h3:¬6<(q.items.length:Int)) (h4:¬6<(q.pairs.length:Int)):
  Calls Tryz.prog 52 #[.agg (qC q (.slice a1 q.spots.length c1) (.slice a2 q.conds.length c2) (.slice a3 q.items.length c3) (.slice a4 q.pairs.length c4))] W fun e W'=>e=.returned (.bool false)∧Below W.heap.size W W':=by
 have HL:=Lib.hid (Loc.new W (qC q (.slice a1 q.spots.length c1) (.slice a2 q.conds.length c2) (.slice a3 q.items.length c3) (.slice a4 q.pairs.length c4)) 29)
 have HB:=Lib.hid ((Below.refl W.heap.size W).alloc (Nat.le_refl _) (.cells (qC q (.slice a1 q.spots.length c1) (.slice a2 q.conds.length c2) (.slice a3 q.items.length c3) (.slice a4 q.pairs.length c4)) 29))
 go_enter Tryz.func52,Tryz.ntmps52
 go_upto_region 1 with fail
 obtain⟨X,hX⟩:∃X,X=W.heap.size:=⟨_,rfl⟩
 rw[←hX] at HL⊢
 clear hX
 generalize W.alloc (.cells (qC q (.slice a1 q.spots.length c1) (.slice a2 q.conds.length c2) (.slice a3 q.items.length c3) (.slice a4 q.pairs.length c4)) 29)=W1 at HL HB⊢
 have x1:=HL.out.at_ 1 (.slice a1 q.spots.length c1) rfl
 have x2:=HL.out.at_ 2 (.slice a2 q.conds.length c2) rfl
 have x3:=HL.out.at_ 3 (.slice a3 q.items.length c3) rfl
 have x4:=HL.out.at_ 16 (.slice a4 q.pairs.length c4) rfl
 go_wp2_with fail
 go_ret
 exact⟨rfl,HB.out⟩
theorem many_ {W:World} {q:PQuery} {vs vc vi vp:Value} (h:QSees W q vs vc vi vp):
  Calls Tryz.prog 52 #[.agg (qC q vs vc vi vp)] W fun e W'=>e=.returned (.bool (tooMany q))∧Below W.heap.size W W':=by
 obtain⟨a1,c1,rfl,_⟩:=sees_slice (l:=q.spots) h.rs
 obtain⟨a2,c2,rfl,_⟩:=sees_slice (l:=q.conds) h.rc
 obtain⟨a3,c3,rfl,_⟩:=sees_slice (l:=q.items) h.rt
 obtain⟨a4,c4,rfl,_⟩:=sees_slice (l:=q.pairs) h.rp
 by_cases h1:6<q.spots.length
 ·rw[show tooMany q=true by simp[tooMany,h1]];exact many1 (by omega)
 by_cases h2:6<q.conds.length
 ·rw[show tooMany q=true by simp[tooMany,h2]];exact many2 (by omega) (by omega)
 by_cases h3:6<q.items.length
 ·rw[show tooMany q=true by simp[tooMany,h3]];exact many3 (by omega) (by omega) (by omega)
 by_cases h4:6<q.pairs.length
 ·rw[show tooMany q=true by simp[tooMany,h4]];exact many4 (by omega) (by omega) (by omega) (by omega)
 rw[show tooMany q=false by simp[tooMany,h1,h2,h3,h4]];exact many0 (by omega) (by omega) (by omega) (by omega)
end Go.Proofs.YtobgbmfpicmpcaaGreatDoor

/- The program's Format. -/
namespace Go.Proofs.YtobgbmfpicmpcaaGreatDoor
open Go.RowKit
theorem wpList_load_want {P:Program} {ops:Array Oper} {rest:List Oper} {op:Oper} {a:Act} {w:World} {Q:Exit→Act→World→Prop} (hw:Region.wanted op (yielded ops a.tmps)=true) (ty:TypeId) (x:Operand) (ho:op.op=.load ty x)
  (b o:Nat) (hx:a.eval x=.pointer (some ⟨b,o,none⟩)) (cs:List Value) (d:TypeDesc) (hc:w.rangeAt b o cs) (hu:P.underlying ty=some d) (hd:d.isRow=true) (hi:(P.info? ty).map (·.size)=some cs.length)
  (h:wpList P ops Q rest (a.put op.dst (.agg cs.toArray)) w):wpList P ops Q (op::rest) a w:=
 wpList_step fun _ hK=>by rw[if_pos hw];exact wp_load_mid ty x ho b o hx cs d hc hu hd hi (hK _ _ h)
theorem wpList_neqOk {ops:Array Oper} {rest:List Oper} {op:Oper} {a:Act} {w:World} {Q:Exit→Act→World→Prop} {x:Operand} (hgd:op.guard=none) (ho:op.op=.binOp .neq 30 x (.const (.int .i64 0)) 30) (hx:a.eval x=.int .i64 0) (h:wpList Tryz.prog ops Q rest (a.put op.dst (.bool false)) w):wpList Tryz.prog ops Q (op::rest) a w:=
 wpList_plain hgd fun _ hK=>by
  unfold Oper.wp execOp
  simp only[ho,hx]
  go_simp
  exact hK _ _ h
theorem queryW_ne (q:PQuery):0<(queryW q).length:=by
 unfold queryW makeW matchW
 split
 ·simp
 ·split<;>simp
theorem queryW_len {q:PQuery} (n1:q.spots.length≤6) (n2:q.conds.length≤6) (n3:q.items.length≤6) (n4:q.pairs.length≤6):(queryW q).length≤1000:=by
 have h1:=gatherW_len spotW 12 spotW_len q.spots true
 have h2:=gatherW_len condW 8 condW_len q.conds true
 have h3:=gatherW_len itemW 4 itemW_len q.items true
 have h4:=gatherW_len pairW 4 pairW_len q.pairs true
 have h5:=orderW_len q
 have h6:=skipW_len q
 have h7:(limitW q).length≤2:=by unfold limitW;split<;>simp
 have h8:=termW_len q.value
 unfold queryW
 split
 ·simp
 ·split
  ·unfold makeW
   split<;>simp<;>omega
  ·unfold matchW actW readW partW
   rw[List.length_append]
   simp only[List.length_cons,List.length_append]
   split
   ·simp;omega
   ·split
    ·simp;omega
    ·split
     ·simp;omega
     ·split
      ·simp;omega
      ·simp;omega
def FmtPost (q:PQuery) (W:World) (e:Ending) (W':World):Prop:=
 e=.returned (.tuple #[.string (fmtOf toks (joined (queryW q)) q).1,.int .i64 (fmtOf toks (joined (queryW q)) q).2])∧Below W.heap.size W W'
theorem below_step' {B:Nat} {a b c:World} (h:Below B a b) (k:Below b.heap.size b c) (hs:B≤a.heap.size:=by first|exact Nat.le_refl _|assumption):Below B a c:=h.trans (k.mono (Nat.le_trans hs h.size))
set_option maxRecDepth 100000 in
set_option maxHeartbeats 4000000 in
theorem fmtMany {W:World} {q:PQuery} {vs vc vi vp ev:Value} (hq:QSees W q vs vc vi vp) (hf:QFits q) (ht:Tab W) (hg:W.cell? ⟨5,0,none⟩=some ev) (hev:ev=.nilIface∨∃te pe,ev=.iface te pe) (hm:tooMany q=true):
  Calls Tryz.prog 20 #[.agg (qC q vs vc vi vp)] W (FmtPost q W):=by
 obtain⟨aos,cas,rfl,_⟩:=sees_slice (l:=q.spots) hq.rs
 obtain⟨aoc,cac,rfl,_⟩:=sees_slice (l:=q.conds) hq.rc
 obtain⟨aoi,cai,rfl,_⟩:=sees_slice (l:=q.items) hq.rt
 obtain⟨aop,cap,rfl,_⟩:=sees_slice (l:=q.pairs) hq.rp
 have HQS:=Lib.hid hq
 have HQF:=Lib.hid hf
 have HT:=Lib.hid ht
 have HEV:=Lib.hid hev
 have HG:=Lib.hid hg
 have hlt:(⟨5,0,none⟩:Addr).block<W.heap.size:=Lib.lt_of_cell hg
 have HLT:=Lib.hid hlt
 clear hq hf ht hg hev hlt
 have HL1:=Lib.hid (Loc.new W (qC q (.slice aos q.spots.length cas) (.slice aoc q.conds.length cac) (.slice aoi q.items.length cai) (.slice aop q.pairs.length cap)) 29)
 have HB1:=Lib.hid ((Below.refl W.heap.size W).alloc (Nat.le_refl _) (.cells (qC q (.slice aos q.spots.length cas) (.slice aoc q.conds.length cac) (.slice aoi q.items.length cai) (.slice aop q.pairs.length cap)) 29))
 go_enter Tryz.func20,Tryz.ntmps20
 go_upto_region 1 with fail
 obtain⟨X,hX⟩:∃X,X=W.heap.size:=⟨_,rfl⟩
 rw[←hX] at HL1⊢
 clear hX
 generalize W.alloc (.cells (qC q (.slice aos q.spots.length cas) (.slice aoc q.conds.length cac) (.slice aoi q.items.length cai) (.slice aop q.pairs.length cap)) 29)=W1 at HL1 HB1⊢
 refine wp_region_lit ?_
 refine wpList_load_mid rfl 29 _ rfl X 0 rfl (qC q (.slice aos q.spots.length cas) (.slice aoc q.conds.length cac) (.slice aoi q.items.length cai) (.slice aop q.pairs.length cap)).toList _ HL1.out.range Tryz.underlying29 rfl (by rw[Tryz.sizeQuery];rfl) ?_
 go_wp2_with fail
 refine(many_ (q:=q) (HQS.out.below HB1.out)).mono ?_
 rintro e W2 ⟨rfl,hb2⟩
 have HB2:=Lib.hid (below_step' HB1.out hb2)
 have HL2:=Lib.hid (HL1.out.grown (grown_below hb2 none) (by simp))
 clear hb2 HB1 HL1
 rw[hm]
 have HE:Hid (fmtOf toks (joined (queryW q)) q=(e0,3)):=by show _=_;unfold fmtOf;rw[if_pos hm]
 clear hm
 go_wp2_with fail
 go_ret2
 exact⟨by rw[HE.out];rfl,HB2.out⟩
set_option maxRecDepth 100000 in
set_option maxHeartbeats 4000000 in
theorem fmtRest {W:World} {q:PQuery} {vs vc vi vp ev:Value} (hq:QSees W q vs vc vi vp) (hf:QFits q) (ht:Tab W) (hg:W.cell? ⟨5,0,none⟩=some ev) (hev:ev=.nilIface∨∃te pe,ev=.iface te pe) (hm:tooMany q=false) (hj:(joined (queryW q)).length≤140737488355328) {r:PQuery} {er:Int} (hr:parseText (toks ⟨(joined (queryW q)).toArray⟩)=(r,er)):
  Calls Tryz.prog 20 #[.agg (qC q vs vc vi vp)] W (FmtPost q W):=by
 obtain⟨aos,cas,rfl,_⟩:=sees_slice (l:=q.spots) hq.rs
 obtain⟨aoc,cac,rfl,_⟩:=sees_slice (l:=q.conds) hq.rc
 obtain⟨aoi,cai,rfl,_⟩:=sees_slice (l:=q.items) hq.rt
 obtain⟨aop,cap,rfl,_⟩:=sees_slice (l:=q.pairs) hq.rp
 have HQS:=Lib.hid hq
 have HQF:=Lib.hid hf
 have HT:=Lib.hid ht
 have HEV:=Lib.hid hev
 have HG:=Lib.hid hg
 have hlt:(⟨5,0,none⟩:Addr).block<W.heap.size:=Lib.lt_of_cell hg
 have HLT:=Lib.hid hlt
 clear hq hf ht hg hev hlt
 have HL1:=Lib.hid (Loc.new W (qC q (.slice aos q.spots.length cas) (.slice aoc q.conds.length cac) (.slice aoi q.items.length cai) (.slice aop q.pairs.length cap)) 29)
 have HB1:=Lib.hid ((Below.refl W.heap.size W).alloc (Nat.le_refl _) (.cells (qC q (.slice aos q.spots.length cas) (.slice aoc q.conds.length cac) (.slice aoi q.items.length cai) (.slice aop q.pairs.length cap)) 29))
 go_enter Tryz.func20,Tryz.ntmps20
 go_upto_region 1 with fail
 obtain⟨X,hX⟩:∃X,X=W.heap.size:=⟨_,rfl⟩
 rw[←hX] at HL1⊢
 clear hX
 generalize W.alloc (.cells (qC q (.slice aos q.spots.length cas) (.slice aoc q.conds.length cac) (.slice aoi q.items.length cai) (.slice aop q.pairs.length cap)) 29)=W1 at HL1 HB1⊢
 refine wp_region_lit ?_
 refine wpList_load_mid rfl 29 _ rfl X 0 rfl (qC q (.slice aos q.spots.length cas) (.slice aoc q.conds.length cac) (.slice aoi q.items.length cai) (.slice aop q.pairs.length cap)).toList _ HL1.out.range Tryz.underlying29 rfl (by rw[Tryz.sizeQuery];rfl) ?_
 go_wp2_with fail
 refine(many_ (q:=q) (HQS.out.below HB1.out)).mono ?_
 rintro e W2 ⟨rfl,hb2⟩
 have HB2:=Lib.hid (below_step' HB1.out hb2)
 have HL2:=Lib.hid (HL1.out.grown (grown_below hb2 none) (by simp))
 clear hb2 HB1 HL1
 rw[hm]
 have hn:q.spots.length≤6∧q.conds.length≤6∧q.items.length≤6∧q.pairs.length≤6:=by
  unfold tooMany at hm
  simp only[Bool.or_eq_false_iff,decide_eq_false_iff_not] at hm
  omega
 have HM:=Lib.hid hm
 clear hm
 obtain⟨n1,n2,n3,n4⟩:=hn
 have HQL:=Lib.hid (queryW_len n1 n2 n3 n4)
 have HQN:=Lib.hid (queryW_ne q)
 have HI:Hid (WI W2 W2.heap.size [] (W2.alloc (.cells #[.slice none 0 0] 97))):=⟨(Below.refl _ _).alloc (Nat.le_refl _) _,Nat.le_refl _,_,Loc.new W2 _ _,World.ownsRow_nil _ _ _ _⟩
 have HL3:=Lib.hid (HL2.out.alloc (.cells #[.slice none 0 0] 97))
 go_upto_region 4 with fail
 obtain⟨b,hb⟩:∃b,b=W2.heap.size:=⟨_,rfl⟩
 rw[←hb] at HI⊢
 clear hb HL2
 generalize W2.alloc (.cells #[.slice none 0 0] 97)=W3 at HI HL3⊢
 refine wp_region_lit ?_
 refine wpList_load_mid rfl 29 _ rfl X 0 rfl (qC q (.slice aos q.spots.length cas) (.slice aoc q.conds.length cac) (.slice aoi q.items.length cai) (.slice aop q.pairs.length cap)).toList _ HL3.out.range Tryz.underlying29 rfl (by rw[Tryz.sizeQuery];rfl) ?_
 go_wp2_with fail
 refine(wquery (q:=q) HI.out (HT.out.below HB2.out) (HQS.out.below HB2.out) HQF.out n1 n2 n3 n4 (by simp)).mono ?_
 rintro e W4 ⟨rfl,h4,f4⟩
 rw[List.nil_append] at h4
 have HL4:=Lib.hid (f4 X _ _ HL3.out (by decide) (by decide))
 have HB4:=Lib.hid (below_step' HB2.out h4.low)
 obtain⟨v,hlb,hrow⟩:=h4.box
 obtain⟨ws,hws⟩:∃ws,queryW q=ws:=⟨_,rfl⟩
 rw[hws] at hrow HQL HQN
 have HWS:=Lib.hid hws
 rcases hrow.2 with ⟨_,h0⟩|⟨gw,cw,cur,hv,hbw,hgw,hnw,_⟩
 ·exact absurd h0 (by have:=HQN.out;omega)
 subst hv
 have cb:=hlb.at_ 0 (.slice (some ⟨gw,0,none⟩) ws.length cw) rfl
 have HJ:Hid (Calls Tryz.prog 54 #[.slice (some ⟨gw,0,none⟩) ws.length cw,.string ⟨#[32]⟩] W4 fun e w'=>e=.returned (.string ⟨(joined ws).toArray⟩)∧Below W4.heap.size W4 w'):=by
  refine Tryz.strings_Join gw 0 cw ws ⟨#[32]⟩ W4 (fun j x hx=>?_) (lt_of_block hgw) (by have:=HQL.out;omega) hnw (by rw[←HWS.out];exact hj)
  have hj2:(strs ws)[j]?=some (.string x):=by unfold strs;rw[List.getElem?_map,hx];rfl
  have hjl:j<ws.length:=by
   by_cases h:j<ws.length
   ·exact h
   ·rw[List.getElem?_eq_none (by omega)] at hx;cases hx
  rw[Nat.zero_add,←hj2]
  exact hrow.cellAt j (by omega)
 clear h4 f4 hlb hrow hgw hbw hnw HI HL3 HB2 hws
 go_wp2_with fail
 refine HJ.out.mono ?_
 rintro e W5 ⟨rfl,hb5⟩
 have HB5:=Lib.hid (below_step' HB4.out hb5)
 have HL5:=Lib.hid (HL4.out.grown (grown_below hb5 none) (by simp))
 have hsz:(⟨(joined ws).toArray⟩:ByteArray).size≤maxLen:=by
  have e1:(⟨(joined ws).toArray⟩:ByteArray).size=(joined ws).length:=by simp[ByteArray.size]
  rw[e1,←HWS.out];unfold maxLen;omega
 have HZ:=Lib.hid hsz
 have HR:Hid (parseText (toks ⟨(joined ws).toArray⟩)=(r,er)):=by show _=_;rw[←HWS.out];exact hr
 have hsm:=parse_small ⟨(joined ws).toArray⟩
 rw[HR.out] at hsm
 obtain⟨l1,l2,l3,l4⟩:=hsm
 simp only at l1 l2 l3 l4
 have HF:Hid (fmtOf toks (joined (queryW q)) q=if (decide (er≠0) || !eqQ r q)=true then (e0,3) else (⟨(joined ws).toArray⟩,0)):=by
  show _=_
  unfold fmtOf
  rw[HM.out,hr,HWS.out]
  rfl
 clear hb5 cb HJ HB4 HL4 hj hr hsz HQL HQN
 obtain⟨tx,htx⟩:∃tx:ByteArray,tx=⟨(joined ws).toArray⟩:=⟨_,rfl⟩
 rw[←htx] at HZ HR HF⊢
 clear htx
 go_wp2_with fail
 refine(progParse tx W5 ((HB5.out.cell HLT.out).trans HG.out) HEV.out HZ.out).mono ?_
 rw[HR.out]
 rintro e W6 ⟨hb,vs,vc,vi,vp,rfl,hrows⟩
 simp only at hrows⊢
 obtain⟨a1,k1,rfl,m1⟩:=row_slice (l:=r.spots) hrows.rs
 obtain⟨a2,k2,rfl,m2⟩:=row_slice (l:=r.conds) hrows.rc
 obtain⟨a3,k3,rfl,m3⟩:=row_slice (l:=r.items) hrows.rt
 obtain⟨a4,k4,rfl,m4⟩:=row_slice (l:=r.pairs) hrows.rp
 clear m1 m2 m3 m4
 have kb:=kept_below (w:=W6) (cs:=(qC r (.slice a1 r.spots.length k1) (.slice a2 r.conds.length k2) (.slice a3 r.items.length k3) (.slice a4 r.pairs.length k4))) (T:=29) zq
 have HQ7:=Lib.hid (qsees_of (hrows.later kb))
 have HL7:Hid (Loc ((W6.alloc (.cells zq 29)).setCells W6.heap.size 0 (qC r (.slice a1 r.spots.length k1) (.slice a2 r.conds.length k2) (.slice a3 r.items.length k3) (.slice a4 r.pairs.length k4)).toList) W6.heap.size (qC r (.slice a1 r.spots.length k1) (.slice a2 r.conds.length k2) (.slice a3 r.items.length k3) (.slice a4 r.pairs.length k4)) 29):=kept_loc _ rfl
 have hb67:=below_step hb kb
 have HB7:=Lib.hid (below_step' HB5.out hb67)
 have HX7:=Lib.hid (HL5.out.grown (grown_below hb67 none) (by simp))
 clear hb hrows kb hb67 HB5 HL5
 rename_i KK hKK
 refine hKK _ _ ?_
 clear hKK KK
 refine wpList_move rfl rfl ?_
 refine wpList_extract rfl rfl rfl rfl ?_
 refine wpList_extract rfl rfl rfl rfl ?_
 refine wpList_allocQuery rfl rfl ?_
 refine wpList_store_mid rfl 29 _ _ rfl W6.heap.size 0 (qC r (.slice a1 r.spots.length k1) (.slice a2 r.conds.length k2) (.slice a3 r.items.length k3) (.slice a4 r.pairs.length k4)) rfl rfl (Loc.new W6 zq 29).there Tryz.sizeQuery (qC_one _) ?_
 obtain⟨Y,hY⟩:∃x,x=W6.heap.size:=⟨_,rfl⟩
 rw[←hY] at HL7 HQ7 HB7 HX7⊢
 clear hY
 generalize (W6.alloc (.cells zq 29)).setCells Y 0 (qC r (.slice a1 r.spots.length k1) (.slice a2 r.conds.length k2) (.slice a3 r.items.length k3) (.slice a4 r.pairs.length k4)).toList=W7 at HL7 HQ7 HB7 HX7⊢
 by_cases he:er=0
 ·obtain rfl:er=0:=he
  go_upto_region 7 with fail
  refine wp_region_lit ?_
  refine wpList_move rfl rfl ?_
  refine wpList_neqOk rfl rfl rfl ?_
  refine wpList_move rfl rfl ?_
  refine wpList_load_want rfl 29 _ rfl Y 0 rfl (qC r (.slice a1 r.spots.length k1) (.slice a2 r.conds.length k2) (.slice a3 r.items.length k3) (.slice a4 r.pairs.length k4)).toList _ HL7.out.range Tryz.underlying29 rfl (by rw[Tryz.sizeQuery];rfl) ?_
  refine wpList_load_want rfl 29 _ rfl X 0 rfl (qC q (.slice aos q.spots.length cas) (.slice aoc q.conds.length cac) (.slice aoi q.items.length cai) (.slice aop q.pairs.length cap)).toList _ HX7.out.range Tryz.underlying29 rfl (by rw[Tryz.sizeQuery];rfl) ?_
  go_wp2_with fail
  refine(same_ (a:=r) (b:=q) HQ7.out (HQS.out.below HB7.out) (by omega) (by omega) (by omega) (by omega)).mono ?_
  rintro e W8 ⟨rfl,hb8⟩
  have HB8:=Lib.hid (below_step' HB7.out hb8)
  clear hb8 HB7 HL7 HX7
  cases hs:eqQ r q with
  | false=>
   have HE:Hid (fmtOf toks (joined (queryW q)) q=(e0,3)):=by show _=_;rw[HF.out,hs];simp
   clear hs
   go_wp2_with fail
   go_ret2
   exact⟨by rw[HE.out];rfl,HB8.out⟩
  | true=>
   have HE:Hid (fmtOf toks (joined (queryW q)) q=(tx,0)):=by show _=_;rw[HF.out,hs];simp
   clear hs
   go_wp2_with fail
   go_ret2
   exact⟨by rw[HE.out];rfl,HB8.out⟩
 ·have he:(er != 0)=true:=by simpa using he
  have HE:Hid (fmtOf toks (joined (queryW q)) q=(e0,3)):=by show _=_;rw[HF.out];simp only[bne_iff_ne] at he;simp[he]
  go_wp2_with fail
  go_ret2
  exact⟨by rw[HE.out];rfl,HB7.out⟩
theorem progFormat {W:World} {q:PQuery} {vs vc vi vp ev:Value} (hq:QSees W q vs vc vi vp) (hf:QFits q) (ht:Tab W) (hg:W.cell? ⟨5,0,none⟩=some ev) (hev:ev=.nilIface∨∃te pe,ev=.iface te pe) (hj:tooMany q=false→(joined (queryW q)).length≤140737488355328):
  Calls Tryz.prog 20 #[.agg (qC q vs vc vi vp)] W (FmtPost q W):=by
 cases hm:tooMany q with
 | true=>exact fmtMany hq hf ht hg hev hm
 | false=>
  obtain⟨r,er,hr⟩:∃r er,parseText (toks ⟨(joined (queryW q)).toArray⟩)=(r,er):=⟨_,_,rfl⟩
  exact fmtRest hq hf ht hg hev hm (hj hm) hr
end Go.Proofs.YtobgbmfpicmpcaaGreatDoor

/- The reference's Format. -/
namespace Go.Proofs.YtobgbmfpicmpcaaGreatDoor
open Go.RowKit
theorem queryT_len {q:PQuery} (h:QShort q):(queryT q).length≤100000000:=by
 have hm:=matchT_len h
 have hr:=readText_len h q.items.length
 have hp:=pairsText_len h q.pairs.length
 unfold ReadText at hr
 unfold PairsText at hp
 rw[List.take_length] at hr hp
 have h1:q.name.size≤1048576:=h.na
 have h2:q.key.size≤1048576:=h.ke
 have h3:q.type.size≤1048576:=h.ty
 have h4:q.to.size≤1048576:=h.tw
 have h5:=termT_len h.va
 have h6:=orderT_len h
 have h7:=skipT_len h
 have h8:(limitT q).length≤40:=by
  have:=itoa_len h.li
  unfold limitT
  split
  ·simp
  ·simp only[List.length_append,List.length_cons,List.length_nil];omega
 have h9:(if q.pairs.isEmpty then [] else [32,125]:List UInt8).length≤2:=by split<;>simp
 unfold queryT
 simp only[List.length_append,bl_len,List.length_cons,List.length_nil] at hr hp
 split
 ·simp only[List.length_append,bl_len,List.length_cons,List.length_nil];omega
 ·split
  ·simp only[List.length_append,bl_len,List.length_cons,List.length_nil];omega
  ·split
   ·simp only[List.length_append,bl_len,List.length_cons,List.length_nil];omega
   ·split
    ·simp only[List.length_append,bl_len,List.length_cons,List.length_nil];omega
    ·split
     ·simp only[List.length_append,bl_len,List.length_cons,List.length_nil];omega
     ·simp only[List.length_append,List.length_cons,List.length_nil];omega
def RefFmtPost (q:PQuery) (W:World) (e:Ending) (W':World):Prop:=
 e=.returned (.tuple #[.string (fmtOf toks (queryT q) q).1,.int .i64 (fmtOf toks (queryT q) q).2])∧Below W.heap.size W W'
set_option maxRecDepth 100000 in
set_option maxHeartbeats 4000000 in
theorem refFmtMany1 {W:World} {q:PQuery} {vs vc vi vp:Value} (hq:QSees W q vs vc vi vp)  (g1:6<q.spots.length):
  Calls Tryz.prog 21 #[.agg (qC q vs vc vi vp)] W (RefFmtPost q W):=by
 obtain⟨aos,cas,rfl,_⟩:=sees_slice (l:=q.spots) hq.rs
 obtain⟨aoc,cac,rfl,_⟩:=sees_slice (l:=q.conds) hq.rc
 obtain⟨aoi,cai,rfl,_⟩:=sees_slice (l:=q.items) hq.rt
 obtain⟨aop,cap,rfl,_⟩:=sees_slice (l:=q.pairs) hq.rp
 have HQS:=Lib.hid hq
 clear hq
 have HE:Hid (fmtOf toks (queryT q) q=(e0,3)):=by
  show _=_
  unfold fmtOf
  rw[if_pos (by unfold tooMany;simp[g1])]
 have i1:(6:Int)<(q.spots.length:Int):=by omega
 clear g1
 have HL1:=Lib.hid (Loc.new W (qC q (.slice aos q.spots.length cas) (.slice aoc q.conds.length cac) (.slice aoi q.items.length cai) (.slice aop q.pairs.length cap)) 29)
 have HB1:=Lib.hid ((Below.refl W.heap.size W).alloc (Nat.le_refl _) (.cells (qC q (.slice aos q.spots.length cas) (.slice aoc q.conds.length cac) (.slice aoi q.items.length cai) (.slice aop q.pairs.length cap)) 29))
 go_enter Tryz.func21,Tryz.ntmps21
 go_upto_region 1 with fail
 obtain⟨X,hX⟩:∃X,X=W.heap.size:=⟨_,rfl⟩
 rw[←hX] at HL1⊢
 clear hX
 generalize W.alloc (.cells (qC q (.slice aos q.spots.length cas) (.slice aoc q.conds.length cac) (.slice aoi q.items.length cai) (.slice aop q.pairs.length cap)) 29)=W1 at HL1 HB1⊢
 have c1:=HL1.out.at_ 1 (.slice aos q.spots.length cas) rfl
 have c2:=HL1.out.at_ 2 (.slice aoc q.conds.length cac) rfl
 have c3:=HL1.out.at_ 3 (.slice aoi q.items.length cai) rfl
 have c16:=HL1.out.at_ 16 (.slice aop q.pairs.length cap) rfl
 go_wp2_with fail
 go_ret2
 exact⟨by rw[HE.out];rfl,HB1.out⟩
set_option maxRecDepth 100000 in
set_option maxHeartbeats 4000000 in
theorem refFmtMany2 {W:World} {q:PQuery} {vs vc vi vp:Value} (hq:QSees W q vs vc vi vp) (g1:¬6<q.spots.length) (g2:6<q.conds.length):
  Calls Tryz.prog 21 #[.agg (qC q vs vc vi vp)] W (RefFmtPost q W):=by
 obtain⟨aos,cas,rfl,_⟩:=sees_slice (l:=q.spots) hq.rs
 obtain⟨aoc,cac,rfl,_⟩:=sees_slice (l:=q.conds) hq.rc
 obtain⟨aoi,cai,rfl,_⟩:=sees_slice (l:=q.items) hq.rt
 obtain⟨aop,cap,rfl,_⟩:=sees_slice (l:=q.pairs) hq.rp
 have HQS:=Lib.hid hq
 clear hq
 have HE:Hid (fmtOf toks (queryT q) q=(e0,3)):=by
  show _=_
  unfold fmtOf
  rw[if_pos (by unfold tooMany;simp[g2])]
 have i1:¬(6:Int)<(q.spots.length:Int):=by omega
 have i2:(6:Int)<(q.conds.length:Int):=by omega
 clear g1 g2
 have HL1:=Lib.hid (Loc.new W (qC q (.slice aos q.spots.length cas) (.slice aoc q.conds.length cac) (.slice aoi q.items.length cai) (.slice aop q.pairs.length cap)) 29)
 have HB1:=Lib.hid ((Below.refl W.heap.size W).alloc (Nat.le_refl _) (.cells (qC q (.slice aos q.spots.length cas) (.slice aoc q.conds.length cac) (.slice aoi q.items.length cai) (.slice aop q.pairs.length cap)) 29))
 go_enter Tryz.func21,Tryz.ntmps21
 go_upto_region 1 with fail
 obtain⟨X,hX⟩:∃X,X=W.heap.size:=⟨_,rfl⟩
 rw[←hX] at HL1⊢
 clear hX
 generalize W.alloc (.cells (qC q (.slice aos q.spots.length cas) (.slice aoc q.conds.length cac) (.slice aoi q.items.length cai) (.slice aop q.pairs.length cap)) 29)=W1 at HL1 HB1⊢
 have c1:=HL1.out.at_ 1 (.slice aos q.spots.length cas) rfl
 have c2:=HL1.out.at_ 2 (.slice aoc q.conds.length cac) rfl
 have c3:=HL1.out.at_ 3 (.slice aoi q.items.length cai) rfl
 have c16:=HL1.out.at_ 16 (.slice aop q.pairs.length cap) rfl
 go_wp2_with fail
 go_ret2
 exact⟨by rw[HE.out];rfl,HB1.out⟩
set_option maxRecDepth 100000 in
set_option maxHeartbeats 4000000 in
theorem refFmtMany3 {W:World} {q:PQuery} {vs vc vi vp:Value} (hq:QSees W q vs vc vi vp) (g1:¬6<q.spots.length) (g2:¬6<q.conds.length) (g3:6<q.items.length):
  Calls Tryz.prog 21 #[.agg (qC q vs vc vi vp)] W (RefFmtPost q W):=by
 obtain⟨aos,cas,rfl,_⟩:=sees_slice (l:=q.spots) hq.rs
 obtain⟨aoc,cac,rfl,_⟩:=sees_slice (l:=q.conds) hq.rc
 obtain⟨aoi,cai,rfl,_⟩:=sees_slice (l:=q.items) hq.rt
 obtain⟨aop,cap,rfl,_⟩:=sees_slice (l:=q.pairs) hq.rp
 have HQS:=Lib.hid hq
 clear hq
 have HE:Hid (fmtOf toks (queryT q) q=(e0,3)):=by
  show _=_
  unfold fmtOf
  rw[if_pos (by unfold tooMany;simp[g3])]
 have i1:¬(6:Int)<(q.spots.length:Int):=by omega
 have i2:¬(6:Int)<(q.conds.length:Int):=by omega
 have i3:(6:Int)<(q.items.length:Int):=by omega
 clear g1 g2 g3
 have HL1:=Lib.hid (Loc.new W (qC q (.slice aos q.spots.length cas) (.slice aoc q.conds.length cac) (.slice aoi q.items.length cai) (.slice aop q.pairs.length cap)) 29)
 have HB1:=Lib.hid ((Below.refl W.heap.size W).alloc (Nat.le_refl _) (.cells (qC q (.slice aos q.spots.length cas) (.slice aoc q.conds.length cac) (.slice aoi q.items.length cai) (.slice aop q.pairs.length cap)) 29))
 go_enter Tryz.func21,Tryz.ntmps21
 go_upto_region 1 with fail
 obtain⟨X,hX⟩:∃X,X=W.heap.size:=⟨_,rfl⟩
 rw[←hX] at HL1⊢
 clear hX
 generalize W.alloc (.cells (qC q (.slice aos q.spots.length cas) (.slice aoc q.conds.length cac) (.slice aoi q.items.length cai) (.slice aop q.pairs.length cap)) 29)=W1 at HL1 HB1⊢
 have c1:=HL1.out.at_ 1 (.slice aos q.spots.length cas) rfl
 have c2:=HL1.out.at_ 2 (.slice aoc q.conds.length cac) rfl
 have c3:=HL1.out.at_ 3 (.slice aoi q.items.length cai) rfl
 have c16:=HL1.out.at_ 16 (.slice aop q.pairs.length cap) rfl
 go_wp2_with fail
 go_ret2
 exact⟨by rw[HE.out];rfl,HB1.out⟩
set_option maxRecDepth 100000 in
set_option maxHeartbeats 4000000 in
theorem refFmtMany4 {W:World} {q:PQuery} {vs vc vi vp:Value} (hq:QSees W q vs vc vi vp) (g1:¬6<q.spots.length) (g2:¬6<q.conds.length) (g3:¬6<q.items.length) (g4:6<q.pairs.length):
  Calls Tryz.prog 21 #[.agg (qC q vs vc vi vp)] W (RefFmtPost q W):=by
 obtain⟨aos,cas,rfl,_⟩:=sees_slice (l:=q.spots) hq.rs
 obtain⟨aoc,cac,rfl,_⟩:=sees_slice (l:=q.conds) hq.rc
 obtain⟨aoi,cai,rfl,_⟩:=sees_slice (l:=q.items) hq.rt
 obtain⟨aop,cap,rfl,_⟩:=sees_slice (l:=q.pairs) hq.rp
 have HQS:=Lib.hid hq
 clear hq
 have HE:Hid (fmtOf toks (queryT q) q=(e0,3)):=by
  show _=_
  unfold fmtOf
  rw[if_pos (by unfold tooMany;simp[g4])]
 have i1:¬(6:Int)<(q.spots.length:Int):=by omega
 have i2:¬(6:Int)<(q.conds.length:Int):=by omega
 have i3:¬(6:Int)<(q.items.length:Int):=by omega
 have i4:(6:Int)<(q.pairs.length:Int):=by omega
 clear g1 g2 g3 g4
 have HL1:=Lib.hid (Loc.new W (qC q (.slice aos q.spots.length cas) (.slice aoc q.conds.length cac) (.slice aoi q.items.length cai) (.slice aop q.pairs.length cap)) 29)
 have HB1:=Lib.hid ((Below.refl W.heap.size W).alloc (Nat.le_refl _) (.cells (qC q (.slice aos q.spots.length cas) (.slice aoc q.conds.length cac) (.slice aoi q.items.length cai) (.slice aop q.pairs.length cap)) 29))
 go_enter Tryz.func21,Tryz.ntmps21
 go_upto_region 1 with fail
 obtain⟨X,hX⟩:∃X,X=W.heap.size:=⟨_,rfl⟩
 rw[←hX] at HL1⊢
 clear hX
 generalize W.alloc (.cells (qC q (.slice aos q.spots.length cas) (.slice aoc q.conds.length cac) (.slice aoi q.items.length cai) (.slice aop q.pairs.length cap)) 29)=W1 at HL1 HB1⊢
 have c1:=HL1.out.at_ 1 (.slice aos q.spots.length cas) rfl
 have c2:=HL1.out.at_ 2 (.slice aoc q.conds.length cac) rfl
 have c3:=HL1.out.at_ 3 (.slice aoi q.items.length cai) rfl
 have c16:=HL1.out.at_ 16 (.slice aop q.pairs.length cap) rfl
 go_wp2_with fail
 go_ret2
 exact⟨by rw[HE.out];rfl,HB1.out⟩
set_option maxRecDepth 100000 in
set_option maxHeartbeats 4000000 in
theorem refFmtRest {W:World} {q:PQuery} {vs vc vi vp:Value} (hq:QSees W q vs vc vi vp) (hsh:QShort q) {r:PQuery} {er:Int} (hr:parseText (toks (B (queryT q)))=(r,er)):
  Calls Tryz.prog 21 #[.agg (qC q vs vc vi vp)] W (RefFmtPost q W):=by
 obtain⟨aos,cas,rfl,_⟩:=sees_slice (l:=q.spots) hq.rs
 obtain⟨aoc,cac,rfl,_⟩:=sees_slice (l:=q.conds) hq.rc
 obtain⟨aoi,cai,rfl,_⟩:=sees_slice (l:=q.items) hq.rt
 obtain⟨aop,cap,rfl,_⟩:=sees_slice (l:=q.pairs) hq.rp
 have HQS:=Lib.hid hq
 clear hq
 have hn:q.spots.length≤6∧q.conds.length≤6∧q.items.length≤6∧q.pairs.length≤6:=⟨hsh.n1,hsh.n2,hsh.n3,hsh.n4⟩
 obtain⟨n1,n2,n3,n4⟩:=hn
 have i1:¬(6:Int)<(q.spots.length:Int):=by omega
 have i2:¬(6:Int)<(q.conds.length:Int):=by omega
 have i3:¬(6:Int)<(q.items.length:Int):=by omega
 have i4:¬(6:Int)<(q.pairs.length:Int):=by omega
 have HSH:=Lib.hid hsh
 have HM:Hid (tooMany q=false):=by show _=_;unfold tooMany;simp;omega
 clear hsh
 have HL1:=Lib.hid (Loc.new W (qC q (.slice aos q.spots.length cas) (.slice aoc q.conds.length cac) (.slice aoi q.items.length cai) (.slice aop q.pairs.length cap)) 29)
 have HB1:=Lib.hid ((Below.refl W.heap.size W).alloc (Nat.le_refl _) (.cells (qC q (.slice aos q.spots.length cas) (.slice aoc q.conds.length cac) (.slice aoi q.items.length cai) (.slice aop q.pairs.length cap)) 29))
 go_enter Tryz.func21,Tryz.ntmps21
 go_upto_region 1 with fail
 obtain⟨X,hX⟩:∃X,X=W.heap.size:=⟨_,rfl⟩
 rw[←hX] at HL1⊢
 clear hX
 generalize W.alloc (.cells (qC q (.slice aos q.spots.length cas) (.slice aoc q.conds.length cac) (.slice aoi q.items.length cai) (.slice aop q.pairs.length cap)) 29)=W1 at HL1 HB1⊢
 have c1:=HL1.out.at_ 1 (.slice aos q.spots.length cas) rfl
 have c2:=HL1.out.at_ 2 (.slice aoc q.conds.length cac) rfl
 have c3:=HL1.out.at_ 3 (.slice aoi q.items.length cai) rfl
 have c16:=HL1.out.at_ 16 (.slice aop q.pairs.length cap) rfl
 go_upto_region 3 with fail
 clear c1 c2 c3 c16
 refine wp_region_lit ?_
 refine wpList_load_mid rfl 29 _ rfl X 0 rfl (qC q (.slice aos q.spots.length cas) (.slice aoc q.conds.length cac) (.slice aoi q.items.length cai) (.slice aop q.pairs.length cap)).toList _ HL1.out.range Tryz.underlying29 rfl (by rw[Tryz.sizeQuery];rfl) ?_
 go_wp2_with fail
 refine(written_ (q:=q) (HQS.out.below HB1.out) HSH.out).mono ?_
 rintro e W5 ⟨rfl,hb5⟩
 have HB5:=Lib.hid (below_step' HB1.out hb5)
 have HL5:=Lib.hid (HL1.out.grown (grown_below hb5 none) (by simp))
 have HZ:Hid ((B (queryT q)).size≤maxLen):=by
  show _≤_
  have:=queryT_len HSH.out
  rw[B_size];unfold maxLen;omega
 have HR:Hid (parseText (toks (B (queryT q)))=(r,er)):=hr
 have hsm:=parse_small (B (queryT q))
 rw[HR.out] at hsm
 obtain⟨l1,l2,l3,l4⟩:=hsm
 simp only at l1 l2 l3 l4
 have HF:Hid (fmtOf toks (queryT q) q=if (decide (er≠0) || !eqQ r q)=true then (e0,3) else (B (queryT q),0)):=by
  show _=_
  unfold fmtOf
  rw[HM.out,show parseText (toks ⟨(queryT q).toArray⟩)=(r,er) from hr]
  rfl
 clear hb5 HB1 HL1 hr
 obtain⟨tx,htx⟩:∃tx:ByteArray,tx=B (queryT q):=⟨_,rfl⟩
 rw[←htx] at HZ HR HF⊢
 clear htx
 go_wp2_with fail
 refine(refParse tx W5 HZ.out).mono ?_
 rw[HR.out]
 rintro e W6 ⟨hb,vs,vc,vi,vp,rfl,hrows⟩
 simp only at hrows⊢
 obtain⟨a1,k1,rfl,m1⟩:=row_slice (l:=r.spots) hrows.rs
 obtain⟨a2,k2,rfl,m2⟩:=row_slice (l:=r.conds) hrows.rc
 obtain⟨a3,k3,rfl,m3⟩:=row_slice (l:=r.items) hrows.rt
 obtain⟨a4,k4,rfl,m4⟩:=row_slice (l:=r.pairs) hrows.rp
 clear m1 m2 m3 m4
 have kb:=kept_below (w:=W6) (cs:=(qC r (.slice a1 r.spots.length k1) (.slice a2 r.conds.length k2) (.slice a3 r.items.length k3) (.slice a4 r.pairs.length k4))) (T:=29) zq
 have HQ7:=Lib.hid (qsees_of (hrows.later kb))
 have HL7:Hid (Loc ((W6.alloc (.cells zq 29)).setCells W6.heap.size 0 (qC r (.slice a1 r.spots.length k1) (.slice a2 r.conds.length k2) (.slice a3 r.items.length k3) (.slice a4 r.pairs.length k4)).toList) W6.heap.size (qC r (.slice a1 r.spots.length k1) (.slice a2 r.conds.length k2) (.slice a3 r.items.length k3) (.slice a4 r.pairs.length k4)) 29):=kept_loc _ rfl
 have hb67:=below_step hb kb
 have HB7:=Lib.hid (below_step' HB5.out hb67)
 have HX7:=Lib.hid (HL5.out.grown (grown_below hb67 none) (by simp))
 clear hb hrows kb hb67 HB5 HL5
 rename_i KK hKK
 refine hKK _ _ ?_
 clear hKK KK
 refine wpList_move rfl rfl ?_
 refine wpList_extract rfl rfl rfl rfl ?_
 refine wpList_extract rfl rfl rfl rfl ?_
 refine wpList_allocQuery rfl rfl ?_
 refine wpList_store_mid rfl 29 _ _ rfl W6.heap.size 0 (qC r (.slice a1 r.spots.length k1) (.slice a2 r.conds.length k2) (.slice a3 r.items.length k3) (.slice a4 r.pairs.length k4)) rfl rfl (Loc.new W6 zq 29).there Tryz.sizeQuery (qC_one _) ?_
 obtain⟨Y,hY⟩:∃x,x=W6.heap.size:=⟨_,rfl⟩
 rw[←hY] at HL7 HQ7 HB7 HX7⊢
 clear hY
 generalize (W6.alloc (.cells zq 29)).setCells Y 0 (qC r (.slice a1 r.spots.length k1) (.slice a2 r.conds.length k2) (.slice a3 r.items.length k3) (.slice a4 r.pairs.length k4)).toList=W7 at HL7 HQ7 HB7 HX7⊢
 go_upto_region 5 with fail
 refine wp_region_lit ?_
 refine wpList_load_mid rfl 29 _ rfl Y 0 rfl (qC r (.slice a1 r.spots.length k1) (.slice a2 r.conds.length k2) (.slice a3 r.items.length k3) (.slice a4 r.pairs.length k4)).toList _ HL7.out.range Tryz.underlying29 rfl (by rw[Tryz.sizeQuery];rfl) ?_
 refine wpList_load_mid rfl 29 _ rfl X 0 rfl (qC q (.slice aos q.spots.length cas) (.slice aoc q.conds.length cac) (.slice aoi q.items.length cai) (.slice aop q.pairs.length cap)).toList _ HX7.out.range Tryz.underlying29 rfl (by rw[Tryz.sizeQuery];rfl) ?_
 go_wp2_with fail
 refine(refSame_ (a:=r) (b:=q) HQ7.out (HQS.out.below HB7.out) (by omega) (by omega) (by omega) (by omega)).mono ?_
 rintro e W8 ⟨rfl,hb8⟩
 have HB8:=Lib.hid (below_step' HB7.out hb8)
 clear hb8 HB7 HL7 HX7
 by_cases he:er=0
 ·obtain rfl:er=0:=he
  cases hs:eqQ r q with
  | false=>
   have HE:Hid (fmtOf toks (queryT q) q=(e0,3)):=by show _=_;rw[HF.out,hs];simp
   clear hs HF
   go_wp2_with fail
   go_ret2
   exact⟨by rw[HE.out];rfl,HB8.out⟩
  | true=>
   have HE:Hid (fmtOf toks (queryT q) q=(tx,0)):=by show _=_;rw[HF.out,hs];simp
   clear hs HF
   go_wp2_with fail
   go_ret2
   exact⟨by rw[HE.out];rfl,HB8.out⟩
 ·have hb:(er != 0)=true:=by simpa using he
  have HE:Hid (fmtOf toks (queryT q) q=(e0,3)):=by show _=_;rw[HF.out];simp[he]
  clear he HF
  go_wp2_with fail
  go_ret2
  exact⟨by rw[HE.out];rfl,HB8.out⟩
theorem refFormat {W:World} {q:PQuery} {vs vc vi vp:Value} (hq:QSees W q vs vc vi vp) (hsh:tooMany q=false→QShort q):
  Calls Tryz.prog 21 #[.agg (qC q vs vc vi vp)] W (RefFmtPost q W):=by
 by_cases g1:6<q.spots.length
 ·exact refFmtMany1 hq g1
 by_cases g2:6<q.conds.length
 ·exact refFmtMany2 hq g1 g2
 by_cases g3:6<q.items.length
 ·exact refFmtMany3 hq g1 g2 g3
 by_cases g4:6<q.pairs.length
 ·exact refFmtMany4 hq g1 g2 g3 g4
 have h:=hsh (by unfold tooMany;simp;omega)
 obtain⟨⟨r,er⟩,hr⟩:∃p,parseText (toks (B (queryT q)))=p:=⟨_,rfl⟩
 exact refFmtRest hq h hr
end Go.Proofs.YtobgbmfpicmpcaaGreatDoor

/- How long the words of a query may be. -/
namespace Go.Proofs.YtobgbmfpicmpcaaGreatDoor
open Go Go.RowKit
/-! ### How long the words of a query may be -/
def Sh (l:List ByteArray):Prop:=∀w∈l,w.size≤1048576
theorem Sh.nil:Sh []:=fun _ h=>by cases h
theorem Sh.cons {a:ByteArray} {l:List ByteArray} (h:a.size≤1048576) (k:Sh l):Sh (a::l):=fun w hw=>by
 rcases List.mem_cons.1 hw with rfl|hw
 ·exact h
 ·exact k w hw
theorem Sh.app {a b:List ByteArray} (h:Sh a) (k:Sh b):Sh (a++b):=fun w hw=>by
 rcases List.mem_append.1 hw with hw|hw
 ·exact h w hw
 ·exact k w hw
theorem Sh.gather {α:Type} (f:Bool→α→List ByteArray):∀(l:List α) (b:Bool),(∀b,∀x∈l,Sh (f b x))→Sh (gather f b l)
 | [],_,_=>Sh.nil
 | x::r,b,h=>Sh.app (h b x (by simp)) (Sh.gather f r false (fun b y hy=>h b y (by simp[hy])))
theorem dec_sh {n:Int} (h:I64 n):(decB n).size≤1048576:=by have:=dec_size h;omega
theorem spaced_len:∀{l:List ByteArray},Sh l→(Pure.spaced l).length≤l.length*1048577
 | [],_=>by simp[Pure.spaced_nil]
 | a::r,h=>by
  have h1:=h a (by simp)
  have h2:=spaced_len (l:=r) (fun w hw=>h w (by simp[hw]))
  rw[Pure.spaced_cons]
  simp only[List.length_append,List.length_cons,bl_len,Nat.succ_mul]
  omega
theorem joined_len {l:List ByteArray} (h:Sh l):(joined l).length≤l.length*1048577:=by
 cases l with
 | nil=>simp[joined,Lib.join]
 | cons a r=>
  have h1:=h a (by simp)
  have h2:=spaced_len (l:=r) (fun w hw=>h w (by simp[hw]))
  rw[Pure.joined_cons]
  simp only[List.length_append,bl_len,List.length_cons,Nat.succ_mul]
  omega
theorem termW_sh {t:PTerm} (h:ShortTerm t):Sh (termW t):=by
 unfold termW
 split
 ·exact Sh.cons (dec_sh h.2.2) Sh.nil
 ·exact Sh.cons h.1 (Sh.cons (by decide) (Sh.cons h.2.1 Sh.nil))
theorem markW_sh (n:Int):(markW n).size≤1048576:=by have:=markW_len n;omega
theorem condW_sh (b:Bool) {c:PCond} (h:ShortCond c):Sh (condW b c):=by
 unfold condW opW
 refine Sh.cons (by cases b<;>decide) (Sh.app (termW_sh h.1) ?_)
 split
 ·exact Sh.cons (by decide) (Sh.cons (by decide) Sh.nil)
 ·split
  ·exact Sh.cons (by decide) (Sh.cons (by decide) (Sh.cons (by decide) Sh.nil))
  ·exact Sh.cons (markW_sh _) (termW_sh h.2)
theorem stepW_sh {x:PSpot} (h:ShortSpot x):Sh (stepW x):=by
 unfold stepW
 split
 ·exact Sh.cons (by decide) (Sh.cons h.2.2.1 (Sh.cons (by decide) Sh.nil))
 ·exact Sh.cons (by decide) (Sh.cons h.2.2.1 (Sh.cons (by decide) (Sh.cons (dec_sh h.2.2.2.1) (Sh.cons (by decide) (Sh.cons (dec_sh h.2.2.2.2) (Sh.cons (by decide) Sh.nil))))))
theorem nodeW_sh {x:PSpot} (h:ShortSpot x):Sh (nodeW x):=by
 unfold nodeW
 split
 ·exact Sh.cons (by decide) (Sh.cons h.1 (Sh.cons (by decide) Sh.nil))
 ·exact Sh.cons (by decide) (Sh.cons h.1 (Sh.cons (by decide) (Sh.cons h.2.1 (Sh.cons (by decide) Sh.nil))))
theorem spotW_sh (b:Bool) {x:PSpot} (h:ShortSpot x):Sh (spotW b x):=by
 unfold spotW
 refine Sh.app ?_ (nodeW_sh h)
 split
 ·split
  ·exact Sh.nil
  ·exact Sh.cons (by decide) Sh.nil
 ·exact stepW_sh h
theorem oneW_sh {x:PItem} (h:ShortItem x):Sh (oneW x):=by
 unfold oneW
 split
 ·exact Sh.cons (by decide) Sh.nil
 ·split
  ·exact Sh.cons h.1 Sh.nil
  ·exact Sh.cons h.1 (Sh.cons (by decide) (Sh.cons h.2 Sh.nil))
theorem itemW_sh (b:Bool) {x:PItem} (h:ShortItem x):Sh (itemW b x):=by
 unfold itemW
 refine Sh.app ?_ (oneW_sh h)
 split
 ·exact Sh.nil
 ·exact Sh.cons (by decide) Sh.nil
theorem pairW_sh (b:Bool) {p:PPair} (h:ShortPair p):Sh (pairW b p):=by
 unfold pairW
 refine Sh.app ?_ (Sh.cons h.1 (Sh.cons (by decide) (Sh.cons (dec_sh h.2) Sh.nil)))
 split
 ·exact Sh.nil
 ·exact Sh.cons (by decide) Sh.nil
theorem matchW_sh {q:PQuery} (h:QShort q):Sh (matchW q):=by
 unfold matchW
 exact Sh.cons (by decide) (Sh.app (Sh.gather spotW _ _ (fun b x hx=>spotW_sh b (h.sp x hx))) (Sh.gather condW _ _ (fun b x hx=>condW_sh b (h.co x hx))))
theorem readW_sh {q:PQuery} (h:QShort q):Sh (readW q):=by
 unfold readW partW orderW skipW limitW
 refine Sh.cons (by decide) (Sh.app (Sh.gather itemW _ _ (fun b x hx=>itemW_sh b (h.it x hx))) (Sh.app ?_ (Sh.app ?_ ?_)))
 ·split
  ·exact Sh.nil
  ·refine Sh.app (Sh.cons (by decide) (Sh.cons (by decide) (Sh.cons (dec_sh h.od) Sh.nil))) ?_
   split
   ·exact Sh.cons (by decide) Sh.nil
   ·exact Sh.nil
 ·split
  ·exact Sh.nil
  ·exact Sh.cons (by decide) (Sh.cons (dec_sh h.sk) Sh.nil)
 ·split
  ·exact Sh.nil
  ·exact Sh.cons (by decide) (Sh.cons (dec_sh h.li) Sh.nil)
theorem makeW_sh {q:PQuery} (h:QShort q):Sh (makeW q):=by
 unfold makeW
 refine Sh.app (Sh.cons (by decide) (Sh.cons (by decide) (Sh.cons h.la Sh.nil))) (Sh.app ?_ (Sh.cons (by decide) Sh.nil))
 split
 ·exact Sh.nil
 ·exact Sh.cons (by decide) (Sh.app (Sh.gather pairW _ _ (fun b x hx=>pairW_sh b (h.pa x hx))) (Sh.cons (by decide) Sh.nil))
theorem queryW_sh {q:PQuery} (h:QShort q):Sh (queryW q):=by
 unfold queryW
 split
 ·exact Sh.cons (by decide) (Sh.cons h.na Sh.nil)
 ·split
  ·exact makeW_sh h
  ·refine Sh.app (matchW_sh h) ?_
   unfold actW
   split
   ·exact readW_sh h
   ·split
    ·exact Sh.app (Sh.cons (by decide) (Sh.cons h.na (Sh.cons (by decide) (Sh.cons h.ke (Sh.cons (by decide) Sh.nil))))) (termW_sh h.va)
    ·split
     ·exact Sh.cons (by decide) (Sh.cons h.na Sh.nil)
     ·split
      ·exact Sh.cons (by decide) (Sh.cons (by decide) (Sh.cons h.na (Sh.cons (by decide) (Sh.cons (by decide) (Sh.cons h.ty (Sh.cons (by decide) (Sh.cons (by decide) (Sh.cons h.tw (Sh.cons (by decide) Sh.nil)))))))))
      ·exact Sh.nil
end Go.Proofs.YtobgbmfpicmpcaaGreatDoor

/- An append onto a slice that the call owns leaves what the slice itself owned as it was: at an operation, in a plain region, and at a step of a region that draws its order. Of no program. -/
namespace Go.Proofs.YtobgbmfpicmpcaaGreatDoor
open Go Go.RowKit
end Go.Proofs.YtobgbmfpicmpcaaGreatDoor

/- Rows of marks in memory, for any kind of record: the first ones written over; a longer row behind an append; lists of such rows. No walk in this text. -/
namespace Go.Proofs.YtobgbmfpicmpcaaGreatDoor
open Go.RowKit
def mC (m:List Value) (n:Nat):List Value:=(List.replicate n m).flatten
theorem mC_length {m:List Value} {k:Nat} (h:m.length=k):∀n,(mC m n).length=n*k
 | 0=>by simp[mC]
 | n+1=>by have:=mC_length h n;unfold mC at *;rw[List.replicate_succ,List.flatten_cons,List.length_append,this,h,Nat.succ_mul];omega
theorem mC_add (m:List Value) (a b:Nat):mC m (a+b)=mC m a++mC m b:=by
 unfold mC;rw[←List.replicate_append_replicate,List.flatten_append]
def MarkedK (B:Nat) (T:TypeId) (k:Nat) (m:List Value) (N:Nat) (w:World) (u:Value):Prop:=∃len,len≤N∧w.ownsRow B T k u len (mC m len)
theorem MarkedK.kept {B:Nat} {T:TypeId} {k:Nat} {m:List Value} {N:Nat} {w w':World} {u:Value} {row:Option Nat} (h:MarkedK B T k m N w u) (hg:w.grownBy w' row) (hne:u.ownBlock=none∨u.ownBlock≠row):MarkedK B T k m N w' u:=by
 obtain⟨len,h1,h2⟩:=h
 exact⟨len,h1,h2.kept hg hne⟩
theorem MarkedK.quiet {B:Nat} {T:TypeId} {k:Nat} {m:List Value} {N:Nat} {w w':World} {u:Value} (h:MarkedK B T k m N w u) (hg:w.grownBy w' none):MarkedK B T k m N w' u:=h.kept hg (by cases hv:u.ownBlock<;>simp)
theorem MarkedK.grown {B:Nat} {T:TypeId} {k:Nat} {m:List Value} {N:Nat} {w w':World} {u v:Value} (hk:0<k) (hm:m.length=k) (h:MarkedK B T k m N w u) (hv:w.ownsRow B T k v N (mC m N)) (hg:w.grownBy w' v.ownBlock) (hv':w'.ownsRow B T k v N (mC m N)):MarkedK B T k m (N+1) w' u:=by
 obtain⟨len,h1,h2⟩:=h
 by_cases he:u.ownBlock=none∨u.ownBlock≠v.ownBlock
 ·exact⟨len,by omega,h2.kept hg he⟩
 ·have he2:u.ownBlock=v.ownBlock:=by
   by_cases h3:u.ownBlock=v.ownBlock
   ·exact h3
   ·exact absurd (Or.inr h3) he
  refine⟨len,by omega,?_⟩
  rcases h2.2 with ⟨hu,h0⟩|⟨g,cap,cur,hu,hb,hgg,hnc,hcm,hcs,ht⟩
  ·rw[hu];subst h0;exact World.ownsRow_nil _ _ _ _
  ·rcases hv.2 with ⟨hvn,_⟩|⟨g2,cap2,cur2,hv2,_,hgg2,_,_,hcs2,_⟩
   ·rw[hu,hvn] at he2;simp[Value.ownBlock] at he2
   ·rw[hu,hv2] at he2
    have hgeq:g=g2:=by simpa [Value.ownBlock] using he2
    subst hgeq
    rw[hgg] at hgg2
    injection hgg2 with hgg2
    injection hgg2 with hcc _ _
    subst hcc
    have hcap:cap=cap2:=Nat.eq_of_mul_eq_mul_right hk (hcs.symm.trans hcs2)
    subst hcap
    rw[hu]
    have e:mC m N=mC m len++mC m (N - len):=by rw[←mC_add];congr 1;omega
    rw[hv2,e] at hv'
    exact own_front hv' (mC_length hm len) h1
end Go.Proofs.YtobgbmfpicmpcaaGreatDoor

/- The marks of a query's owner. -/
namespace Go.Proofs.YtobgbmfpicmpcaaGreatDoor
open Go.RowKit
set_option maxRecDepth 100000 in
theorem spotMark (n:Int) (w:World):Calls Tryz.prog 48 #[.int .i64 n] w fun e w'=>e=.returned (.agg #[.string ⟨#[111,119,110]⟩,.string ⟨#[]⟩,.string ⟨#[]⟩,.int .i64 n,.int .i64 0])∧Below w.heap.size w w':=by
 go_enter Tryz.func48,Tryz.ntmps48
 go_wp2_with fail
 refine bodyPost_ret (v:=.agg #[.string ⟨#[111,119,110]⟩,.string ⟨#[]⟩,.string ⟨#[]⟩,.int .i64 n,.int .i64 0]) ?_ rfl ⟨rfl,?_⟩
 ·simp[results,Tryz.results48,go_sem]
 ·exact Below.alloc (Below.refl _ _) (Nat.le_refl _) _
set_option maxRecDepth 100000 in
theorem condMark (n:Int) (w:World):Calls Tryz.prog 49 #[.int .i64 n] w fun e w'=>e=.returned (.agg #[.int .i64 n,.string ⟨#[]⟩,.string ⟨#[]⟩,.int .i64 0,.string ⟨#[]⟩,.string ⟨#[]⟩,.int .i64 0])∧Below w.heap.size w w':=by
 go_enter Tryz.func49,Tryz.ntmps49
 go_wp2_with fail
 refine bodyPost_ret (v:=.agg #[.int .i64 n,.string ⟨#[]⟩,.string ⟨#[]⟩,.int .i64 0,.string ⟨#[]⟩,.string ⟨#[]⟩,.int .i64 0]) ?_ rfl ⟨rfl,?_⟩
 ·simp[results,Tryz.results49,go_sem]
 ·exact Below.alloc (Below.refl _ _) (Nat.le_refl _) _
set_option maxRecDepth 100000 in
theorem pairMark (n:Int) (w:World):Calls Tryz.prog 51 #[.int .i64 n] w fun e w'=>e=.returned (.agg #[.string ⟨#[111,119,110]⟩,.int .i64 n])∧Below w.heap.size w w':=by
 go_enter Tryz.func51,Tryz.ntmps51
 go_wp2_with fail
 refine bodyPost_ret (v:=.agg #[.string ⟨#[111,119,110]⟩,.int .i64 n]) ?_ rfl ⟨rfl,?_⟩
 ·simp[results,Tryz.results51,go_sem]
 ·exact Below.alloc (Below.refl _ _) (Nat.le_refl _) _
set_option maxRecDepth 100000 in
theorem itemMark77  (w:World):Calls Tryz.prog 50 #[.int .i64 77] w fun e w'=>e=.returned (.agg #[.string ⟨#[111,119,110]⟩,.string ⟨#[77]⟩])∧Below w.heap.size w w':=by
 have hcv:(convert 168 9 (.slice (some ⟨w.heap.size+1,0,none⟩) 1 1)).run Tryz.prog ((w.alloc (.cells #[.string ⟨#[]⟩,.string ⟨#[]⟩] 89)).alloc (.cells #[.int .u8 77] 5))=.ok (.string ⟨#[77]⟩) ((w.alloc (.cells #[.string ⟨#[]⟩,.string ⟨#[]⟩] 89)).alloc (.cells #[.int .u8 77] 5)):=by
  refine run_convert_bytes_back _ _ _ 5 ⟨w.heap.size+1,0,none⟩ 1 [77] Tryz.underlying168 Tryz.underlying5 Tryz.underlying9 ?_
  intro j hj
  have hj0:j=0:=by simp at hj;omega
  subst hj0
  simp[Addr.add]
 go_enter Tryz.func50,Tryz.ntmps50
 go_wp2_with fail
 refine bodyPost_ret (v:=.agg #[.string ⟨#[111,119,110]⟩,.string ⟨#[77]⟩]) ?_ rfl ⟨rfl,?_⟩
 ·simp[results,Tryz.results50,go_sem]
 ·exact Below.alloc (Below.alloc (Below.refl _ _) (Nat.le_refl _) _) (by simp) _
end Go.Proofs.YtobgbmfpicmpcaaGreatDoor

/- What stands in memory while the owner of a query writes over its lists: the query's copy, the answer's block, the local, the four rows, the four lists of rows. No walk in this text. -/
namespace Go.Proofs.YtobgbmfpicmpcaaGreatDoor
open Go.RowKit
structure OwnAt (B:Nat) (W:World) (X R O:Nat) (q:PQuery) (Ms Mc Mi Mp:List Value) (vs vc vi vp:Value) (ns nc ni np:Nat) (xs xc xi xp:List Value) (os oc oi op:Value) (js jc ji jp:Nat) (us uc ui up:List Value) (w:World):Prop where
 low:Below B W w
 hB:B≤W.heap.size
 lx:Loc w X (qC q vs vc vi vp) 29
 lr:Loc w R #[.slice none 0 0,.slice none 0 0,.slice none 0 0,.slice none 0 0] 39
 lo:Loc w O #[os,oc,oi,op] 39
 bx:B≤X
 br:B≤R
 bo:B≤O
 ro:R≠O
 rs:w.ownsRow B 85 5 vs ns xs
 ls:w.ownsRow B 22 1 os js us
 ms:∀u∈us,MarkedK B 85 5 Ms ns w u
 rc:w.ownsRow B 87 7 vc nc xc
 lc:w.ownsRow B 23 1 oc jc uc
 mc:∀u∈uc,MarkedK B 87 7 Mc nc w u
 ri:w.ownsRow B 89 2 vi ni xi
 li:w.ownsRow B 24 1 oi ji ui
 mi:∀u∈ui,MarkedK B 89 2 Mi ni w u
 rp:w.ownsRow B 91 2 vp np xp
 lp:w.ownsRow B 27 1 op jp up
 mp:∀u∈up,MarkedK B 91 2 Mp np w u
variable {B:Nat} {W w w2:World} {X R O ns nc ni np js jc ji jp:Nat} {q:PQuery} {vs vc vi vp os oc oi op:Value} {Ms Mc Mi Mp xs xc xi xp us uc ui up:List Value}
theorem below_grown {B:Nat} {W w w2:World} {r:Option Nat} (h:Below B W w) (hB:B≤W.heap.size) (g:w.grownBy w2 r) (hr:∀x,r=some x→B≤x):Below B W w2:=by
 have hs:=h.size
 refine⟨g.os.trans h.os,g.tape.trans h.tape,g.output.trans h.output,Nat.le_trans hs g.size,fun k hk=>(g.block k (by omega) ?_).trans (h.block k hk)⟩
 intro e
 have:=hr k e.symm
 omega
theorem OwnAt.quiet (h:OwnAt B W X R O q Ms Mc Mi Mp vs vc vi vp ns nc ni np xs xc xi xp os oc oi op js jc ji jp us uc ui up w) (g:w.grownBy w2 none):OwnAt B W X R O q Ms Mc Mi Mp vs vc vi vp ns nc ni np xs xc xi xp os oc oi op js jc ji jp us uc ui up w2:=
 ⟨below_grown h.low h.hB g (fun x e=>by cases e),h.hB,h.lx.grown g (by simp),h.lr.grown g (by simp),h.lo.grown g (by simp),h.bx,h.br,h.bo,h.ro,kept_none h.rs g,kept_none h.ls g,fun u hu=>(h.ms u hu).quiet g,kept_none h.rc g,kept_none h.lc g,fun u hu=>(h.mc u hu).quiet g,kept_none h.ri g,kept_none h.li g,fun u hu=>(h.mi u hu).quiet g,kept_none h.rp g,kept_none h.lp g,fun u hu=>(h.mp u hu).quiet g⟩
theorem OwnAt.later (h:OwnAt B W X R O q Ms Mc Mi Mp vs vc vi vp ns nc ni np xs xc xi xp os oc oi op js jc ji jp us uc ui up w) (hb:Below w.heap.size w w2):OwnAt B W X R O q Ms Mc Mi Mp vs vc vi vp ns nc ni np xs xc xi xp os oc oi op js jc ji jp us uc ui up w2:=h.quiet (grown_below hb none)
theorem OwnAt.alloc (h:OwnAt B W X R O q Ms Mc Mi Mp vs vc vi vp ns nc ni np xs xc xi xp os oc oi op js jc ji jp us uc ui up w) (o:Obj):OwnAt B W X R O q Ms Mc Mi Mp vs vc vi vp ns nc ni np xs xc xi xp os oc oi op js jc ji jp us uc ui up (w.alloc o):=h.quiet (grown_alloc w o none)
theorem OwnAt.drew (h:OwnAt B W X R O q Ms Mc Mi Mp vs vc vi vp ns nc ni np xs xc xi xp os oc oi op js jc ji jp us uc ui up w) (n:Nat):OwnAt B W X R O q Ms Mc Mi Mp vs vc vi vp ns nc ni np xs xc xi xp os oc oi op js jc ji jp us uc ui up (w.drewN n):=h.quiet (grown_drew w n none)
end Go.Proofs.YtobgbmfpicmpcaaGreatDoor

/- A call of a function at a step of a region that draws its order, by its contract. Of no program. -/
namespace Go.Proofs.YtobgbmfpicmpcaaGreatDoor
open Go Go.RowKit
theorem Tryz.listS:(Tryz.prog.info? 22).map (fun i=>(i.zero,i.size,i.bytes))=some (some (.slice none 0 0),1,24):=by kernel_rfl
theorem Tryz.listC:(Tryz.prog.info? 23).map (fun i=>(i.zero,i.size,i.bytes))=some (some (.slice none 0 0),1,24):=by kernel_rfl
theorem Tryz.listI:(Tryz.prog.info? 24).map (fun i=>(i.zero,i.size,i.bytes))=some (some (.slice none 0 0),1,24):=by kernel_rfl
theorem Tryz.listP:(Tryz.prog.info? 27).map (fun i=>(i.zero,i.size,i.bytes))=some (some (.slice none 0 0),1,24):=by kernel_rfl
theorem slice_one {ao:Option Addr} {n c:Nat}:∀u∈[Value.slice ao n c],u.oneCell'=true:=by
 intro u hu
 simp at hu
 subst hu;rfl
end Go.Proofs.YtobgbmfpicmpcaaGreatDoor

