/- The program's same: a number, a text or a mark parts. -/
import Derived.Test.YtobgbmfpicmpcaaGreatDoorC15
import Derived.Test.YtobgbmfpicmpcaaGreatDoorC07
namespace Go.Proofs.YtobgbmfpicmpcaaGreatDoor
open Go.RowKit
theorem eqRest_all {a b:PQuery} (h:eqRest a b=true):a.kind=b.kind∧a.order=b.order∧a.down=b.down∧a.skip=b.skip∧a.limit=b.limit∧a.name=b.name∧a.key=b.key∧a.value.name=b.value.name∧a.value.key=b.value.key∧a.value.val=b.value.val∧a.type=b.type∧a.to=b.to∧a.label=b.label:=by
 simp only[eqRest,Bool.and_eq_true,decide_eq_true_eq,Pure.eqB_iff,Pure.eqTerm_iff] at h
 obtain⟨⟨⟨⟨⟨⟨⟨⟨⟨⟨h1,h2⟩,h3⟩,h4⟩,h5⟩,h6⟩,h7⟩,h8⟩,h9⟩,h10⟩,h11⟩:=h
 rw[h8]
 exact⟨h1,h2,h3,h4,h5,h6,h7,rfl,rfl,rfl,h9,h10,h11⟩
set_option maxRecDepth 100000 in
set_option maxHeartbeats 9000000 in
theorem sameScal {W:World} {a b:PQuery} {a1 a2 a3 a4 b1 b2 b3 b4:Option Addr} {m1 m2 m3 m4 n1 n2 n3 n4 k1 k2 k3 k4 l1 l2 l3 l4:Nat} (hne:eqRest a b=false):
  Calls Tryz.prog 55 #[.agg (qC a (.slice a1 m1 k1) (.slice a2 m2 k2) (.slice a3 m3 k3) (.slice a4 m4 k4)),.agg (qC b (.slice b1 n1 l1) (.slice b2 n2 l2) (.slice b3 n3 l3) (.slice b4 n4 l4))] W fun e W'=>e=.returned (.bool false)∧Below W.heap.size W W':=by
 have HN:=Lib.hid hne
 clear hne
 have H0:Hid (Below W.heap.size W ((W.alloc (.cells (qC a (.slice a1 m1 k1) (.slice a2 m2 k2) (.slice a3 m3 k3) (.slice a4 m4 k4)) 29)).alloc (.cells (qC b (.slice b1 n1 l1) (.slice b2 n2 l2) (.slice b3 n3 l3) (.slice b4 n4 l4)) 29))∧Loc ((W.alloc (.cells (qC a (.slice a1 m1 k1) (.slice a2 m2 k2) (.slice a3 m3 k3) (.slice a4 m4 k4)) 29)).alloc (.cells (qC b (.slice b1 n1 l1) (.slice b2 n2 l2) (.slice b3 n3 l3) (.slice b4 n4 l4)) 29)) W.heap.size (qC a (.slice a1 m1 k1) (.slice a2 m2 k2) (.slice a3 m3 k3) (.slice a4 m4 k4)) 29∧Loc ((W.alloc (.cells (qC a (.slice a1 m1 k1) (.slice a2 m2 k2) (.slice a3 m3 k3) (.slice a4 m4 k4)) 29)).alloc (.cells (qC b (.slice b1 n1 l1) (.slice b2 n2 l2) (.slice b3 n3 l3) (.slice b4 n4 l4)) 29)) (W.heap.size+1) (qC b (.slice b1 n1 l1) (.slice b2 n2 l2) (.slice b3 n3 l3) (.slice b4 n4 l4)) 29):=by
  have hs:=size_alloc W (.cells (qC a (.slice a1 m1 k1) (.slice a2 m2 k2) (.slice a3 m3 k3) (.slice a4 m4 k4)) 29)
  refine⟨Below.alloc (Below.alloc (Below.refl _ _) (Nat.le_refl _) _) (by omega) _,(Loc.new W _ _).alloc _,?_⟩
  rw[←hs];exact Loc.new _ _ _
 go_enter Tryz.func55,Tryz.ntmps55
 go_upto_region 1 with fail
 have HB:=Lib.hid H0.out.1
 have LX:=Lib.hid H0.out.2.1
 have LY:=Lib.hid H0.out.2.2
 clear H0
 obtain⟨X,hX⟩:∃X,X=W.heap.size:=⟨_,rfl⟩
 obtain⟨Y,hY⟩:∃Y,Y=W.heap.size+1:=⟨_,rfl⟩
 rw[←hX] at LX
 rw[←hY] at LY
 rw[←hY,←hX]
 clear hX hY
 generalize (W.alloc (.cells (qC a (.slice a1 m1 k1) (.slice a2 m2 k2) (.slice a3 m3 k3) (.slice a4 m4 k4)) 29)).alloc (.cells (qC b (.slice b1 n1 l1) (.slice b2 n2 l2) (.slice b3 n3 l3) (.slice b4 n4 l4)) 29)=W2 at HB LX LY⊢
 have x0:=LX.out.at_ 0 (.int .i64 a.kind) rfl
 have y0:=LY.out.at_ 0 (.int .i64 b.kind) rfl
 have x4:=LX.out.at_ 4 (.int .i64 a.order) rfl
 have y4:=LY.out.at_ 4 (.int .i64 b.order) rfl
 have x5:=LX.out.at_ 5 (.bool a.down) rfl
 have y5:=LY.out.at_ 5 (.bool b.down) rfl
 have x6:=LX.out.at_ 6 (.int .i64 a.skip) rfl
 have y6:=LY.out.at_ 6 (.int .i64 b.skip) rfl
 have x7:=LX.out.at_ 7 (.int .i64 a.limit) rfl
 have y7:=LY.out.at_ 7 (.int .i64 b.limit) rfl
 have x8:=LX.out.at_ 8 (.string a.name) rfl
 have y8:=LY.out.at_ 8 (.string b.name) rfl
 have x9:=LX.out.at_ 9 (.string a.key) rfl
 have y9:=LY.out.at_ 9 (.string b.key) rfl
 have x10:=LX.out.at_ 10 (.string a.value.name) rfl
 have y10:=LY.out.at_ 10 (.string b.value.name) rfl
 have x11:=LX.out.at_ 11 (.string a.value.key) rfl
 have y11:=LY.out.at_ 11 (.string b.value.key) rfl
 have x12:=LX.out.at_ 12 (.int .i64 a.value.val) rfl
 have y12:=LY.out.at_ 12 (.int .i64 b.value.val) rfl
 have x13:=LX.out.at_ 13 (.string a.type) rfl
 have y13:=LY.out.at_ 13 (.string b.type) rfl
 have x14:=LX.out.at_ 14 (.string a.to) rfl
 have y14:=LY.out.at_ 14 (.string b.to) rfl
 have x15:=LX.out.at_ 15 (.string a.label) rfl
 have y15:=LY.out.at_ 15 (.string b.label) rfl
 clear LX LY
 obtain⟨kd,spA,coA,itA,od,dn,sk,li,nm,ke,⟨vn,vk,vv⟩,ty,tt,la,paA⟩:=a
 obtain⟨kd',spB,coB,itB,od',dn',sk',li',nm',ke',⟨vn',vk',vv'⟩,ty',tt',la',paB⟩:=b
 simp only at x0 y0 x4 y4 x5 y5 x6 y6 x7 y7 x8 y8 x9 y9 x10 y10 x11 y11 x12 y12 x13 y13 x14 y14 x15 y15
 by_cases e0:kd≠kd'
 ·have hne:(kd==kd')=false:=by simpa using e0
  clear e0
  go_wp2_with fail
  go_ret
  exact⟨rfl,HB.out⟩
 rw[ne_eq,Classical.not_not] at e0
 subst e0
 by_cases e4:od≠od'
 ·have hne:(od==od')=false:=by simpa using e4
  clear e4
  go_wp2_with fail
  go_ret
  exact⟨rfl,HB.out⟩
 rw[ne_eq,Classical.not_not] at e4
 subst e4
 by_cases e5:dn≠dn'
 ·have hne:(dn==dn')=false:=by simpa using e5
  clear e5
  go_wp2_with fail
  go_ret
  exact⟨rfl,HB.out⟩
 rw[ne_eq,Classical.not_not] at e5
 subst e5
 by_cases e6:sk≠sk'
 ·have hne:(sk==sk')=false:=by simpa using e6
  clear e6
  go_wp2_with fail
  go_ret
  exact⟨rfl,HB.out⟩
 rw[ne_eq,Classical.not_not] at e6
 subst e6
 by_cases e7:li≠li'
 ·have hne:(li==li')=false:=by simpa using e7
  clear e7
  go_wp2_with fail
  go_ret
  exact⟨rfl,HB.out⟩
 rw[ne_eq,Classical.not_not] at e7
 subst e7
 by_cases e8:nm≠nm'
 ·have hne:(nm.toList==nm'.toList)=false:=toList_ne e8
  clear e8
  go_wp2_with fail
  go_ret
  exact⟨rfl,HB.out⟩
 rw[ne_eq,Classical.not_not] at e8
 subst e8
 by_cases e9:ke≠ke'
 ·have hne:(ke.toList==ke'.toList)=false:=toList_ne e9
  clear e9
  go_wp2_with fail
  go_ret
  exact⟨rfl,HB.out⟩
 rw[ne_eq,Classical.not_not] at e9
 subst e9
 by_cases e10:vn≠vn'
 ·have hne:(vn.toList==vn'.toList)=false:=toList_ne e10
  clear e10
  go_wp2_with fail
  go_ret
  exact⟨rfl,HB.out⟩
 rw[ne_eq,Classical.not_not] at e10
 subst e10
 by_cases e11:vk≠vk'
 ·have hne:(vk.toList==vk'.toList)=false:=toList_ne e11
  clear e11
  go_wp2_with fail
  go_ret
  exact⟨rfl,HB.out⟩
 rw[ne_eq,Classical.not_not] at e11
 subst e11
 by_cases e12:vv≠vv'
 ·have hne:(vv==vv')=false:=by simpa using e12
  clear e12
  go_wp2_with fail
  go_ret
  exact⟨rfl,HB.out⟩
 rw[ne_eq,Classical.not_not] at e12
 subst e12
 by_cases e13:ty≠ty'
 ·have hne:(ty.toList==ty'.toList)=false:=toList_ne e13
  clear e13
  go_wp2_with fail
  go_ret
  exact⟨rfl,HB.out⟩
 rw[ne_eq,Classical.not_not] at e13
 subst e13
 by_cases e14:tt≠tt'
 ·have hne:(tt.toList==tt'.toList)=false:=toList_ne e14
  clear e14
  go_wp2_with fail
  go_ret
  exact⟨rfl,HB.out⟩
 rw[ne_eq,Classical.not_not] at e14
 subst e14
 by_cases e15:la≠la'
 ·have hne:(la.toList==la'.toList)=false:=toList_ne e15
  clear e15
  go_wp2_with fail
  go_ret
  exact⟨rfl,HB.out⟩
 rw[ne_eq,Classical.not_not] at e15
 subst e15
 have h:=HN.out
 simp[eqRest,Pure.eqB_refl,Pure.eqTerm_iff.2] at h
end Go.Proofs.YtobgbmfpicmpcaaGreatDoor

