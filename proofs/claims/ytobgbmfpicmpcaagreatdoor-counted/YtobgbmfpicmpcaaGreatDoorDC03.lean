/- The texts of veilkeep: conditions, matches, reads. -/
import Derived.Test.YtobgbmfpicmpcaaGreatDoorC42
import Derived.Test.YtobgbmfpicmpcaaGreatDoorC38
import Derived.Test.YtobgbmfpicmpcaaGreatDoorDC02
import Derived.Lib.Hide
set_option maxRecDepth 100000
set_option maxHeartbeats 8000000
namespace Go.Proofs.YtobgbmfpicmpcaaGreatDoor
open Go.Lib (hid)
section
open Go.RowKit
theorem below_a (w:World) (o:Obj):Below w.heap.size w (w.alloc o):=(Below.refl _ _).alloc (Nat.le_refl _) _
theorem condK0 {W:World} {c:Int} (hc:ux c) (ht:BG W) (hk:pk c 5=0):
  Calls Tryz.prog 76 #[.int .i64 c] W fun e W'=>e=.returned (.string (kcText (kc c)))∧Below W.heap.size W W':=by
 have h0:=ma (c:=c.tdiv 5) (n:=1099511627776) (by omega)
 have h1:=zb (c:=c.tdiv 5) (n:=1099511627776) (by omega)
 have HE0:=hid (Pure.kc_text0 hk)
 have HK:=hid hk
 have HC:=hid hc
 have HT:=hid (ht.below (below_a W (.cells #[.string ⟨#[97]⟩,.string ⟨#[98]⟩,.string ⟨#[99]⟩] 9)))
 have HB:=hid (below_a W (.cells #[.string ⟨#[97]⟩,.string ⟨#[98]⟩,.string ⟨#[99]⟩] 9))
 clear hk ht
 obtain⟨c0,c1⟩:=hc
 obtain⟨d,hd⟩:∃d,pk (c.tdiv 5) 1099511627776=d:=⟨_,rfl⟩
 have HD:=hid hd
 have HE:Hid (kcText (kc c)=vB (pk d 3)++⟨#[32,46,32,107]⟩++⟨#[32,73,83,32,78,85,76,76]⟩):=by have h:=HE0.out;rw[show kcD c=d from hd] at h;exact h
 rw[hd] at h0 h1
 have hs9:=Pure.yL (d / 9)
 clear hd HE0
 rcases Pure.pk3 d with hi|hi|hi
 ·have HI:=hid hi
  clear hi
  go_enter Tryz.func76,Tryz.ntmps76
  go_wp2_with fail
  refine(vI (c:=c.tdiv 5) (Ex HC.out (by omega)) (by omega) (by omega)).mono ?_
  rw[HD.out]
  rintro e w1 ⟨rfl,hw⟩
  obtain rfl:=hw.symm
  go_wp2_with fail
  refine(vI (c:=d) ⟨by omega,by omega⟩ (by omega) (by omega)).mono ?_
  rw[HI.out]
  rintro e w1 ⟨rfl,hw⟩
  obtain rfl:=hw.symm
  go_wp2_with fail
  refine(vI HC.out (by omega) (by omega)).mono ?_
  rw[HK.out]
  rintro e w1 ⟨rfl,hw⟩
  obtain rfl:=hw.symm
  go_wp2_with fail
  go_ret
  exact⟨by rw[HE.out,HI.out];rfl,HB.out⟩
 ·have HI:=hid hi
  clear hi
  go_enter Tryz.func76,Tryz.ntmps76
  go_wp2_with fail
  refine(vI (c:=c.tdiv 5) (Ex HC.out (by omega)) (by omega) (by omega)).mono ?_
  rw[HD.out]
  rintro e w1 ⟨rfl,hw⟩
  obtain rfl:=hw.symm
  go_wp2_with fail
  refine(vI (c:=d) ⟨by omega,by omega⟩ (by omega) (by omega)).mono ?_
  rw[HI.out]
  rintro e w1 ⟨rfl,hw⟩
  obtain rfl:=hw.symm
  go_wp2_with fail
  refine(vI HC.out (by omega) (by omega)).mono ?_
  rw[HK.out]
  rintro e w1 ⟨rfl,hw⟩
  obtain rfl:=hw.symm
  go_wp2_with fail
  go_ret
  exact⟨by rw[HE.out,HI.out];rfl,HB.out⟩
 ·have HI:=hid hi
  clear hi
  go_enter Tryz.func76,Tryz.ntmps76
  go_wp2_with fail
  refine(vI (c:=c.tdiv 5) (Ex HC.out (by omega)) (by omega) (by omega)).mono ?_
  rw[HD.out]
  rintro e w1 ⟨rfl,hw⟩
  obtain rfl:=hw.symm
  go_wp2_with fail
  refine(vI (c:=d) ⟨by omega,by omega⟩ (by omega) (by omega)).mono ?_
  rw[HI.out]
  rintro e w1 ⟨rfl,hw⟩
  obtain rfl:=hw.symm
  go_wp2_with fail
  refine(vI HC.out (by omega) (by omega)).mono ?_
  rw[HK.out]
  rintro e w1 ⟨rfl,hw⟩
  obtain rfl:=hw.symm
  go_wp2_with fail
  go_ret
  exact⟨by rw[HE.out,HI.out];rfl,HB.out⟩
theorem condK1 {W:World} {c:Int} (hc:ux c) (ht:BG W) (hk:pk c 5=1):
  Calls Tryz.prog 76 #[.int .i64 c] W fun e W'=>e=.returned (.string (kcText (kc c)))∧Below W.heap.size W W':=by
 have h0:=ma (c:=c.tdiv 5) (n:=1099511627776) (by omega)
 have h1:=zb (c:=c.tdiv 5) (n:=1099511627776) (by omega)
 have HE0:=hid (Pure.kc_text1 hk)
 have HK:=hid hk
 have HC:=hid hc
 have HT:=hid (ht.below (below_a W (.cells #[.string ⟨#[97]⟩,.string ⟨#[98]⟩,.string ⟨#[99]⟩] 9)))
 have HB:=hid (below_a W (.cells #[.string ⟨#[97]⟩,.string ⟨#[98]⟩,.string ⟨#[99]⟩] 9))
 clear hk ht
 obtain⟨c0,c1⟩:=hc
 obtain⟨d,hd⟩:∃d,pk (c.tdiv 5) 1099511627776=d:=⟨_,rfl⟩
 have HD:=hid hd
 have HE:Hid (kcText (kc c)=vB (pk d 3)++⟨#[32,46,32,107]⟩++⟨#[32,73,83,32,78,79,84,32,78,85,76,76]⟩):=by have h:=HE0.out;rw[show kcD c=d from hd] at h;exact h
 rw[hd] at h0 h1
 have hs9:=Pure.yL (d / 9)
 clear hd HE0
 rcases Pure.pk3 d with hi|hi|hi
 ·have HI:=hid hi
  clear hi
  go_enter Tryz.func76,Tryz.ntmps76
  go_wp2_with fail
  refine(vI (c:=c.tdiv 5) (Ex HC.out (by omega)) (by omega) (by omega)).mono ?_
  rw[HD.out]
  rintro e w1 ⟨rfl,hw⟩
  obtain rfl:=hw.symm
  go_wp2_with fail
  refine(vI (c:=d) ⟨by omega,by omega⟩ (by omega) (by omega)).mono ?_
  rw[HI.out]
  rintro e w1 ⟨rfl,hw⟩
  obtain rfl:=hw.symm
  go_wp2_with fail
  refine(vI HC.out (by omega) (by omega)).mono ?_
  rw[HK.out]
  rintro e w1 ⟨rfl,hw⟩
  obtain rfl:=hw.symm
  go_wp2_with fail
  go_ret
  exact⟨by rw[HE.out,HI.out];rfl,HB.out⟩
 ·have HI:=hid hi
  clear hi
  go_enter Tryz.func76,Tryz.ntmps76
  go_wp2_with fail
  refine(vI (c:=c.tdiv 5) (Ex HC.out (by omega)) (by omega) (by omega)).mono ?_
  rw[HD.out]
  rintro e w1 ⟨rfl,hw⟩
  obtain rfl:=hw.symm
  go_wp2_with fail
  refine(vI (c:=d) ⟨by omega,by omega⟩ (by omega) (by omega)).mono ?_
  rw[HI.out]
  rintro e w1 ⟨rfl,hw⟩
  obtain rfl:=hw.symm
  go_wp2_with fail
  refine(vI HC.out (by omega) (by omega)).mono ?_
  rw[HK.out]
  rintro e w1 ⟨rfl,hw⟩
  obtain rfl:=hw.symm
  go_wp2_with fail
  go_ret
  exact⟨by rw[HE.out,HI.out];rfl,HB.out⟩
 ·have HI:=hid hi
  clear hi
  go_enter Tryz.func76,Tryz.ntmps76
  go_wp2_with fail
  refine(vI (c:=c.tdiv 5) (Ex HC.out (by omega)) (by omega) (by omega)).mono ?_
  rw[HD.out]
  rintro e w1 ⟨rfl,hw⟩
  obtain rfl:=hw.symm
  go_wp2_with fail
  refine(vI (c:=d) ⟨by omega,by omega⟩ (by omega) (by omega)).mono ?_
  rw[HI.out]
  rintro e w1 ⟨rfl,hw⟩
  obtain rfl:=hw.symm
  go_wp2_with fail
  refine(vI HC.out (by omega) (by omega)).mono ?_
  rw[HK.out]
  rintro e w1 ⟨rfl,hw⟩
  obtain rfl:=hw.symm
  go_wp2_with fail
  go_ret
  exact⟨by rw[HE.out,HI.out];rfl,HB.out⟩
theorem condK2 {W:World} {c:Int} (hc:ux c) (ht:BG W) (hk:pk c 5=2):
  Calls Tryz.prog 76 #[.int .i64 c] W fun e W'=>e=.returned (.string (kcText (kc c)))∧Below W.heap.size W W':=by
 have h0:=ma (c:=c.tdiv 5) (n:=1099511627776) (by omega)
 have h1:=zb (c:=c.tdiv 5) (n:=1099511627776) (by omega)
 have HE0:=hid (Pure.kc_text2 hk)
 have HK:=hid hk
 have HC:=hid hc
 have HT:=hid (ht.below (below_a W (.cells #[.string ⟨#[97]⟩,.string ⟨#[98]⟩,.string ⟨#[99]⟩] 9)))
 have HB:=hid (below_a W (.cells #[.string ⟨#[97]⟩,.string ⟨#[98]⟩,.string ⟨#[99]⟩] 9))
 clear hk ht
 obtain⟨c0,c1⟩:=hc
 obtain⟨d,hd⟩:∃d,pk (c.tdiv 5) 1099511627776=d:=⟨_,rfl⟩
 have HD:=hid hd
 have HE:Hid (kcText (kc c)=vB (pk d 3)++⟨#[32,46,32,107]⟩++⟨#[32,60,61,32]⟩++vB (pk (d / 3) 3)++⟨#[32,46,32,107]⟩):=by have h:=HE0.out;rw[show kcD c=d from hd] at h;exact h
 rw[hd] at h0 h1
 have hs9:=Pure.yL (d / 9)
 clear hd HE0
 rcases Pure.pk3 d with hi|hi|hi
 ·have hj3:=Pure.pk3 (d / 3)
  rcases hj3 with hj|hj|hj
  ·have HJ:=hid hj
   clear hj
   have HI:=hid hi
   clear hi
   go_enter Tryz.func76,Tryz.ntmps76
   go_wp2_with fail
   refine(vI (c:=c.tdiv 5) (Ex HC.out (by omega)) (by omega) (by omega)).mono ?_
   rw[HD.out]
   rintro e w1 ⟨rfl,hw⟩
   obtain rfl:=hw.symm
   go_wp2_with fail
   refine(vI (c:=d) ⟨by omega,by omega⟩ (by omega) (by omega)).mono ?_
   rw[HI.out]
   rintro e w1 ⟨rfl,hw⟩
   obtain rfl:=hw.symm
   go_wp2_with fail
   refine(vI HC.out (by omega) (by omega)).mono ?_
   rw[HK.out]
   rintro e w1 ⟨rfl,hw⟩
   obtain rfl:=hw.symm
   go_wp2_with fail
   refine(vI (c:=d / 3) ⟨by omega,by omega⟩ (by omega) (by omega)).mono ?_
   rw[HJ.out]
   rintro e w1 ⟨rfl,hw⟩
   obtain rfl:=hw.symm
   go_wp2_with fail
   go_ret
   exact⟨by rw[HE.out,HI.out,HJ.out];rfl,HB.out⟩
  ·have HJ:=hid hj
   clear hj
   have HI:=hid hi
   clear hi
   go_enter Tryz.func76,Tryz.ntmps76
   go_wp2_with fail
   refine(vI (c:=c.tdiv 5) (Ex HC.out (by omega)) (by omega) (by omega)).mono ?_
   rw[HD.out]
   rintro e w1 ⟨rfl,hw⟩
   obtain rfl:=hw.symm
   go_wp2_with fail
   refine(vI (c:=d) ⟨by omega,by omega⟩ (by omega) (by omega)).mono ?_
   rw[HI.out]
   rintro e w1 ⟨rfl,hw⟩
   obtain rfl:=hw.symm
   go_wp2_with fail
   refine(vI HC.out (by omega) (by omega)).mono ?_
   rw[HK.out]
   rintro e w1 ⟨rfl,hw⟩
   obtain rfl:=hw.symm
   go_wp2_with fail
   refine(vI (c:=d / 3) ⟨by omega,by omega⟩ (by omega) (by omega)).mono ?_
   rw[HJ.out]
   rintro e w1 ⟨rfl,hw⟩
   obtain rfl:=hw.symm
   go_wp2_with fail
   go_ret
   exact⟨by rw[HE.out,HI.out,HJ.out];rfl,HB.out⟩
  ·have HJ:=hid hj
   clear hj
   have HI:=hid hi
   clear hi
   go_enter Tryz.func76,Tryz.ntmps76
   go_wp2_with fail
   refine(vI (c:=c.tdiv 5) (Ex HC.out (by omega)) (by omega) (by omega)).mono ?_
   rw[HD.out]
   rintro e w1 ⟨rfl,hw⟩
   obtain rfl:=hw.symm
   go_wp2_with fail
   refine(vI (c:=d) ⟨by omega,by omega⟩ (by omega) (by omega)).mono ?_
   rw[HI.out]
   rintro e w1 ⟨rfl,hw⟩
   obtain rfl:=hw.symm
   go_wp2_with fail
   refine(vI HC.out (by omega) (by omega)).mono ?_
   rw[HK.out]
   rintro e w1 ⟨rfl,hw⟩
   obtain rfl:=hw.symm
   go_wp2_with fail
   refine(vI (c:=d / 3) ⟨by omega,by omega⟩ (by omega) (by omega)).mono ?_
   rw[HJ.out]
   rintro e w1 ⟨rfl,hw⟩
   obtain rfl:=hw.symm
   go_wp2_with fail
   go_ret
   exact⟨by rw[HE.out,HI.out,HJ.out];rfl,HB.out⟩
 ·have hj3:=Pure.pk3 (d / 3)
  rcases hj3 with hj|hj|hj
  ·have HJ:=hid hj
   clear hj
   have HI:=hid hi
   clear hi
   go_enter Tryz.func76,Tryz.ntmps76
   go_wp2_with fail
   refine(vI (c:=c.tdiv 5) (Ex HC.out (by omega)) (by omega) (by omega)).mono ?_
   rw[HD.out]
   rintro e w1 ⟨rfl,hw⟩
   obtain rfl:=hw.symm
   go_wp2_with fail
   refine(vI (c:=d) ⟨by omega,by omega⟩ (by omega) (by omega)).mono ?_
   rw[HI.out]
   rintro e w1 ⟨rfl,hw⟩
   obtain rfl:=hw.symm
   go_wp2_with fail
   refine(vI HC.out (by omega) (by omega)).mono ?_
   rw[HK.out]
   rintro e w1 ⟨rfl,hw⟩
   obtain rfl:=hw.symm
   go_wp2_with fail
   refine(vI (c:=d / 3) ⟨by omega,by omega⟩ (by omega) (by omega)).mono ?_
   rw[HJ.out]
   rintro e w1 ⟨rfl,hw⟩
   obtain rfl:=hw.symm
   go_wp2_with fail
   go_ret
   exact⟨by rw[HE.out,HI.out,HJ.out];rfl,HB.out⟩
  ·have HJ:=hid hj
   clear hj
   have HI:=hid hi
   clear hi
   go_enter Tryz.func76,Tryz.ntmps76
   go_wp2_with fail
   refine(vI (c:=c.tdiv 5) (Ex HC.out (by omega)) (by omega) (by omega)).mono ?_
   rw[HD.out]
   rintro e w1 ⟨rfl,hw⟩
   obtain rfl:=hw.symm
   go_wp2_with fail
   refine(vI (c:=d) ⟨by omega,by omega⟩ (by omega) (by omega)).mono ?_
   rw[HI.out]
   rintro e w1 ⟨rfl,hw⟩
   obtain rfl:=hw.symm
   go_wp2_with fail
   refine(vI HC.out (by omega) (by omega)).mono ?_
   rw[HK.out]
   rintro e w1 ⟨rfl,hw⟩
   obtain rfl:=hw.symm
   go_wp2_with fail
   refine(vI (c:=d / 3) ⟨by omega,by omega⟩ (by omega) (by omega)).mono ?_
   rw[HJ.out]
   rintro e w1 ⟨rfl,hw⟩
   obtain rfl:=hw.symm
   go_wp2_with fail
   go_ret
   exact⟨by rw[HE.out,HI.out,HJ.out];rfl,HB.out⟩
  ·have HJ:=hid hj
   clear hj
   have HI:=hid hi
   clear hi
   go_enter Tryz.func76,Tryz.ntmps76
   go_wp2_with fail
   refine(vI (c:=c.tdiv 5) (Ex HC.out (by omega)) (by omega) (by omega)).mono ?_
   rw[HD.out]
   rintro e w1 ⟨rfl,hw⟩
   obtain rfl:=hw.symm
   go_wp2_with fail
   refine(vI (c:=d) ⟨by omega,by omega⟩ (by omega) (by omega)).mono ?_
   rw[HI.out]
   rintro e w1 ⟨rfl,hw⟩
   obtain rfl:=hw.symm
   go_wp2_with fail
   refine(vI HC.out (by omega) (by omega)).mono ?_
   rw[HK.out]
   rintro e w1 ⟨rfl,hw⟩
   obtain rfl:=hw.symm
   go_wp2_with fail
   refine(vI (c:=d / 3) ⟨by omega,by omega⟩ (by omega) (by omega)).mono ?_
   rw[HJ.out]
   rintro e w1 ⟨rfl,hw⟩
   obtain rfl:=hw.symm
   go_wp2_with fail
   go_ret
   exact⟨by rw[HE.out,HI.out,HJ.out];rfl,HB.out⟩
 ·have hj3:=Pure.pk3 (d / 3)
  rcases hj3 with hj|hj|hj
  ·have HJ:=hid hj
   clear hj
   have HI:=hid hi
   clear hi
   go_enter Tryz.func76,Tryz.ntmps76
   go_wp2_with fail
   refine(vI (c:=c.tdiv 5) (Ex HC.out (by omega)) (by omega) (by omega)).mono ?_
   rw[HD.out]
   rintro e w1 ⟨rfl,hw⟩
   obtain rfl:=hw.symm
   go_wp2_with fail
   refine(vI (c:=d) ⟨by omega,by omega⟩ (by omega) (by omega)).mono ?_
   rw[HI.out]
   rintro e w1 ⟨rfl,hw⟩
   obtain rfl:=hw.symm
   go_wp2_with fail
   refine(vI HC.out (by omega) (by omega)).mono ?_
   rw[HK.out]
   rintro e w1 ⟨rfl,hw⟩
   obtain rfl:=hw.symm
   go_wp2_with fail
   refine(vI (c:=d / 3) ⟨by omega,by omega⟩ (by omega) (by omega)).mono ?_
   rw[HJ.out]
   rintro e w1 ⟨rfl,hw⟩
   obtain rfl:=hw.symm
   go_wp2_with fail
   go_ret
   exact⟨by rw[HE.out,HI.out,HJ.out];rfl,HB.out⟩
  ·have HJ:=hid hj
   clear hj
   have HI:=hid hi
   clear hi
   go_enter Tryz.func76,Tryz.ntmps76
   go_wp2_with fail
   refine(vI (c:=c.tdiv 5) (Ex HC.out (by omega)) (by omega) (by omega)).mono ?_
   rw[HD.out]
   rintro e w1 ⟨rfl,hw⟩
   obtain rfl:=hw.symm
   go_wp2_with fail
   refine(vI (c:=d) ⟨by omega,by omega⟩ (by omega) (by omega)).mono ?_
   rw[HI.out]
   rintro e w1 ⟨rfl,hw⟩
   obtain rfl:=hw.symm
   go_wp2_with fail
   refine(vI HC.out (by omega) (by omega)).mono ?_
   rw[HK.out]
   rintro e w1 ⟨rfl,hw⟩
   obtain rfl:=hw.symm
   go_wp2_with fail
   refine(vI (c:=d / 3) ⟨by omega,by omega⟩ (by omega) (by omega)).mono ?_
   rw[HJ.out]
   rintro e w1 ⟨rfl,hw⟩
   obtain rfl:=hw.symm
   go_wp2_with fail
   go_ret
   exact⟨by rw[HE.out,HI.out,HJ.out];rfl,HB.out⟩
  ·have HJ:=hid hj
   clear hj
   have HI:=hid hi
   clear hi
   go_enter Tryz.func76,Tryz.ntmps76
   go_wp2_with fail
   refine(vI (c:=c.tdiv 5) (Ex HC.out (by omega)) (by omega) (by omega)).mono ?_
   rw[HD.out]
   rintro e w1 ⟨rfl,hw⟩
   obtain rfl:=hw.symm
   go_wp2_with fail
   refine(vI (c:=d) ⟨by omega,by omega⟩ (by omega) (by omega)).mono ?_
   rw[HI.out]
   rintro e w1 ⟨rfl,hw⟩
   obtain rfl:=hw.symm
   go_wp2_with fail
   refine(vI HC.out (by omega) (by omega)).mono ?_
   rw[HK.out]
   rintro e w1 ⟨rfl,hw⟩
   obtain rfl:=hw.symm
   go_wp2_with fail
   refine(vI (c:=d / 3) ⟨by omega,by omega⟩ (by omega) (by omega)).mono ?_
   rw[HJ.out]
   rintro e w1 ⟨rfl,hw⟩
   obtain rfl:=hw.symm
   go_wp2_with fail
   go_ret
   exact⟨by rw[HE.out,HI.out,HJ.out];rfl,HB.out⟩
theorem condK3 {W:World} {c:Int} (hc:ux c) (ht:BG W) (hk:pk c 5=3):
  Calls Tryz.prog 76 #[.int .i64 c] W fun e W'=>e=.returned (.string (kcText (kc c)))∧Below W.heap.size W W':=by
 have h0:=ma (c:=c.tdiv 5) (n:=1099511627776) (by omega)
 have h1:=zb (c:=c.tdiv 5) (n:=1099511627776) (by omega)
 have HE0:=hid (Pure.kc_text3 hk)
 have HK:=hid hk
 have HC:=hid hc
 have HT:=hid (ht.below (below_a W (.cells #[.string ⟨#[97]⟩,.string ⟨#[98]⟩,.string ⟨#[99]⟩] 9)))
 have HB:=hid (below_a W (.cells #[.string ⟨#[97]⟩,.string ⟨#[98]⟩,.string ⟨#[99]⟩] 9))
 clear hk ht
 obtain⟨c0,c1⟩:=hc
 obtain⟨d,hd⟩:∃d,pk (c.tdiv 5) 1099511627776=d:=⟨_,rfl⟩
 have HD:=hid hd
 have HE:Hid (kcText (kc c)=vB (pk d 3)++⟨#[32,46,32,107]⟩++⟨#[32,60,62,32]⟩++dB (GP (d / 9))):=by have h:=HE0.out;rw[show kcD c=d from hd] at h;exact h
 rw[hd] at h0 h1
 have hs9:=Pure.yL (d / 9)
 clear hd HE0
 rcases Pure.pk3 d with hi|hi|hi
 ·have HI:=hid hi
  clear hi
  go_enter Tryz.func76,Tryz.ntmps76
  go_wp2_with fail
  refine(vI (c:=c.tdiv 5) (Ex HC.out (by omega)) (by omega) (by omega)).mono ?_
  rw[HD.out]
  rintro e w1 ⟨rfl,hw⟩
  obtain rfl:=hw.symm
  go_wp2_with fail
  refine(vI (c:=d) ⟨by omega,by omega⟩ (by omega) (by omega)).mono ?_
  rw[HI.out]
  rintro e w1 ⟨rfl,hw⟩
  obtain rfl:=hw.symm
  go_wp2_with fail
  refine(vI HC.out (by omega) (by omega)).mono ?_
  rw[HK.out]
  rintro e w1 ⟨rfl,hw⟩
  obtain rfl:=hw.symm
  go_wp2_with fail
  refine(ze (c:=d / 9) ⟨by omega,by omega⟩ HT.out).mono ?_
  rintro e w3 ⟨rfl,hb⟩
  have HB3:=hid (HB.out.trans (hb.mono HB.out.size))
  clear hb
  go_wp2_with fail
  go_ret
  exact⟨by rw[HE.out,HI.out];rfl,HB3.out⟩
 ·have HI:=hid hi
  clear hi
  go_enter Tryz.func76,Tryz.ntmps76
  go_wp2_with fail
  refine(vI (c:=c.tdiv 5) (Ex HC.out (by omega)) (by omega) (by omega)).mono ?_
  rw[HD.out]
  rintro e w1 ⟨rfl,hw⟩
  obtain rfl:=hw.symm
  go_wp2_with fail
  refine(vI (c:=d) ⟨by omega,by omega⟩ (by omega) (by omega)).mono ?_
  rw[HI.out]
  rintro e w1 ⟨rfl,hw⟩
  obtain rfl:=hw.symm
  go_wp2_with fail
  refine(vI HC.out (by omega) (by omega)).mono ?_
  rw[HK.out]
  rintro e w1 ⟨rfl,hw⟩
  obtain rfl:=hw.symm
  go_wp2_with fail
  refine(ze (c:=d / 9) ⟨by omega,by omega⟩ HT.out).mono ?_
  rintro e w3 ⟨rfl,hb⟩
  have HB3:=hid (HB.out.trans (hb.mono HB.out.size))
  clear hb
  go_wp2_with fail
  go_ret
  exact⟨by rw[HE.out,HI.out];rfl,HB3.out⟩
 ·have HI:=hid hi
  clear hi
  go_enter Tryz.func76,Tryz.ntmps76
  go_wp2_with fail
  refine(vI (c:=c.tdiv 5) (Ex HC.out (by omega)) (by omega) (by omega)).mono ?_
  rw[HD.out]
  rintro e w1 ⟨rfl,hw⟩
  obtain rfl:=hw.symm
  go_wp2_with fail
  refine(vI (c:=d) ⟨by omega,by omega⟩ (by omega) (by omega)).mono ?_
  rw[HI.out]
  rintro e w1 ⟨rfl,hw⟩
  obtain rfl:=hw.symm
  go_wp2_with fail
  refine(vI HC.out (by omega) (by omega)).mono ?_
  rw[HK.out]
  rintro e w1 ⟨rfl,hw⟩
  obtain rfl:=hw.symm
  go_wp2_with fail
  refine(ze (c:=d / 9) ⟨by omega,by omega⟩ HT.out).mono ?_
  rintro e w3 ⟨rfl,hb⟩
  have HB3:=hid (HB.out.trans (hb.mono HB.out.size))
  clear hb
  go_wp2_with fail
  go_ret
  exact⟨by rw[HE.out,HI.out];rfl,HB3.out⟩
theorem condK4 {W:World} {c:Int} (hc:ux c) (ht:BG W) (hk:pk c 5=4):
  Calls Tryz.prog 76 #[.int .i64 c] W fun e W'=>e=.returned (.string (kcText (kc c)))∧Below W.heap.size W W':=by
 have h0:=ma (c:=c.tdiv 5) (n:=1099511627776) (by omega)
 have h1:=zb (c:=c.tdiv 5) (n:=1099511627776) (by omega)
 have HE0:=hid (Pure.kc_text4 hk)
 have HK:=hid hk
 have HC:=hid hc
 have HT:=hid (ht.below (below_a W (.cells #[.string ⟨#[97]⟩,.string ⟨#[98]⟩,.string ⟨#[99]⟩] 9)))
 have HB:=hid (below_a W (.cells #[.string ⟨#[97]⟩,.string ⟨#[98]⟩,.string ⟨#[99]⟩] 9))
 clear hk ht
 obtain⟨c0,c1⟩:=hc
 obtain⟨d,hd⟩:∃d,pk (c.tdiv 5) 1099511627776=d:=⟨_,rfl⟩
 have HD:=hid hd
 have HE:Hid (kcText (kc c)=vB (pk d 3)++⟨#[32,46,32,107]⟩++⟨#[32,60,32]⟩++dB (GP (d / 9))):=by have h:=HE0.out;rw[show kcD c=d from hd] at h;exact h
 rw[hd] at h0 h1
 have hs9:=Pure.yL (d / 9)
 clear hd HE0
 rcases Pure.pk3 d with hi|hi|hi
 ·have HI:=hid hi
  clear hi
  go_enter Tryz.func76,Tryz.ntmps76
  go_wp2_with fail
  refine(vI (c:=c.tdiv 5) (Ex HC.out (by omega)) (by omega) (by omega)).mono ?_
  rw[HD.out]
  rintro e w1 ⟨rfl,hw⟩
  obtain rfl:=hw.symm
  go_wp2_with fail
  refine(vI (c:=d) ⟨by omega,by omega⟩ (by omega) (by omega)).mono ?_
  rw[HI.out]
  rintro e w1 ⟨rfl,hw⟩
  obtain rfl:=hw.symm
  go_wp2_with fail
  refine(vI HC.out (by omega) (by omega)).mono ?_
  rw[HK.out]
  rintro e w1 ⟨rfl,hw⟩
  obtain rfl:=hw.symm
  go_wp2_with fail
  refine(ze (c:=d / 9) ⟨by omega,by omega⟩ HT.out).mono ?_
  rintro e w3 ⟨rfl,hb⟩
  have HB3:=hid (HB.out.trans (hb.mono HB.out.size))
  clear hb
  go_wp2_with fail
  go_ret
  exact⟨by rw[HE.out,HI.out];rfl,HB3.out⟩
 ·have HI:=hid hi
  clear hi
  go_enter Tryz.func76,Tryz.ntmps76
  go_wp2_with fail
  refine(vI (c:=c.tdiv 5) (Ex HC.out (by omega)) (by omega) (by omega)).mono ?_
  rw[HD.out]
  rintro e w1 ⟨rfl,hw⟩
  obtain rfl:=hw.symm
  go_wp2_with fail
  refine(vI (c:=d) ⟨by omega,by omega⟩ (by omega) (by omega)).mono ?_
  rw[HI.out]
  rintro e w1 ⟨rfl,hw⟩
  obtain rfl:=hw.symm
  go_wp2_with fail
  refine(vI HC.out (by omega) (by omega)).mono ?_
  rw[HK.out]
  rintro e w1 ⟨rfl,hw⟩
  obtain rfl:=hw.symm
  go_wp2_with fail
  refine(ze (c:=d / 9) ⟨by omega,by omega⟩ HT.out).mono ?_
  rintro e w3 ⟨rfl,hb⟩
  have HB3:=hid (HB.out.trans (hb.mono HB.out.size))
  clear hb
  go_wp2_with fail
  go_ret
  exact⟨by rw[HE.out,HI.out];rfl,HB3.out⟩
 ·have HI:=hid hi
  clear hi
  go_enter Tryz.func76,Tryz.ntmps76
  go_wp2_with fail
  refine(vI (c:=c.tdiv 5) (Ex HC.out (by omega)) (by omega) (by omega)).mono ?_
  rw[HD.out]
  rintro e w1 ⟨rfl,hw⟩
  obtain rfl:=hw.symm
  go_wp2_with fail
  refine(vI (c:=d) ⟨by omega,by omega⟩ (by omega) (by omega)).mono ?_
  rw[HI.out]
  rintro e w1 ⟨rfl,hw⟩
  obtain rfl:=hw.symm
  go_wp2_with fail
  refine(vI HC.out (by omega) (by omega)).mono ?_
  rw[HK.out]
  rintro e w1 ⟨rfl,hw⟩
  obtain rfl:=hw.symm
  go_wp2_with fail
  refine(ze (c:=d / 9) ⟨by omega,by omega⟩ HT.out).mono ?_
  rintro e w3 ⟨rfl,hb⟩
  have HB3:=hid (HB.out.trans (hb.mono HB.out.size))
  clear hb
  go_wp2_with fail
  go_ret
  exact⟨by rw[HE.out,HI.out];rfl,HB3.out⟩
theorem cond_K {W:World} {c:Int} (hc:ux c) (ht:BG W):
  Calls Tryz.prog 76 #[.int .i64 c] W fun e W'=>e=.returned (.string (kcText (kc c)))∧Below W.heap.size W W':=by
 have h0:=ma (c:=c) (n:=5) (by omega)
 have h1:=zb (c:=c) (n:=5) (by omega)
 have h:pk c 5=0∨pk c 5=1∨pk c 5=2∨pk c 5=3∨pk c 5=4:=by omega
 rcases h with h|h|h|h|h
 ·exact condK0 hc ht h
 ·exact condK1 hc ht h
 ·exact condK2 hc ht h
 ·exact condK3 hc ht h
 ·exact condK4 hc ht h
theorem matchK00 {W:World} {c w:Int} (hc:ux c) (hw:ux w) (ht:BG W) (hk:pk c 6=0) (hp:¬0<pk w 3):
  Calls Tryz.prog 35 #[.int .i64 c,.int .i64 w] W fun e W'=>e=.returned (.string (kmText c w))∧Below W.heap.size W W':=by
 have h0:=ma (c:=c.tdiv 6) (n:=1099511627776) (by omega)
 have h1:=zb (c:=c.tdiv 6) (n:=1099511627776) (by omega)
 have HE0:=hid (Pure.km_textNo (c:=c) hp)
 have HA0:Hid (kmA c=⟨#[40,32,97,32,41,32]⟩++⟨#[45,91,32,84,32,93,45,62]⟩++⟨#[32,40,32,98,32,41,32]⟩++⟨#[45,91,32,84,32,93,45,62]⟩++⟨#[32,40,32,99,32,41]⟩):=by show _=_;unfold kmA;rw[if_pos hk]
 have HK:=hid hk
 have HC:=hid hc
 have HW:=hid hw
 have HT:=hid ht
 have hpn:=ma (c:=w) (n:=3) (by omega)
 clear hk ht
 obtain⟨c0,c1⟩:=hc
 obtain⟨w0,w1⟩:=hw
 obtain⟨d,hd⟩:∃d,pk (c.tdiv 6) 1099511627776=d:=⟨_,rfl⟩
 have HD:=hid hd
 have hkd:kmD c=d:=hd
 try rw[hkd] at HA0
 rw[hd] at h0 h1
 clear hd hkd
 have hs1:=Pure.zt d
 have hs2:=Pure.zt (d / 3)
 have hs3:=Pure.pk3_size (d / 3)
 have hs4:=Pure.kcText_size (w.tdiv 3)
 have hp0:=ma (c:=d / 3) (n:=3) (by omega)
 have hp1:=zb (c:=d / 3) (n:=3) (by omega)
 go_enter Tryz.func35,Tryz.ntmps35
 go_wp2_with fail
 refine(vI (c:=c.tdiv 6) (Ex HC.out (by omega)) (by omega) (by omega)).mono ?_
 rw[HD.out]
 rintro e w1 ⟨rfl,hw1⟩
 obtain rfl:=hw1.symm
 go_wp2_with fail
 refine(BH (c:=d) ⟨by omega,by omega⟩).mono ?_
 rintro e W1 ⟨rfl,hb1⟩
 have HB1:=hid hb1
 clear hb1
 go_wp2_with fail
 refine(vI HC.out (by omega) (by omega)).mono ?_
 rw[HK.out]
 rintro e w1 ⟨rfl,hw1⟩
 obtain rfl:=hw1.symm
 go_wp2_with fail
 refine(vI HW.out (by omega) (by omega)).mono ?_
 rintro e w1 ⟨rfl,hw1⟩
 obtain rfl:=hw1.symm
 go_wp2_with fail
 go_ret
 exact⟨by rw[HE0.out,HA0.out];rfl,HB1.out⟩
theorem matchK01 {W:World} {c w:Int} (hc:ux c) (hw:ux w) (ht:BG W) (hk:pk c 6=0) (hp:0<pk w 3):
  Calls Tryz.prog 35 #[.int .i64 c,.int .i64 w] W fun e W'=>e=.returned (.string (kmText c w))∧Below W.heap.size W W':=by
 have h0:=ma (c:=c.tdiv 6) (n:=1099511627776) (by omega)
 have h1:=zb (c:=c.tdiv 6) (n:=1099511627776) (by omega)
 have HE0:=hid (Pure.km_textYes (c:=c) hp)
 have HA0:Hid (kmA c=⟨#[40,32,97,32,41,32]⟩++⟨#[45,91,32,84,32,93,45,62]⟩++⟨#[32,40,32,98,32,41,32]⟩++⟨#[45,91,32,84,32,93,45,62]⟩++⟨#[32,40,32,99,32,41]⟩):=by show _=_;unfold kmA;rw[if_pos hk]
 have HK:=hid hk
 have HC:=hid hc
 have HW:=hid hw
 have HT:=hid ht
 have hpn:=ma (c:=w) (n:=3) (by omega)
 clear hk ht
 obtain⟨c0,c1⟩:=hc
 obtain⟨w0,w1⟩:=hw
 obtain⟨d,hd⟩:∃d,pk (c.tdiv 6) 1099511627776=d:=⟨_,rfl⟩
 have HD:=hid hd
 have hkd:kmD c=d:=hd
 try rw[hkd] at HA0
 rw[hd] at h0 h1
 clear hd hkd
 have hs1:=Pure.zt d
 have hs2:=Pure.zt (d / 3)
 have hs3:=Pure.pk3_size (d / 3)
 have hs4:=Pure.kcText_size (w.tdiv 3)
 have hp0:=ma (c:=d / 3) (n:=3) (by omega)
 have hp1:=zb (c:=d / 3) (n:=3) (by omega)
 go_enter Tryz.func35,Tryz.ntmps35
 go_wp2_with fail
 refine(vI (c:=c.tdiv 6) (Ex HC.out (by omega)) (by omega) (by omega)).mono ?_
 rw[HD.out]
 rintro e w1 ⟨rfl,hw1⟩
 obtain rfl:=hw1.symm
 go_wp2_with fail
 refine(BH (c:=d) ⟨by omega,by omega⟩).mono ?_
 rintro e W1 ⟨rfl,hb1⟩
 have HB1:=hid hb1
 clear hb1
 go_wp2_with fail
 refine(vI HC.out (by omega) (by omega)).mono ?_
 rw[HK.out]
 rintro e w1 ⟨rfl,hw1⟩
 obtain rfl:=hw1.symm
 go_wp2_with fail
 refine(vI HW.out (by omega) (by omega)).mono ?_
 rintro e w1 ⟨rfl,hw1⟩
 obtain rfl:=hw1.symm
 go_wp2_with fail
 refine(cond_K (c:=w.tdiv 3) (Ex HW.out (by omega)) (HT.out.below HB1.out)).mono ?_
 rintro e W3 ⟨rfl,hb3⟩
 have HB3:=hid (HB1.out.trans (hb3.mono HB1.out.size))
 clear hb3
 go_wp2_with fail
 go_ret
 exact⟨by rw[HE0.out,HA0.out];rfl,HB3.out⟩
theorem matchK10 {W:World} {c w:Int} (hc:ux c) (hw:ux w) (ht:BG W) (hk:pk c 6=1) (hp:¬0<pk w 3):
  Calls Tryz.prog 35 #[.int .i64 c,.int .i64 w] W fun e W'=>e=.returned (.string (kmText c w))∧Below W.heap.size W W':=by
 have h0:=ma (c:=c.tdiv 6) (n:=1099511627776) (by omega)
 have h1:=zb (c:=c.tdiv 6) (n:=1099511627776) (by omega)
 have HE0:=hid (Pure.km_textNo (c:=c) hp)
 have HA0:Hid (kmA c=(⟨#[40,32,97,32,58,32]⟩++D6 (kmD c)++⟨#[32,41]⟩)++⟨#[32,45,91,32,84,32,42,32]⟩++dB (pk (kmD c / 3) 3)++⟨#[32,46,46,32,50,32,93,45,62,32,40,32,98,32,41,32,44,32,40,32,99,32,41]⟩):=by show _=_;unfold kmA;rw[if_neg (by omega)];rw[if_pos hk]
 have HK:=hid hk
 have HC:=hid hc
 have HW:=hid hw
 have HT:=hid ht
 have hpn:=ma (c:=w) (n:=3) (by omega)
 clear hk ht
 obtain⟨c0,c1⟩:=hc
 obtain⟨w0,w1⟩:=hw
 obtain⟨d,hd⟩:∃d,pk (c.tdiv 6) 1099511627776=d:=⟨_,rfl⟩
 have HD:=hid hd
 have hkd:kmD c=d:=hd
 try rw[hkd] at HA0
 rw[hd] at h0 h1
 clear hd hkd
 have hs1:=Pure.zt d
 have hs2:=Pure.zt (d / 3)
 have hs3:=Pure.pk3_size (d / 3)
 have hs4:=Pure.kcText_size (w.tdiv 3)
 have hp0:=ma (c:=d / 3) (n:=3) (by omega)
 have hp1:=zb (c:=d / 3) (n:=3) (by omega)
 go_enter Tryz.func35,Tryz.ntmps35
 go_wp2_with fail
 refine(vI (c:=c.tdiv 6) (Ex HC.out (by omega)) (by omega) (by omega)).mono ?_
 rw[HD.out]
 rintro e w1 ⟨rfl,hw1⟩
 obtain rfl:=hw1.symm
 go_wp2_with fail
 refine(BH (c:=d) ⟨by omega,by omega⟩).mono ?_
 rintro e W1 ⟨rfl,hb1⟩
 have HB1:=hid hb1
 clear hb1
 go_wp2_with fail
 refine(vI HC.out (by omega) (by omega)).mono ?_
 rw[HK.out]
 rintro e w1 ⟨rfl,hw1⟩
 obtain rfl:=hw1.symm
 go_wp2_with fail
 refine(vI (c:=d / 3) ⟨by omega,by omega⟩ (by omega) (by omega)).mono ?_
 rintro e w1 ⟨rfl,hw1⟩
 obtain rfl:=hw1.symm
 go_wp2_with fail
 refine(FP (n:=pk (d / 3) 3) ⟨by omega,by omega⟩ (HT.out.below HB1.out)).mono ?_
 rintro e W2 ⟨rfl,hb2⟩
 have HB2:=hid (HB1.out.trans (hb2.mono HB1.out.size))
 clear hb2
 go_wp2_with fail
 refine(vI HW.out (by omega) (by omega)).mono ?_
 rintro e w1 ⟨rfl,hw1⟩
 obtain rfl:=hw1.symm
 go_wp2_with fail
 go_ret
 exact⟨by rw[HE0.out,HA0.out];rfl,HB2.out⟩
theorem matchK11 {W:World} {c w:Int} (hc:ux c) (hw:ux w) (ht:BG W) (hk:pk c 6=1) (hp:0<pk w 3):
  Calls Tryz.prog 35 #[.int .i64 c,.int .i64 w] W fun e W'=>e=.returned (.string (kmText c w))∧Below W.heap.size W W':=by
 have h0:=ma (c:=c.tdiv 6) (n:=1099511627776) (by omega)
 have h1:=zb (c:=c.tdiv 6) (n:=1099511627776) (by omega)
 have HE0:=hid (Pure.km_textYes (c:=c) hp)
 have HA0:Hid (kmA c=(⟨#[40,32,97,32,58,32]⟩++D6 (kmD c)++⟨#[32,41]⟩)++⟨#[32,45,91,32,84,32,42,32]⟩++dB (pk (kmD c / 3) 3)++⟨#[32,46,46,32,50,32,93,45,62,32,40,32,98,32,41,32,44,32,40,32,99,32,41]⟩):=by show _=_;unfold kmA;rw[if_neg (by omega)];rw[if_pos hk]
 have HK:=hid hk
 have HC:=hid hc
 have HW:=hid hw
 have HT:=hid ht
 have hpn:=ma (c:=w) (n:=3) (by omega)
 clear hk ht
 obtain⟨c0,c1⟩:=hc
 obtain⟨w0,w1⟩:=hw
 obtain⟨d,hd⟩:∃d,pk (c.tdiv 6) 1099511627776=d:=⟨_,rfl⟩
 have HD:=hid hd
 have hkd:kmD c=d:=hd
 try rw[hkd] at HA0
 rw[hd] at h0 h1
 clear hd hkd
 have hs1:=Pure.zt d
 have hs2:=Pure.zt (d / 3)
 have hs3:=Pure.pk3_size (d / 3)
 have hs4:=Pure.kcText_size (w.tdiv 3)
 have hp0:=ma (c:=d / 3) (n:=3) (by omega)
 have hp1:=zb (c:=d / 3) (n:=3) (by omega)
 go_enter Tryz.func35,Tryz.ntmps35
 go_wp2_with fail
 refine(vI (c:=c.tdiv 6) (Ex HC.out (by omega)) (by omega) (by omega)).mono ?_
 rw[HD.out]
 rintro e w1 ⟨rfl,hw1⟩
 obtain rfl:=hw1.symm
 go_wp2_with fail
 refine(BH (c:=d) ⟨by omega,by omega⟩).mono ?_
 rintro e W1 ⟨rfl,hb1⟩
 have HB1:=hid hb1
 clear hb1
 go_wp2_with fail
 refine(vI HC.out (by omega) (by omega)).mono ?_
 rw[HK.out]
 rintro e w1 ⟨rfl,hw1⟩
 obtain rfl:=hw1.symm
 go_wp2_with fail
 refine(vI (c:=d / 3) ⟨by omega,by omega⟩ (by omega) (by omega)).mono ?_
 rintro e w1 ⟨rfl,hw1⟩
 obtain rfl:=hw1.symm
 go_wp2_with fail
 refine(FP (n:=pk (d / 3) 3) ⟨by omega,by omega⟩ (HT.out.below HB1.out)).mono ?_
 rintro e W2 ⟨rfl,hb2⟩
 have HB2:=hid (HB1.out.trans (hb2.mono HB1.out.size))
 clear hb2
 go_wp2_with fail
 refine(vI HW.out (by omega) (by omega)).mono ?_
 rintro e w1 ⟨rfl,hw1⟩
 obtain rfl:=hw1.symm
 go_wp2_with fail
 refine(cond_K (c:=w.tdiv 3) (Ex HW.out (by omega)) (HT.out.below HB2.out)).mono ?_
 rintro e W3 ⟨rfl,hb3⟩
 have HB3:=hid (HB2.out.trans (hb3.mono HB2.out.size))
 clear hb3
 go_wp2_with fail
 go_ret
 exact⟨by rw[HE0.out,HA0.out];rfl,HB3.out⟩
theorem matchK20 {W:World} {c w:Int} (hc:ux c) (hw:ux w) (ht:BG W) (hk:pk c 6=2) (hp:¬0<pk w 3):
  Calls Tryz.prog 35 #[.int .i64 c,.int .i64 w] W fun e W'=>e=.returned (.string (kmText c w))∧Below W.heap.size W W':=by
 have h0:=ma (c:=c.tdiv 6) (n:=1099511627776) (by omega)
 have h1:=zb (c:=c.tdiv 6) (n:=1099511627776) (by omega)
 have HE0:=hid (Pure.km_textNo (c:=c) hp)
 have HA0:Hid (kmA c=(⟨#[40,32,97,32,58,32]⟩++D6 (kmD c)++⟨#[32,41]⟩)++⟨#[32,44,32,40,32,98,32,41,32]⟩++⟨#[45,91,32,84,32,93,45,62]⟩++⟨#[32,40,32,99,32,41]⟩):=by show _=_;unfold kmA;rw[if_neg (by omega)];rw[if_neg (by omega)];rw[if_pos hk]
 have HK:=hid hk
 have HC:=hid hc
 have HW:=hid hw
 have HT:=hid ht
 have hpn:=ma (c:=w) (n:=3) (by omega)
 clear hk ht
 obtain⟨c0,c1⟩:=hc
 obtain⟨w0,w1⟩:=hw
 obtain⟨d,hd⟩:∃d,pk (c.tdiv 6) 1099511627776=d:=⟨_,rfl⟩
 have HD:=hid hd
 have hkd:kmD c=d:=hd
 try rw[hkd] at HA0
 rw[hd] at h0 h1
 clear hd hkd
 have hs1:=Pure.zt d
 have hs2:=Pure.zt (d / 3)
 have hs3:=Pure.pk3_size (d / 3)
 have hs4:=Pure.kcText_size (w.tdiv 3)
 have hp0:=ma (c:=d / 3) (n:=3) (by omega)
 have hp1:=zb (c:=d / 3) (n:=3) (by omega)
 go_enter Tryz.func35,Tryz.ntmps35
 go_wp2_with fail
 refine(vI (c:=c.tdiv 6) (Ex HC.out (by omega)) (by omega) (by omega)).mono ?_
 rw[HD.out]
 rintro e w1 ⟨rfl,hw1⟩
 obtain rfl:=hw1.symm
 go_wp2_with fail
 refine(BH (c:=d) ⟨by omega,by omega⟩).mono ?_
 rintro e W1 ⟨rfl,hb1⟩
 have HB1:=hid hb1
 clear hb1
 go_wp2_with fail
 refine(vI HC.out (by omega) (by omega)).mono ?_
 rw[HK.out]
 rintro e w1 ⟨rfl,hw1⟩
 obtain rfl:=hw1.symm
 go_wp2_with fail
 refine(vI HW.out (by omega) (by omega)).mono ?_
 rintro e w1 ⟨rfl,hw1⟩
 obtain rfl:=hw1.symm
 go_wp2_with fail
 go_ret
 exact⟨by rw[HE0.out,HA0.out];rfl,HB1.out⟩
theorem matchK21 {W:World} {c w:Int} (hc:ux c) (hw:ux w) (ht:BG W) (hk:pk c 6=2) (hp:0<pk w 3):
  Calls Tryz.prog 35 #[.int .i64 c,.int .i64 w] W fun e W'=>e=.returned (.string (kmText c w))∧Below W.heap.size W W':=by
 have h0:=ma (c:=c.tdiv 6) (n:=1099511627776) (by omega)
 have h1:=zb (c:=c.tdiv 6) (n:=1099511627776) (by omega)
 have HE0:=hid (Pure.km_textYes (c:=c) hp)
 have HA0:Hid (kmA c=(⟨#[40,32,97,32,58,32]⟩++D6 (kmD c)++⟨#[32,41]⟩)++⟨#[32,44,32,40,32,98,32,41,32]⟩++⟨#[45,91,32,84,32,93,45,62]⟩++⟨#[32,40,32,99,32,41]⟩):=by show _=_;unfold kmA;rw[if_neg (by omega)];rw[if_neg (by omega)];rw[if_pos hk]
 have HK:=hid hk
 have HC:=hid hc
 have HW:=hid hw
 have HT:=hid ht
 have hpn:=ma (c:=w) (n:=3) (by omega)
 clear hk ht
 obtain⟨c0,c1⟩:=hc
 obtain⟨w0,w1⟩:=hw
 obtain⟨d,hd⟩:∃d,pk (c.tdiv 6) 1099511627776=d:=⟨_,rfl⟩
 have HD:=hid hd
 have hkd:kmD c=d:=hd
 try rw[hkd] at HA0
 rw[hd] at h0 h1
 clear hd hkd
 have hs1:=Pure.zt d
 have hs2:=Pure.zt (d / 3)
 have hs3:=Pure.pk3_size (d / 3)
 have hs4:=Pure.kcText_size (w.tdiv 3)
 have hp0:=ma (c:=d / 3) (n:=3) (by omega)
 have hp1:=zb (c:=d / 3) (n:=3) (by omega)
 go_enter Tryz.func35,Tryz.ntmps35
 go_wp2_with fail
 refine(vI (c:=c.tdiv 6) (Ex HC.out (by omega)) (by omega) (by omega)).mono ?_
 rw[HD.out]
 rintro e w1 ⟨rfl,hw1⟩
 obtain rfl:=hw1.symm
 go_wp2_with fail
 refine(BH (c:=d) ⟨by omega,by omega⟩).mono ?_
 rintro e W1 ⟨rfl,hb1⟩
 have HB1:=hid hb1
 clear hb1
 go_wp2_with fail
 refine(vI HC.out (by omega) (by omega)).mono ?_
 rw[HK.out]
 rintro e w1 ⟨rfl,hw1⟩
 obtain rfl:=hw1.symm
 go_wp2_with fail
 refine(vI HW.out (by omega) (by omega)).mono ?_
 rintro e w1 ⟨rfl,hw1⟩
 obtain rfl:=hw1.symm
 go_wp2_with fail
 refine(cond_K (c:=w.tdiv 3) (Ex HW.out (by omega)) (HT.out.below HB1.out)).mono ?_
 rintro e W3 ⟨rfl,hb3⟩
 have HB3:=hid (HB1.out.trans (hb3.mono HB1.out.size))
 clear hb3
 go_wp2_with fail
 go_ret
 exact⟨by rw[HE0.out,HA0.out];rfl,HB3.out⟩
theorem matchK30 {W:World} {c w:Int} (hc:ux c) (hw:ux w) (ht:BG W) (hk:pk c 6=3) (hp:¬0<pk w 3):
  Calls Tryz.prog 35 #[.int .i64 c,.int .i64 w] W fun e W'=>e=.returned (.string (kmText c w))∧Below W.heap.size W W':=by
 have h0:=ma (c:=c.tdiv 6) (n:=1099511627776) (by omega)
 have h1:=zb (c:=c.tdiv 6) (n:=1099511627776) (by omega)
 have HE0:=hid (Pure.km_textNo (c:=c) hp)
 have HA0:Hid (kmA c=⟨#[40,32,97,32,41,32,45,91,32,85,32,42,32,48,32,46,46,32,49,32,93,45,62,32,40,32,98,32,41,32,44,32,40,32,98,32,41,32]⟩++⟨#[45,91,32,84,32,93,45,62]⟩++⟨#[32,40,32,99,32,41]⟩):=by show _=_;unfold kmA;rw[if_neg (by omega)];rw[if_neg (by omega)];rw[if_neg (by omega)];rw[if_pos hk]
 have HK:=hid hk
 have HC:=hid hc
 have HW:=hid hw
 have HT:=hid ht
 have hpn:=ma (c:=w) (n:=3) (by omega)
 clear hk ht
 obtain⟨c0,c1⟩:=hc
 obtain⟨w0,w1⟩:=hw
 obtain⟨d,hd⟩:∃d,pk (c.tdiv 6) 1099511627776=d:=⟨_,rfl⟩
 have HD:=hid hd
 have hkd:kmD c=d:=hd
 try rw[hkd] at HA0
 rw[hd] at h0 h1
 clear hd hkd
 have hs1:=Pure.zt d
 have hs2:=Pure.zt (d / 3)
 have hs3:=Pure.pk3_size (d / 3)
 have hs4:=Pure.kcText_size (w.tdiv 3)
 have hp0:=ma (c:=d / 3) (n:=3) (by omega)
 have hp1:=zb (c:=d / 3) (n:=3) (by omega)
 go_enter Tryz.func35,Tryz.ntmps35
 go_wp2_with fail
 refine(vI (c:=c.tdiv 6) (Ex HC.out (by omega)) (by omega) (by omega)).mono ?_
 rw[HD.out]
 rintro e w1 ⟨rfl,hw1⟩
 obtain rfl:=hw1.symm
 go_wp2_with fail
 refine(BH (c:=d) ⟨by omega,by omega⟩).mono ?_
 rintro e W1 ⟨rfl,hb1⟩
 have HB1:=hid hb1
 clear hb1
 go_wp2_with fail
 refine(vI HC.out (by omega) (by omega)).mono ?_
 rw[HK.out]
 rintro e w1 ⟨rfl,hw1⟩
 obtain rfl:=hw1.symm
 go_wp2_with fail
 refine(vI HW.out (by omega) (by omega)).mono ?_
 rintro e w1 ⟨rfl,hw1⟩
 obtain rfl:=hw1.symm
 go_wp2_with fail
 go_ret
 exact⟨by rw[HE0.out,HA0.out];rfl,HB1.out⟩
theorem matchK31 {W:World} {c w:Int} (hc:ux c) (hw:ux w) (ht:BG W) (hk:pk c 6=3) (hp:0<pk w 3):
  Calls Tryz.prog 35 #[.int .i64 c,.int .i64 w] W fun e W'=>e=.returned (.string (kmText c w))∧Below W.heap.size W W':=by
 have h0:=ma (c:=c.tdiv 6) (n:=1099511627776) (by omega)
 have h1:=zb (c:=c.tdiv 6) (n:=1099511627776) (by omega)
 have HE0:=hid (Pure.km_textYes (c:=c) hp)
 have HA0:Hid (kmA c=⟨#[40,32,97,32,41,32,45,91,32,85,32,42,32,48,32,46,46,32,49,32,93,45,62,32,40,32,98,32,41,32,44,32,40,32,98,32,41,32]⟩++⟨#[45,91,32,84,32,93,45,62]⟩++⟨#[32,40,32,99,32,41]⟩):=by show _=_;unfold kmA;rw[if_neg (by omega)];rw[if_neg (by omega)];rw[if_neg (by omega)];rw[if_pos hk]
 have HK:=hid hk
 have HC:=hid hc
 have HW:=hid hw
 have HT:=hid ht
 have hpn:=ma (c:=w) (n:=3) (by omega)
 clear hk ht
 obtain⟨c0,c1⟩:=hc
 obtain⟨w0,w1⟩:=hw
 obtain⟨d,hd⟩:∃d,pk (c.tdiv 6) 1099511627776=d:=⟨_,rfl⟩
 have HD:=hid hd
 have hkd:kmD c=d:=hd
 try rw[hkd] at HA0
 rw[hd] at h0 h1
 clear hd hkd
 have hs1:=Pure.zt d
 have hs2:=Pure.zt (d / 3)
 have hs3:=Pure.pk3_size (d / 3)
 have hs4:=Pure.kcText_size (w.tdiv 3)
 have hp0:=ma (c:=d / 3) (n:=3) (by omega)
 have hp1:=zb (c:=d / 3) (n:=3) (by omega)
 go_enter Tryz.func35,Tryz.ntmps35
 go_wp2_with fail
 refine(vI (c:=c.tdiv 6) (Ex HC.out (by omega)) (by omega) (by omega)).mono ?_
 rw[HD.out]
 rintro e w1 ⟨rfl,hw1⟩
 obtain rfl:=hw1.symm
 go_wp2_with fail
 refine(BH (c:=d) ⟨by omega,by omega⟩).mono ?_
 rintro e W1 ⟨rfl,hb1⟩
 have HB1:=hid hb1
 clear hb1
 go_wp2_with fail
 refine(vI HC.out (by omega) (by omega)).mono ?_
 rw[HK.out]
 rintro e w1 ⟨rfl,hw1⟩
 obtain rfl:=hw1.symm
 go_wp2_with fail
 refine(vI HW.out (by omega) (by omega)).mono ?_
 rintro e w1 ⟨rfl,hw1⟩
 obtain rfl:=hw1.symm
 go_wp2_with fail
 refine(cond_K (c:=w.tdiv 3) (Ex HW.out (by omega)) (HT.out.below HB1.out)).mono ?_
 rintro e W3 ⟨rfl,hb3⟩
 have HB3:=hid (HB1.out.trans (hb3.mono HB1.out.size))
 clear hb3
 go_wp2_with fail
 go_ret
 exact⟨by rw[HE0.out,HA0.out];rfl,HB3.out⟩
theorem matchK40 {W:World} {c w:Int} (hc:ux c) (hw:ux w) (ht:BG W) (hk:pk c 6=4) (hp:¬0<pk w 3):
  Calls Tryz.prog 35 #[.int .i64 c,.int .i64 w] W fun e W'=>e=.returned (.string (kmText c w))∧Below W.heap.size W W':=by
 have h0:=ma (c:=c.tdiv 6) (n:=1099511627776) (by omega)
 have h1:=zb (c:=c.tdiv 6) (n:=1099511627776) (by omega)
 have HE0:=hid (Pure.km_textNo (c:=c) hp)
 have HA0:Hid (kmA c=⟨#[40,32,97,32,41,32]⟩++⟨#[45,91,32,84,32,93,45,62]⟩++⟨#[32,40,32,98,32,41,32,44,32,40,32,97,32,41,32]⟩++⟨#[45,91,32,84,32,93,45,62]⟩++⟨#[32,40,32,99,32,58,32]⟩++D6 (kmD c)++⟨#[32,41]⟩):=by show _=_;unfold kmA;rw[if_neg (by omega)];rw[if_neg (by omega)];rw[if_neg (by omega)];rw[if_neg (by omega)];rw[if_pos hk]
 have HK:=hid hk
 have HC:=hid hc
 have HW:=hid hw
 have HT:=hid ht
 have hpn:=ma (c:=w) (n:=3) (by omega)
 clear hk ht
 obtain⟨c0,c1⟩:=hc
 obtain⟨w0,w1⟩:=hw
 obtain⟨d,hd⟩:∃d,pk (c.tdiv 6) 1099511627776=d:=⟨_,rfl⟩
 have HD:=hid hd
 have hkd:kmD c=d:=hd
 try rw[hkd] at HA0
 rw[hd] at h0 h1
 clear hd hkd
 have hs1:=Pure.zt d
 have hs2:=Pure.zt (d / 3)
 have hs3:=Pure.pk3_size (d / 3)
 have hs4:=Pure.kcText_size (w.tdiv 3)
 have hp0:=ma (c:=d / 3) (n:=3) (by omega)
 have hp1:=zb (c:=d / 3) (n:=3) (by omega)
 go_enter Tryz.func35,Tryz.ntmps35
 go_wp2_with fail
 refine(vI (c:=c.tdiv 6) (Ex HC.out (by omega)) (by omega) (by omega)).mono ?_
 rw[HD.out]
 rintro e w1 ⟨rfl,hw1⟩
 obtain rfl:=hw1.symm
 go_wp2_with fail
 refine(BH (c:=d) ⟨by omega,by omega⟩).mono ?_
 rintro e W1 ⟨rfl,hb1⟩
 have HB1:=hid hb1
 clear hb1
 go_wp2_with fail
 refine(vI HC.out (by omega) (by omega)).mono ?_
 rw[HK.out]
 rintro e w1 ⟨rfl,hw1⟩
 obtain rfl:=hw1.symm
 go_wp2_with fail
 refine(BH (c:=d) ⟨by omega,by omega⟩).mono ?_
 rintro e W2 ⟨rfl,hb2⟩
 have HB2:=hid (HB1.out.trans (hb2.mono HB1.out.size))
 clear hb2
 go_wp2_with fail
 refine(vI HW.out (by omega) (by omega)).mono ?_
 rintro e w1 ⟨rfl,hw1⟩
 obtain rfl:=hw1.symm
 go_wp2_with fail
 go_ret
 exact⟨by rw[HE0.out,HA0.out];rfl,HB2.out⟩
theorem matchK41 {W:World} {c w:Int} (hc:ux c) (hw:ux w) (ht:BG W) (hk:pk c 6=4) (hp:0<pk w 3):
  Calls Tryz.prog 35 #[.int .i64 c,.int .i64 w] W fun e W'=>e=.returned (.string (kmText c w))∧Below W.heap.size W W':=by
 have h0:=ma (c:=c.tdiv 6) (n:=1099511627776) (by omega)
 have h1:=zb (c:=c.tdiv 6) (n:=1099511627776) (by omega)
 have HE0:=hid (Pure.km_textYes (c:=c) hp)
 have HA0:Hid (kmA c=⟨#[40,32,97,32,41,32]⟩++⟨#[45,91,32,84,32,93,45,62]⟩++⟨#[32,40,32,98,32,41,32,44,32,40,32,97,32,41,32]⟩++⟨#[45,91,32,84,32,93,45,62]⟩++⟨#[32,40,32,99,32,58,32]⟩++D6 (kmD c)++⟨#[32,41]⟩):=by show _=_;unfold kmA;rw[if_neg (by omega)];rw[if_neg (by omega)];rw[if_neg (by omega)];rw[if_neg (by omega)];rw[if_pos hk]
 have HK:=hid hk
 have HC:=hid hc
 have HW:=hid hw
 have HT:=hid ht
 have hpn:=ma (c:=w) (n:=3) (by omega)
 clear hk ht
 obtain⟨c0,c1⟩:=hc
 obtain⟨w0,w1⟩:=hw
 obtain⟨d,hd⟩:∃d,pk (c.tdiv 6) 1099511627776=d:=⟨_,rfl⟩
 have HD:=hid hd
 have hkd:kmD c=d:=hd
 try rw[hkd] at HA0
 rw[hd] at h0 h1
 clear hd hkd
 have hs1:=Pure.zt d
 have hs2:=Pure.zt (d / 3)
 have hs3:=Pure.pk3_size (d / 3)
 have hs4:=Pure.kcText_size (w.tdiv 3)
 have hp0:=ma (c:=d / 3) (n:=3) (by omega)
 have hp1:=zb (c:=d / 3) (n:=3) (by omega)
 go_enter Tryz.func35,Tryz.ntmps35
 go_wp2_with fail
 refine(vI (c:=c.tdiv 6) (Ex HC.out (by omega)) (by omega) (by omega)).mono ?_
 rw[HD.out]
 rintro e w1 ⟨rfl,hw1⟩
 obtain rfl:=hw1.symm
 go_wp2_with fail
 refine(BH (c:=d) ⟨by omega,by omega⟩).mono ?_
 rintro e W1 ⟨rfl,hb1⟩
 have HB1:=hid hb1
 clear hb1
 go_wp2_with fail
 refine(vI HC.out (by omega) (by omega)).mono ?_
 rw[HK.out]
 rintro e w1 ⟨rfl,hw1⟩
 obtain rfl:=hw1.symm
 go_wp2_with fail
 refine(BH (c:=d) ⟨by omega,by omega⟩).mono ?_
 rintro e W2 ⟨rfl,hb2⟩
 have HB2:=hid (HB1.out.trans (hb2.mono HB1.out.size))
 clear hb2
 go_wp2_with fail
 refine(vI HW.out (by omega) (by omega)).mono ?_
 rintro e w1 ⟨rfl,hw1⟩
 obtain rfl:=hw1.symm
 go_wp2_with fail
 refine(cond_K (c:=w.tdiv 3) (Ex HW.out (by omega)) (HT.out.below HB2.out)).mono ?_
 rintro e W3 ⟨rfl,hb3⟩
 have HB3:=hid (HB2.out.trans (hb3.mono HB2.out.size))
 clear hb3
 go_wp2_with fail
 go_ret
 exact⟨by rw[HE0.out,HA0.out];rfl,HB3.out⟩
theorem matchK50 {W:World} {c w:Int} (hc:ux c) (hw:ux w) (ht:BG W) (hk:pk c 6=5) (hp:¬0<pk w 3):
  Calls Tryz.prog 35 #[.int .i64 c,.int .i64 w] W fun e W'=>e=.returned (.string (kmText c w))∧Below W.heap.size W W':=by
 have h0:=ma (c:=c.tdiv 6) (n:=1099511627776) (by omega)
 have h1:=zb (c:=c.tdiv 6) (n:=1099511627776) (by omega)
 have HE0:=hid (Pure.km_textNo (c:=c) hp)
 have HA0:Hid (kmA c=(⟨#[40,32,97,32,58,32]⟩++D6 (kmD c)++⟨#[32,41]⟩)++⟨#[32,44,32,40,32,98,32,58,32]⟩++D6 (kmD c / 3)++⟨#[32,41,32,44,32,40,32,99,32,58,32,65,32,41]⟩):=by show _=_;unfold kmA;rw[if_neg (by omega)];rw[if_neg (by omega)];rw[if_neg (by omega)];rw[if_neg (by omega)];rw[if_neg (by omega)]
 have HK:=hid hk
 have HC:=hid hc
 have HW:=hid hw
 have HT:=hid ht
 have hpn:=ma (c:=w) (n:=3) (by omega)
 clear hk ht
 obtain⟨c0,c1⟩:=hc
 obtain⟨w0,w1⟩:=hw
 obtain⟨d,hd⟩:∃d,pk (c.tdiv 6) 1099511627776=d:=⟨_,rfl⟩
 have HD:=hid hd
 have hkd:kmD c=d:=hd
 try rw[hkd] at HA0
 rw[hd] at h0 h1
 clear hd hkd
 have hs1:=Pure.zt d
 have hs2:=Pure.zt (d / 3)
 have hs3:=Pure.pk3_size (d / 3)
 have hs4:=Pure.kcText_size (w.tdiv 3)
 have hp0:=ma (c:=d / 3) (n:=3) (by omega)
 have hp1:=zb (c:=d / 3) (n:=3) (by omega)
 go_enter Tryz.func35,Tryz.ntmps35
 go_wp2_with fail
 refine(vI (c:=c.tdiv 6) (Ex HC.out (by omega)) (by omega) (by omega)).mono ?_
 rw[HD.out]
 rintro e w1 ⟨rfl,hw1⟩
 obtain rfl:=hw1.symm
 go_wp2_with fail
 refine(BH (c:=d) ⟨by omega,by omega⟩).mono ?_
 rintro e W1 ⟨rfl,hb1⟩
 have HB1:=hid hb1
 clear hb1
 go_wp2_with fail
 refine(vI HC.out (by omega) (by omega)).mono ?_
 rw[HK.out]
 rintro e w1 ⟨rfl,hw1⟩
 obtain rfl:=hw1.symm
 go_wp2_with fail
 refine(BH (c:=d / 3) ⟨by omega,by omega⟩).mono ?_
 rintro e W2 ⟨rfl,hb2⟩
 have HB2:=hid (HB1.out.trans (hb2.mono HB1.out.size))
 clear hb2
 go_wp2_with fail
 refine(vI HW.out (by omega) (by omega)).mono ?_
 rintro e w1 ⟨rfl,hw1⟩
 obtain rfl:=hw1.symm
 go_wp2_with fail
 go_ret
 exact⟨by rw[HE0.out,HA0.out];rfl,HB2.out⟩
theorem matchK51 {W:World} {c w:Int} (hc:ux c) (hw:ux w) (ht:BG W) (hk:pk c 6=5) (hp:0<pk w 3):
  Calls Tryz.prog 35 #[.int .i64 c,.int .i64 w] W fun e W'=>e=.returned (.string (kmText c w))∧Below W.heap.size W W':=by
 have h0:=ma (c:=c.tdiv 6) (n:=1099511627776) (by omega)
 have h1:=zb (c:=c.tdiv 6) (n:=1099511627776) (by omega)
 have HE0:=hid (Pure.km_textYes (c:=c) hp)
 have HA0:Hid (kmA c=(⟨#[40,32,97,32,58,32]⟩++D6 (kmD c)++⟨#[32,41]⟩)++⟨#[32,44,32,40,32,98,32,58,32]⟩++D6 (kmD c / 3)++⟨#[32,41,32,44,32,40,32,99,32,58,32,65,32,41]⟩):=by show _=_;unfold kmA;rw[if_neg (by omega)];rw[if_neg (by omega)];rw[if_neg (by omega)];rw[if_neg (by omega)];rw[if_neg (by omega)]
 have HK:=hid hk
 have HC:=hid hc
 have HW:=hid hw
 have HT:=hid ht
 have hpn:=ma (c:=w) (n:=3) (by omega)
 clear hk ht
 obtain⟨c0,c1⟩:=hc
 obtain⟨w0,w1⟩:=hw
 obtain⟨d,hd⟩:∃d,pk (c.tdiv 6) 1099511627776=d:=⟨_,rfl⟩
 have HD:=hid hd
 have hkd:kmD c=d:=hd
 try rw[hkd] at HA0
 rw[hd] at h0 h1
 clear hd hkd
 have hs1:=Pure.zt d
 have hs2:=Pure.zt (d / 3)
 have hs3:=Pure.pk3_size (d / 3)
 have hs4:=Pure.kcText_size (w.tdiv 3)
 have hp0:=ma (c:=d / 3) (n:=3) (by omega)
 have hp1:=zb (c:=d / 3) (n:=3) (by omega)
 go_enter Tryz.func35,Tryz.ntmps35
 go_wp2_with fail
 refine(vI (c:=c.tdiv 6) (Ex HC.out (by omega)) (by omega) (by omega)).mono ?_
 rw[HD.out]
 rintro e w1 ⟨rfl,hw1⟩
 obtain rfl:=hw1.symm
 go_wp2_with fail
 refine(BH (c:=d) ⟨by omega,by omega⟩).mono ?_
 rintro e W1 ⟨rfl,hb1⟩
 have HB1:=hid hb1
 clear hb1
 go_wp2_with fail
 refine(vI HC.out (by omega) (by omega)).mono ?_
 rw[HK.out]
 rintro e w1 ⟨rfl,hw1⟩
 obtain rfl:=hw1.symm
 go_wp2_with fail
 refine(BH (c:=d / 3) ⟨by omega,by omega⟩).mono ?_
 rintro e W2 ⟨rfl,hb2⟩
 have HB2:=hid (HB1.out.trans (hb2.mono HB1.out.size))
 clear hb2
 go_wp2_with fail
 refine(vI HW.out (by omega) (by omega)).mono ?_
 rintro e w1 ⟨rfl,hw1⟩
 obtain rfl:=hw1.symm
 go_wp2_with fail
 refine(cond_K (c:=w.tdiv 3) (Ex HW.out (by omega)) (HT.out.below HB2.out)).mono ?_
 rintro e W3 ⟨rfl,hb3⟩
 have HB3:=hid (HB2.out.trans (hb3.mono HB2.out.size))
 clear hb3
 go_wp2_with fail
 go_ret
 exact⟨by rw[HE0.out,HA0.out];rfl,HB3.out⟩
theorem match_K {W:World} {c w:Int} (hc:ux c) (hw:ux w) (ht:BG W):
  Calls Tryz.prog 35 #[.int .i64 c,.int .i64 w] W fun e W'=>e=.returned (.string (kmText c w))∧Below W.heap.size W W':=by
 have h0:=ma (c:=c) (n:=6) (by omega)
 have h1:=zb (c:=c) (n:=6) (by omega)
 have h:pk c 6=0∨pk c 6=1∨pk c 6=2∨pk c 6=3∨pk c 6=4∨pk c 6=5:=by omega
 by_cases hp:0<pk w 3
 ·rcases h with h|h|h|h|h|h
  ·exact matchK01 hc hw ht h hp
  ·exact matchK11 hc hw ht h hp
  ·exact matchK21 hc hw ht h hp
  ·exact matchK31 hc hw ht h hp
  ·exact matchK41 hc hw ht h hp
  ·exact matchK51 hc hw ht h hp
 ·rcases h with h|h|h|h|h|h
  ·exact matchK00 hc hw ht h hp
  ·exact matchK10 hc hw ht h hp
  ·exact matchK20 hc hw ht h hp
  ·exact matchK30 hc hw ht h hp
  ·exact matchK40 hc hw ht h hp
  ·exact matchK50 hc hw ht h hp
end
end Go.Proofs.YtobgbmfpicmpcaaGreatDoor
