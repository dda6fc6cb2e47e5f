/- The texts of veilkeep: conditions, matches, reads. -/
import Derived.Test.YtobgbmfpicmpcaaGreatDoorC42
import Derived.Test.YtobgbmfpicmpcaaGreatDoorC38
import Derived.Test.YtobgbmfpicmpcaaGreatDoorDV02
import Derived.Lib.Hide
set_option maxRecDepth 100000
set_option maxHeartbeats 8000000
namespace Go.Proofs.YtobgbmfpicmpcaaGreatDoor
open Go.Lib (hid)
section
open Go.RowKit
theorem ba (w:World) (o:Obj):Below w.heap.size w (w.alloc o):=(Below.refl _ _).alloc (Nat.le_refl _) _
theorem LY {W:World} {c:Int} (hc:ux c) (ht:BG W) (hk:pk c 5=0):
  Calls Tryz.prog 76 #[.int .i64 c] W fun e W'=>e=.returned (.string (bc (kc c)))∧Below W.heap.size W W':=by
 have h0:=ma (c:=c.tdiv 5) (n:=1099511627776) (by omega)
 have h1:=zb (c:=c.tdiv 5) (n:=1099511627776) (by omega)
 have HE0:=hid (Pure.yc hk)
 have HK:=hid hk
 have HC:=hid hc
 have HT:=hid (ht.below (ba W (.cells #[.string ⟨#[97]⟩,.string ⟨#[98]⟩,.string ⟨#[99]⟩] 9)))
 have HB:=hid (ba W (.cells #[.string ⟨#[97]⟩,.string ⟨#[98]⟩,.string ⟨#[99]⟩] 9))
 clear hk ht
 obtain⟨c0,c1⟩:=hc
 obtain⟨d,hd⟩:∃d,pk (c.tdiv 5) 1099511627776=d:=⟨_,rfl⟩
 have HD:=hid hd
 have HE:Hid (bc (kc c)=vB (pk d 3)++⟨#[32,46,32,107]⟩++⟨#[32,73,83,32,78,85,76,76]⟩):=by have h:=HE0.out;rw[show ky c=d from hd] at h;exact h
 rw[hd] at h0 h1
 have hs9:=Pure.yL (d / 9)
 clear hd HE0
 rcases Pure.LU d with hi|hi|hi
 ·have HI:=hid hi
  clear hi
  go_enter Tryz.func76,Tryz.ntmps76
  go_wp2_with fail
  refine(vI (c:=c.tdiv 5) (Ex HC.out (by omega)) (by omega) (by omega)).mono ?_
  rw[HD.out]
  rintro e w1 ⟨rfl,hw⟩
  obtain rfl:=hw.symm
  go_wp2_with fail
  refine(vI (c:=d) ⟨by omega,by omega⟩ (by omega) (by omega)).mono ?_
  rw[HI.out]
  rintro e w1 ⟨rfl,hw⟩
  obtain rfl:=hw.symm
  go_wp2_with fail
  refine(vI HC.out (by omega) (by omega)).mono ?_
  rw[HK.out]
  rintro e w1 ⟨rfl,hw⟩
  obtain rfl:=hw.symm
  go_wp2_with fail
  go_ret
  exact⟨by rw[HE.out,HI.out];rfl,HB.out⟩
 ·have HI:=hid hi
  clear hi
  go_enter Tryz.func76,Tryz.ntmps76
  go_wp2_with fail
  refine(vI (c:=c.tdiv 5) (Ex HC.out (by omega)) (by omega) (by omega)).mono ?_
  rw[HD.out]
  rintro e w1 ⟨rfl,hw⟩
  obtain rfl:=hw.symm
  go_wp2_with fail
  refine(vI (c:=d) ⟨by omega,by omega⟩ (by omega) (by omega)).mono ?_
  rw[HI.out]
  rintro e w1 ⟨rfl,hw⟩
  obtain rfl:=hw.symm
  go_wp2_with fail
  refine(vI HC.out (by omega) (by omega)).mono ?_
  rw[HK.out]
  rintro e w1 ⟨rfl,hw⟩
  obtain rfl:=hw.symm
  go_wp2_with fail
  go_ret
  exact⟨by rw[HE.out,HI.out];rfl,HB.out⟩
 ·have HI:=hid hi
  clear hi
  go_enter Tryz.func76,Tryz.ntmps76
  go_wp2_with fail
  refine(vI (c:=c.tdiv 5) (Ex HC.out (by omega)) (by omega) (by omega)).mono ?_
  rw[HD.out]
  rintro e w1 ⟨rfl,hw⟩
  obtain rfl:=hw.symm
  go_wp2_with fail
  refine(vI (c:=d) ⟨by omega,by omega⟩ (by omega) (by omega)).mono ?_
  rw[HI.out]
  rintro e w1 ⟨rfl,hw⟩
  obtain rfl:=hw.symm
  go_wp2_with fail
  refine(vI HC.out (by omega) (by omega)).mono ?_
  rw[HK.out]
  rintro e w1 ⟨rfl,hw⟩
  obtain rfl:=hw.symm
  go_wp2_with fail
  go_ret
  exact⟨by rw[HE.out,HI.out];rfl,HB.out⟩
theorem L8 {W:World} {c:Int} (hc:ux c) (ht:BG W) (hk:pk c 5=1):
  Calls Tryz.prog 76 #[.int .i64 c] W fun e W'=>e=.returned (.string (bc (kc c)))∧Below W.heap.size W W':=by
 have h0:=ma (c:=c.tdiv 5) (n:=1099511627776) (by omega)
 have h1:=zb (c:=c.tdiv 5) (n:=1099511627776) (by omega)
 have HE0:=hid (Pure.Lu hk)
 have HK:=hid hk
 have HC:=hid hc
 have HT:=hid (ht.below (ba W (.cells #[.string ⟨#[97]⟩,.string ⟨#[98]⟩,.string ⟨#[99]⟩] 9)))
 have HB:=hid (ba W (.cells #[.string ⟨#[97]⟩,.string ⟨#[98]⟩,.string ⟨#[99]⟩] 9))
 clear hk ht
 obtain⟨c0,c1⟩:=hc
 obtain⟨d,hd⟩:∃d,pk (c.tdiv 5) 1099511627776=d:=⟨_,rfl⟩
 have HD:=hid hd
 have HE:Hid (bc (kc c)=vB (pk d 3)++⟨#[32,46,32,107]⟩++⟨#[32,73,83,32,78,79,84,32,78,85,76,76]⟩):=by have h:=HE0.out;rw[show ky c=d from hd] at h;exact h
 rw[hd] at h0 h1
 have hs9:=Pure.yL (d / 9)
 clear hd HE0
 rcases Pure.LU d with hi|hi|hi
 ·have HI:=hid hi
  clear hi
  go_enter Tryz.func76,Tryz.ntmps76
  go_wp2_with fail
  refine(vI (c:=c.tdiv 5) (Ex HC.out (by omega)) (by omega) (by omega)).mono ?_
  rw[HD.out]
  rintro e w1 ⟨rfl,hw⟩
  obtain rfl:=hw.symm
  go_wp2_with fail
  refine(vI (c:=d) ⟨by omega,by omega⟩ (by omega) (by omega)).mono ?_
  rw[HI.out]
  rintro e w1 ⟨rfl,hw⟩
  obtain rfl:=hw.symm
  go_wp2_with fail
  refine(vI HC.out (by omega) (by omega)).mono ?_
  rw[HK.out]
  rintro e w1 ⟨rfl,hw⟩
  obtain rfl:=hw.symm
  go_wp2_with fail
  go_ret
  exact⟨by rw[HE.out,HI.out];rfl,HB.out⟩
 ·have HI:=hid hi
  clear hi
  go_enter Tryz.func76,Tryz.ntmps76
  go_wp2_with fail
  refine(vI (c:=c.tdiv 5) (Ex HC.out (by omega)) (by omega) (by omega)).mono ?_
  rw[HD.out]
  rintro e w1 ⟨rfl,hw⟩
  obtain rfl:=hw.symm
  go_wp2_with fail
  refine(vI (c:=d) ⟨by omega,by omega⟩ (by omega) (by omega)).mono ?_
  rw[HI.out]
  rintro e w1 ⟨rfl,hw⟩
  obtain rfl:=hw.symm
  go_wp2_with fail
  refine(vI HC.out (by omega) (by omega)).mono ?_
  rw[HK.out]
  rintro e w1 ⟨rfl,hw⟩
  obtain rfl:=hw.symm
  go_wp2_with fail
  go_ret
  exact⟨by rw[HE.out,HI.out];rfl,HB.out⟩
 ·have HI:=hid hi
  clear hi
  go_enter Tryz.func76,Tryz.ntmps76
  go_wp2_with fail
  refine(vI (c:=c.tdiv 5) (Ex HC.out (by omega)) (by omega) (by omega)).mono ?_
  rw[HD.out]
  rintro e w1 ⟨rfl,hw⟩
  obtain rfl:=hw.symm
  go_wp2_with fail
  refine(vI (c:=d) ⟨by omega,by omega⟩ (by omega) (by omega)).mono ?_
  rw[HI.out]
  rintro e w1 ⟨rfl,hw⟩
  obtain rfl:=hw.symm
  go_wp2_with fail
  refine(vI HC.out (by omega) (by omega)).mono ?_
  rw[HK.out]
  rintro e w1 ⟨rfl,hw⟩
  obtain rfl:=hw.symm
  go_wp2_with fail
  go_ret
  exact⟨by rw[HE.out,HI.out];rfl,HB.out⟩
theorem Mf {W:World} {c:Int} (hc:ux c) (ht:BG W) (hk:pk c 5=2):
  Calls Tryz.prog 76 #[.int .i64 c] W fun e W'=>e=.returned (.string (bc (kc c)))∧Below W.heap.size W W':=by
 have h0:=ma (c:=c.tdiv 5) (n:=1099511627776) (by omega)
 have h1:=zb (c:=c.tdiv 5) (n:=1099511627776) (by omega)
 have HE0:=hid (Pure.Lr hk)
 have HK:=hid hk
 have HC:=hid hc
 have HT:=hid (ht.below (ba W (.cells #[.string ⟨#[97]⟩,.string ⟨#[98]⟩,.string ⟨#[99]⟩] 9)))
 have HB:=hid (ba W (.cells #[.string ⟨#[97]⟩,.string ⟨#[98]⟩,.string ⟨#[99]⟩] 9))
 clear hk ht
 obtain⟨c0,c1⟩:=hc
 obtain⟨d,hd⟩:∃d,pk (c.tdiv 5) 1099511627776=d:=⟨_,rfl⟩
 have HD:=hid hd
 have HE:Hid (bc (kc c)=vB (pk d 3)++⟨#[32,46,32,107]⟩++⟨#[32,60,61,32]⟩++vB (pk (d / 3) 3)++⟨#[32,46,32,107]⟩):=by have h:=HE0.out;rw[show ky c=d from hd] at h;exact h
 rw[hd] at h0 h1
 have hs9:=Pure.yL (d / 9)
 clear hd HE0
 rcases Pure.LU d with hi|hi|hi
 ·have hj3:=Pure.LU (d / 3)
  rcases hj3 with hj|hj|hj
  ·have HJ:=hid hj
   clear hj
   have HI:=hid hi
   clear hi
   go_enter Tryz.func76,Tryz.ntmps76
   go_wp2_with fail
   refine(vI (c:=c.tdiv 5) (Ex HC.out (by omega)) (by omega) (by omega)).mono ?_
   rw[HD.out]
   rintro e w1 ⟨rfl,hw⟩
   obtain rfl:=hw.symm
   go_wp2_with fail
   refine(vI (c:=d) ⟨by omega,by omega⟩ (by omega) (by omega)).mono ?_
   rw[HI.out]
   rintro e w1 ⟨rfl,hw⟩
   obtain rfl:=hw.symm
   go_wp2_with fail
   refine(vI HC.out (by omega) (by omega)).mono ?_
   rw[HK.out]
   rintro e w1 ⟨rfl,hw⟩
   obtain rfl:=hw.symm
   go_wp2_with fail
   refine(vI (c:=d / 3) ⟨by omega,by omega⟩ (by omega) (by omega)).mono ?_
   rw[HJ.out]
   rintro e w1 ⟨rfl,hw⟩
   obtain rfl:=hw.symm
   go_wp2_with fail
   go_ret
   exact⟨by rw[HE.out,HI.out,HJ.out];rfl,HB.out⟩
  ·have HJ:=hid hj
   clear hj
   have HI:=hid hi
   clear hi
   go_enter Tryz.func76,Tryz.ntmps76
   go_wp2_with fail
   refine(vI (c:=c.tdiv 5) (Ex HC.out (by omega)) (by omega) (by omega)).mono ?_
   rw[HD.out]
   rintro e w1 ⟨rfl,hw⟩
   obtain rfl:=hw.symm
   go_wp2_with fail
   refine(vI (c:=d) ⟨by omega,by omega⟩ (by omega) (by omega)).mono ?_
   rw[HI.out]
   rintro e w1 ⟨rfl,hw⟩
   obtain rfl:=hw.symm
   go_wp2_with fail
   refine(vI HC.out (by omega) (by omega)).mono ?_
   rw[HK.out]
   rintro e w1 ⟨rfl,hw⟩
   obtain rfl:=hw.symm
   go_wp2_with fail
   refine(vI (c:=d / 3) ⟨by omega,by omega⟩ (by omega) (by omega)).mono ?_
   rw[HJ.out]
   rintro e w1 ⟨rfl,hw⟩
   obtain rfl:=hw.symm
   go_wp2_with fail
   go_ret
   exact⟨by rw[HE.out,HI.out,HJ.out];rfl,HB.out⟩
  ·have HJ:=hid hj
   clear hj
   have HI:=hid hi
   clear hi
   go_enter Tryz.func76,Tryz.ntmps76
   go_wp2_with fail
   refine(vI (c:=c.tdiv 5) (Ex HC.out (by omega)) (by omega) (by omega)).mono ?_
   rw[HD.out]
   rintro e w1 ⟨rfl,hw⟩
   obtain rfl:=hw.symm
   go_wp2_with fail
   refine(vI (c:=d) ⟨by omega,by omega⟩ (by omega) (by omega)).mono ?_
   rw[HI.out]
   rintro e w1 ⟨rfl,hw⟩
   obtain rfl:=hw.symm
   go_wp2_with fail
   refine(vI HC.out (by omega) (by omega)).mono ?_
   rw[HK.out]
   rintro e w1 ⟨rfl,hw⟩
   obtain rfl:=hw.symm
   go_wp2_with fail
   refine(vI (c:=d / 3) ⟨by omega,by omega⟩ (by omega) (by omega)).mono ?_
   rw[HJ.out]
   rintro e w1 ⟨rfl,hw⟩
   obtain rfl:=hw.symm
   go_wp2_with fail
   go_ret
   exact⟨by rw[HE.out,HI.out,HJ.out];rfl,HB.out⟩
 ·have hj3:=Pure.LU (d / 3)
  rcases hj3 with hj|hj|hj
  ·have HJ:=hid hj
   clear hj
   have HI:=hid hi
   clear hi
   go_enter Tryz.func76,Tryz.ntmps76
   go_wp2_with fail
   refine(vI (c:=c.tdiv 5) (Ex HC.out (by omega)) (by omega) (by omega)).mono ?_
   rw[HD.out]
   rintro e w1 ⟨rfl,hw⟩
   obtain rfl:=hw.symm
   go_wp2_with fail
   refine(vI (c:=d) ⟨by omega,by omega⟩ (by omega) (by omega)).mono ?_
   rw[HI.out]
   rintro e w1 ⟨rfl,hw⟩
   obtain rfl:=hw.symm
   go_wp2_with fail
   refine(vI HC.out (by omega) (by omega)).mono ?_
   rw[HK.out]
   rintro e w1 ⟨rfl,hw⟩
   obtain rfl:=hw.symm
   go_wp2_with fail
   refine(vI (c:=d / 3) ⟨by omega,by omega⟩ (by omega) (by omega)).mono ?_
   rw[HJ.out]
   rintro e w1 ⟨rfl,hw⟩
   obtain rfl:=hw.symm
   go_wp2_with fail
   go_ret
   exact⟨by rw[HE.out,HI.out,HJ.out];rfl,HB.out⟩
  ·have HJ:=hid hj
   clear hj
   have HI:=hid hi
   clear hi
   go_enter Tryz.func76,Tryz.ntmps76
   go_wp2_with fail
   refine(vI (c:=c.tdiv 5) (Ex HC.out (by omega)) (by omega) (by omega)).mono ?_
   rw[HD.out]
   rintro e w1 ⟨rfl,hw⟩
   obtain rfl:=hw.symm
   go_wp2_with fail
   refine(vI (c:=d) ⟨by omega,by omega⟩ (by omega) (by omega)).mono ?_
   rw[HI.out]
   rintro e w1 ⟨rfl,hw⟩
   obtain rfl:=hw.symm
   go_wp2_with fail
   refine(vI HC.out (by omega) (by omega)).mono ?_
   rw[HK.out]
   rintro e w1 ⟨rfl,hw⟩
   obtain rfl:=hw.symm
   go_wp2_with fail
   refine(vI (c:=d / 3) ⟨by omega,by omega⟩ (by omega) (by omega)).mono ?_
   rw[HJ.out]
   rintro e w1 ⟨rfl,hw⟩
   obtain rfl:=hw.symm
   go_wp2_with fail
   go_ret
   exact⟨by rw[HE.out,HI.out,HJ.out];rfl,HB.out⟩
  ·have HJ:=hid hj
   clear hj
   have HI:=hid hi
   clear hi
   go_enter Tryz.func76,Tryz.ntmps76
   go_wp2_with fail
   refine(vI (c:=c.tdiv 5) (Ex HC.out (by omega)) (by omega) (by omega)).mono ?_
   rw[HD.out]
   rintro e w1 ⟨rfl,hw⟩
   obtain rfl:=hw.symm
   go_wp2_with fail
   refine(vI (c:=d) ⟨by omega,by omega⟩ (by omega) (by omega)).mono ?_
   rw[HI.out]
   rintro e w1 ⟨rfl,hw⟩
   obtain rfl:=hw.symm
   go_wp2_with fail
   refine(vI HC.out (by omega) (by omega)).mono ?_
   rw[HK.out]
   rintro e w1 ⟨rfl,hw⟩
   obtain rfl:=hw.symm
   go_wp2_with fail
   refine(vI (c:=d / 3) ⟨by omega,by omega⟩ (by omega) (by omega)).mono ?_
   rw[HJ.out]
   rintro e w1 ⟨rfl,hw⟩
   obtain rfl:=hw.symm
   go_wp2_with fail
   go_ret
   exact⟨by rw[HE.out,HI.out,HJ.out];rfl,HB.out⟩
 ·have hj3:=Pure.LU (d / 3)
  rcases hj3 with hj|hj|hj
  ·have HJ:=hid hj
   clear hj
   have HI:=hid hi
   clear hi
   go_enter Tryz.func76,Tryz.ntmps76
   go_wp2_with fail
   refine(vI (c:=c.tdiv 5) (Ex HC.out (by omega)) (by omega) (by omega)).mono ?_
   rw[HD.out]
   rintro e w1 ⟨rfl,hw⟩
   obtain rfl:=hw.symm
   go_wp2_with fail
   refine(vI (c:=d) ⟨by omega,by omega⟩ (by omega) (by omega)).mono ?_
   rw[HI.out]
   rintro e w1 ⟨rfl,hw⟩
   obtain rfl:=hw.symm
   go_wp2_with fail
   refine(vI HC.out (by omega) (by omega)).mono ?_
   rw[HK.out]
   rintro e w1 ⟨rfl,hw⟩
   obtain rfl:=hw.symm
   go_wp2_with fail
   refine(vI (c:=d / 3) ⟨by omega,by omega⟩ (by omega) (by omega)).mono ?_
   rw[HJ.out]
   rintro e w1 ⟨rfl,hw⟩
   obtain rfl:=hw.symm
   go_wp2_with fail
   go_ret
   exact⟨by rw[HE.out,HI.out,HJ.out];rfl,HB.out⟩
  ·have HJ:=hid hj
   clear hj
   have HI:=hid hi
   clear hi
   go_enter Tryz.func76,Tryz.ntmps76
   go_wp2_with fail
   refine(vI (c:=c.tdiv 5) (Ex HC.out (by omega)) (by omega) (by omega)).mono ?_
   rw[HD.out]
   rintro e w1 ⟨rfl,hw⟩
   obtain rfl:=hw.symm
   go_wp2_with fail
   refine(vI (c:=d) ⟨by omega,by omega⟩ (by omega) (by omega)).mono ?_
   rw[HI.out]
   rintro e w1 ⟨rfl,hw⟩
   obtain rfl:=hw.symm
   go_wp2_with fail
   refine(vI HC.out (by omega) (by omega)).mono ?_
   rw[HK.out]
   rintro e w1 ⟨rfl,hw⟩
   obtain rfl:=hw.symm
   go_wp2_with fail
   refine(vI (c:=d / 3) ⟨by omega,by omega⟩ (by omega) (by omega)).mono ?_
   rw[HJ.out]
   rintro e w1 ⟨rfl,hw⟩
   obtain rfl:=hw.symm
   go_wp2_with fail
   go_ret
   exact⟨by rw[HE.out,HI.out,HJ.out];rfl,HB.out⟩
  ·have HJ:=hid hj
   clear hj
   have HI:=hid hi
   clear hi
   go_enter Tryz.func76,Tryz.ntmps76
   go_wp2_with fail
   refine(vI (c:=c.tdiv 5) (Ex HC.out (by omega)) (by omega) (by omega)).mono ?_
   rw[HD.out]
   rintro e w1 ⟨rfl,hw⟩
   obtain rfl:=hw.symm
   go_wp2_with fail
   refine(vI (c:=d) ⟨by omega,by omega⟩ (by omega) (by omega)).mono ?_
   rw[HI.out]
   rintro e w1 ⟨rfl,hw⟩
   obtain rfl:=hw.symm
   go_wp2_with fail
   refine(vI HC.out (by omega) (by omega)).mono ?_
   rw[HK.out]
   rintro e w1 ⟨rfl,hw⟩
   obtain rfl:=hw.symm
   go_wp2_with fail
   refine(vI (c:=d / 3) ⟨by omega,by omega⟩ (by omega) (by omega)).mono ?_
   rw[HJ.out]
   rintro e w1 ⟨rfl,hw⟩
   obtain rfl:=hw.symm
   go_wp2_with fail
   go_ret
   exact⟨by rw[HE.out,HI.out,HJ.out];rfl,HB.out⟩
theorem Me {W:World} {c:Int} (hc:ux c) (ht:BG W) (hk:pk c 5=3):
  Calls Tryz.prog 76 #[.int .i64 c] W fun e W'=>e=.returned (.string (bc (kc c)))∧Below W.heap.size W W':=by
 have h0:=ma (c:=c.tdiv 5) (n:=1099511627776) (by omega)
 have h1:=zb (c:=c.tdiv 5) (n:=1099511627776) (by omega)
 have HE0:=hid (Pure.As hk)
 have HK:=hid hk
 have HC:=hid hc
 have HT:=hid (ht.below (ba W (.cells #[.string ⟨#[97]⟩,.string ⟨#[98]⟩,.string ⟨#[99]⟩] 9)))
 have HB:=hid (ba W (.cells #[.string ⟨#[97]⟩,.string ⟨#[98]⟩,.string ⟨#[99]⟩] 9))
 clear hk ht
 obtain⟨c0,c1⟩:=hc
 obtain⟨d,hd⟩:∃d,pk (c.tdiv 5) 1099511627776=d:=⟨_,rfl⟩
 have HD:=hid hd
 have HE:Hid (bc (kc c)=vB (pk d 3)++⟨#[32,46,32,107]⟩++⟨#[32,60,62,32]⟩++dB (GP (d / 9))):=by have h:=HE0.out;rw[show ky c=d from hd] at h;exact h
 rw[hd] at h0 h1
 have hs9:=Pure.yL (d / 9)
 clear hd HE0
 rcases Pure.LU d with hi|hi|hi
 ·have HI:=hid hi
  clear hi
  go_enter Tryz.func76,Tryz.ntmps76
  go_wp2_with fail
  refine(vI (c:=c.tdiv 5) (Ex HC.out (by omega)) (by omega) (by omega)).mono ?_
  rw[HD.out]
  rintro e w1 ⟨rfl,hw⟩
  obtain rfl:=hw.symm
  go_wp2_with fail
  refine(vI (c:=d) ⟨by omega,by omega⟩ (by omega) (by omega)).mono ?_
  rw[HI.out]
  rintro e w1 ⟨rfl,hw⟩
  obtain rfl:=hw.symm
  go_wp2_with fail
  refine(vI HC.out (by omega) (by omega)).mono ?_
  rw[HK.out]
  rintro e w1 ⟨rfl,hw⟩
  obtain rfl:=hw.symm
  go_wp2_with fail
  refine(ze (c:=d / 9) ⟨by omega,by omega⟩ HT.out).mono ?_
  rintro e w3 ⟨rfl,hb⟩
  have HB3:=hid (HB.out.trans (hb.mono HB.out.size))
  clear hb
  go_wp2_with fail
  go_ret
  exact⟨by rw[HE.out,HI.out];rfl,HB3.out⟩
 ·have HI:=hid hi
  clear hi
  go_enter Tryz.func76,Tryz.ntmps76
  go_wp2_with fail
  refine(vI (c:=c.tdiv 5) (Ex HC.out (by omega)) (by omega) (by omega)).mono ?_
  rw[HD.out]
  rintro e w1 ⟨rfl,hw⟩
  obtain rfl:=hw.symm
  go_wp2_with fail
  refine(vI (c:=d) ⟨by omega,by omega⟩ (by omega) (by omega)).mono ?_
  rw[HI.out]
  rintro e w1 ⟨rfl,hw⟩
  obtain rfl:=hw.symm
  go_wp2_with fail
  refine(vI HC.out (by omega) (by omega)).mono ?_
  rw[HK.out]
  rintro e w1 ⟨rfl,hw⟩
  obtain rfl:=hw.symm
  go_wp2_with fail
  refine(ze (c:=d / 9) ⟨by omega,by omega⟩ HT.out).mono ?_
  rintro e w3 ⟨rfl,hb⟩
  have HB3:=hid (HB.out.trans (hb.mono HB.out.size))
  clear hb
  go_wp2_with fail
  go_ret
  exact⟨by rw[HE.out,HI.out];rfl,HB3.out⟩
 ·have HI:=hid hi
  clear hi
  go_enter Tryz.func76,Tryz.ntmps76
  go_wp2_with fail
  refine(vI (c:=c.tdiv 5) (Ex HC.out (by omega)) (by omega) (by omega)).mono ?_
  rw[HD.out]
  rintro e w1 ⟨rfl,hw⟩
  obtain rfl:=hw.symm
  go_wp2_with fail
  refine(vI (c:=d) ⟨by omega,by omega⟩ (by omega) (by omega)).mono ?_
  rw[HI.out]
  rintro e w1 ⟨rfl,hw⟩
  obtain rfl:=hw.symm
  go_wp2_with fail
  refine(vI HC.out (by omega) (by omega)).mono ?_
  rw[HK.out]
  rintro e w1 ⟨rfl,hw⟩
  obtain rfl:=hw.symm
  go_wp2_with fail
  refine(ze (c:=d / 9) ⟨by omega,by omega⟩ HT.out).mono ?_
  rintro e w3 ⟨rfl,hb⟩
  have HB3:=hid (HB.out.trans (hb.mono HB.out.size))
  clear hb
  go_wp2_with fail
  go_ret
  exact⟨by rw[HE.out,HI.out];rfl,HB3.out⟩
theorem Mi {W:World} {c:Int} (hc:ux c) (ht:BG W) (hk:pk c 5=4):
  Calls Tryz.prog 76 #[.int .i64 c] W fun e W'=>e=.returned (.string (bc (kc c)))∧Below W.heap.size W W':=by
 have h0:=ma (c:=c.tdiv 5) (n:=1099511627776) (by omega)
 have h1:=zb (c:=c.tdiv 5) (n:=1099511627776) (by omega)
 have HE0:=hid (Pure.zi hk)
 have HK:=hid hk
 have HC:=hid hc
 have HT:=hid (ht.below (ba W (.cells #[.string ⟨#[97]⟩,.string ⟨#[98]⟩,.string ⟨#[99]⟩] 9)))
 have HB:=hid (ba W (.cells #[.string ⟨#[97]⟩,.string ⟨#[98]⟩,.string ⟨#[99]⟩] 9))
 clear hk ht
 obtain⟨c0,c1⟩:=hc
 obtain⟨d,hd⟩:∃d,pk (c.tdiv 5) 1099511627776=d:=⟨_,rfl⟩
 have HD:=hid hd
 have HE:Hid (bc (kc c)=vB (pk d 3)++⟨#[32,46,32,107]⟩++⟨#[32,60,32]⟩++dB (GP (d / 9))):=by have h:=HE0.out;rw[show ky c=d from hd] at h;exact h
 rw[hd] at h0 h1
 have hs9:=Pure.yL (d / 9)
 clear hd HE0
 rcases Pure.LU d with hi|hi|hi
 ·have HI:=hid hi
  clear hi
  go_enter Tryz.func76,Tryz.ntmps76
  go_wp2_with fail
  refine(vI (c:=c.tdiv 5) (Ex HC.out (by omega)) (by omega) (by omega)).mono ?_
  rw[HD.out]
  rintro e w1 ⟨rfl,hw⟩
  obtain rfl:=hw.symm
  go_wp2_with fail
  refine(vI (c:=d) ⟨by omega,by omega⟩ (by omega) (by omega)).mono ?_
  rw[HI.out]
  rintro e w1 ⟨rfl,hw⟩
  obtain rfl:=hw.symm
  go_wp2_with fail
  refine(vI HC.out (by omega) (by omega)).mono ?_
  rw[HK.out]
  rintro e w1 ⟨rfl,hw⟩
  obtain rfl:=hw.symm
  go_wp2_with fail
  refine(ze (c:=d / 9) ⟨by omega,by omega⟩ HT.out).mono ?_
  rintro e w3 ⟨rfl,hb⟩
  have HB3:=hid (HB.out.trans (hb.mono HB.out.size))
  clear hb
  go_wp2_with fail
  go_ret
  exact⟨by rw[HE.out,HI.out];rfl,HB3.out⟩
 ·have HI:=hid hi
  clear hi
  go_enter Tryz.func76,Tryz.ntmps76
  go_wp2_with fail
  refine(vI (c:=c.tdiv 5) (Ex HC.out (by omega)) (by omega) (by omega)).mono ?_
  rw[HD.out]
  rintro e w1 ⟨rfl,hw⟩
  obtain rfl:=hw.symm
  go_wp2_with fail
  refine(vI (c:=d) ⟨by omega,by omega⟩ (by omega) (by omega)).mono ?_
  rw[HI.out]
  rintro e w1 ⟨rfl,hw⟩
  obtain rfl:=hw.symm
  go_wp2_with fail
  refine(vI HC.out (by omega) (by omega)).mono ?_
  rw[HK.out]
  rintro e w1 ⟨rfl,hw⟩
  obtain rfl:=hw.symm
  go_wp2_with fail
  refine(ze (c:=d / 9) ⟨by omega,by omega⟩ HT.out).mono ?_
  rintro e w3 ⟨rfl,hb⟩
  have HB3:=hid (HB.out.trans (hb.mono HB.out.size))
  clear hb
  go_wp2_with fail
  go_ret
  exact⟨by rw[HE.out,HI.out];rfl,HB3.out⟩
 ·have HI:=hid hi
  clear hi
  go_enter Tryz.func76,Tryz.ntmps76
  go_wp2_with fail
  refine(vI (c:=c.tdiv 5) (Ex HC.out (by omega)) (by omega) (by omega)).mono ?_
  rw[HD.out]
  rintro e w1 ⟨rfl,hw⟩
  obtain rfl:=hw.symm
  go_wp2_with fail
  refine(vI (c:=d) ⟨by omega,by omega⟩ (by omega) (by omega)).mono ?_
  rw[HI.out]
  rintro e w1 ⟨rfl,hw⟩
  obtain rfl:=hw.symm
  go_wp2_with fail
  refine(vI HC.out (by omega) (by omega)).mono ?_
  rw[HK.out]
  rintro e w1 ⟨rfl,hw⟩
  obtain rfl:=hw.symm
  go_wp2_with fail
  refine(ze (c:=d / 9) ⟨by omega,by omega⟩ HT.out).mono ?_
  rintro e w3 ⟨rfl,hb⟩
  have HB3:=hid (HB.out.trans (hb.mono HB.out.size))
  clear hb
  go_wp2_with fail
  go_ret
  exact⟨by rw[HE.out,HI.out];rfl,HB3.out⟩
theorem gp {W:World} {c:Int} (hc:ux c) (ht:BG W):
  Calls Tryz.prog 76 #[.int .i64 c] W fun e W'=>e=.returned (.string (bc (kc c)))∧Below W.heap.size W W':=by
 have h0:=ma (c:=c) (n:=5) (by omega)
 have h1:=zb (c:=c) (n:=5) (by omega)
 have h:pk c 5=0∨pk c 5=1∨pk c 5=2∨pk c 5=3∨pk c 5=4:=by omega
 rcases h with h|h|h|h|h
 ·exact LY hc ht h
 ·exact L8 hc ht h
 ·exact Mf hc ht h
 ·exact Me hc ht h
 ·exact Mi hc ht h
theorem yi {W:World} {c w:Int} (hc:ux c) (hw:ux w) (ht:BG W) (hk:pk c 6=0) (hp:¬0<pk w 3):
  Calls Tryz.prog 35 #[.int .i64 c,.int .i64 w] W fun e W'=>e=.returned (.string (a8 c w))∧Below W.heap.size W W':=by
 have h0:=ma (c:=c.tdiv 6) (n:=1099511627776) (by omega)
 have h1:=zb (c:=c.tdiv 6) (n:=1099511627776) (by omega)
 have HE0:=hid (Pure.ck (c:=c) hp)
 have HA0:Hid (fy c=⟨#[40,32,97,32,41,32]⟩++⟨#[45,91,32,84,32,93,45,62]⟩++⟨#[32,40,32,98,32,41,32]⟩++⟨#[45,91,32,84,32,93,45,62]⟩++⟨#[32,40,32,99,32,41]⟩):=by show _=_;unfold fy;rw[if_pos hk]
 have HK:=hid hk
 have HC:=hid hc
 have HW:=hid hw
 have HT:=hid ht
 have hpn:=ma (c:=w) (n:=3) (by omega)
 clear hk ht
 obtain⟨c0,c1⟩:=hc
 obtain⟨w0,w1⟩:=hw
 obtain⟨d,hd⟩:∃d,pk (c.tdiv 6) 1099511627776=d:=⟨_,rfl⟩
 have HD:=hid hd
 have hkd:cM c=d:=hd
 try rw[hkd] at HA0
 rw[hd] at h0 h1
 clear hd hkd
 have hs1:=Pure.zt d
 have hs2:=Pure.zt (d / 3)
 have hs3:=Pure.bo (d / 3)
 have hs4:=Pure.ad (w.tdiv 3)
 have hp0:=ma (c:=d / 3) (n:=3) (by omega)
 have hp1:=zb (c:=d / 3) (n:=3) (by omega)
 go_enter Tryz.func35,Tryz.ntmps35
 go_wp2_with fail
 refine(vI (c:=c.tdiv 6) (Ex HC.out (by omega)) (by omega) (by omega)).mono ?_
 rw[HD.out]
 rintro e w1 ⟨rfl,hw1⟩
 obtain rfl:=hw1.symm
 go_wp2_with fail
 refine(BH (c:=d) ⟨by omega,by omega⟩).mono ?_
 rintro e W1 ⟨rfl,hb1⟩
 have HB1:=hid hb1
 clear hb1
 go_wp2_with fail
 refine(vI HC.out (by omega) (by omega)).mono ?_
 rw[HK.out]
 rintro e w1 ⟨rfl,hw1⟩
 obtain rfl:=hw1.symm
 go_wp2_with fail
 refine(vI HW.out (by omega) (by omega)).mono ?_
 rintro e w1 ⟨rfl,hw1⟩
 obtain rfl:=hw1.symm
 go_wp2_with fail
 go_ret
 exact⟨by rw[HE0.out,HA0.out];rfl,HB1.out⟩
theorem LA {W:World} {c w:Int} (hc:ux c) (hw:ux w) (ht:BG W) (hk:pk c 6=0) (hp:0<pk w 3):
  Calls Tryz.prog 35 #[.int .i64 c,.int .i64 w] W fun e W'=>e=.returned (.string (a8 c w))∧Below W.heap.size W W':=by
 have h0:=ma (c:=c.tdiv 6) (n:=1099511627776) (by omega)
 have h1:=zb (c:=c.tdiv 6) (n:=1099511627776) (by omega)
 have HE0:=hid (Pure.b8 (c:=c) hp)
 have HA0:Hid (fy c=⟨#[40,32,97,32,41,32]⟩++⟨#[45,91,32,84,32,93,45,62]⟩++⟨#[32,40,32,98,32,41,32]⟩++⟨#[45,91,32,84,32,93,45,62]⟩++⟨#[32,40,32,99,32,41]⟩):=by show _=_;unfold fy;rw[if_pos hk]
 have HK:=hid hk
 have HC:=hid hc
 have HW:=hid hw
 have HT:=hid ht
 have hpn:=ma (c:=w) (n:=3) (by omega)
 clear hk ht
 obtain⟨c0,c1⟩:=hc
 obtain⟨w0,w1⟩:=hw
 obtain⟨d,hd⟩:∃d,pk (c.tdiv 6) 1099511627776=d:=⟨_,rfl⟩
 have HD:=hid hd
 have hkd:cM c=d:=hd
 try rw[hkd] at HA0
 rw[hd] at h0 h1
 clear hd hkd
 have hs1:=Pure.zt d
 have hs2:=Pure.zt (d / 3)
 have hs3:=Pure.bo (d / 3)
 have hs4:=Pure.ad (w.tdiv 3)
 have hp0:=ma (c:=d / 3) (n:=3) (by omega)
 have hp1:=zb (c:=d / 3) (n:=3) (by omega)
 go_enter Tryz.func35,Tryz.ntmps35
 go_wp2_with fail
 refine(vI (c:=c.tdiv 6) (Ex HC.out (by omega)) (by omega) (by omega)).mono ?_
 rw[HD.out]
 rintro e w1 ⟨rfl,hw1⟩
 obtain rfl:=hw1.symm
 go_wp2_with fail
 refine(BH (c:=d) ⟨by omega,by omega⟩).mono ?_
 rintro e W1 ⟨rfl,hb1⟩
 have HB1:=hid hb1
 clear hb1
 go_wp2_with fail
 refine(vI HC.out (by omega) (by omega)).mono ?_
 rw[HK.out]
 rintro e w1 ⟨rfl,hw1⟩
 obtain rfl:=hw1.symm
 go_wp2_with fail
 refine(vI HW.out (by omega) (by omega)).mono ?_
 rintro e w1 ⟨rfl,hw1⟩
 obtain rfl:=hw1.symm
 go_wp2_with fail
 refine(gp (c:=w.tdiv 3) (Ex HW.out (by omega)) (HT.out.below HB1.out)).mono ?_
 rintro e W3 ⟨rfl,hb3⟩
 have HB3:=hid (HB1.out.trans (hb3.mono HB1.out.size))
 clear hb3
 go_wp2_with fail
 go_ret
 exact⟨by rw[HE0.out,HA0.out];rfl,HB3.out⟩
theorem A4 {W:World} {c w:Int} (hc:ux c) (hw:ux w) (ht:BG W) (hk:pk c 6=1) (hp:¬0<pk w 3):
  Calls Tryz.prog 35 #[.int .i64 c,.int .i64 w] W fun e W'=>e=.returned (.string (a8 c w))∧Below W.heap.size W W':=by
 have h0:=ma (c:=c.tdiv 6) (n:=1099511627776) (by omega)
 have h1:=zb (c:=c.tdiv 6) (n:=1099511627776) (by omega)
 have HE0:=hid (Pure.ck (c:=c) hp)
 have HA0:Hid (fy c=(⟨#[40,32,97,32,58,32]⟩++D6 (cM c)++⟨#[32,41]⟩)++⟨#[32,45,91,32,84,32,42,32]⟩++dB (pk (cM c / 3) 3)++⟨#[32,46,46,32,50,32,93,45,62,32,40,32,98,32,41,32,44,32,40,32,99,32,41]⟩):=by show _=_;unfold fy;rw[if_neg (by omega)];rw[if_pos hk]
 have HK:=hid hk
 have HC:=hid hc
 have HW:=hid hw
 have HT:=hid ht
 have hpn:=ma (c:=w) (n:=3) (by omega)
 clear hk ht
 obtain⟨c0,c1⟩:=hc
 obtain⟨w0,w1⟩:=hw
 obtain⟨d,hd⟩:∃d,pk (c.tdiv 6) 1099511627776=d:=⟨_,rfl⟩
 have HD:=hid hd
 have hkd:cM c=d:=hd
 try rw[hkd] at HA0
 rw[hd] at h0 h1
 clear hd hkd
 have hs1:=Pure.zt d
 have hs2:=Pure.zt (d / 3)
 have hs3:=Pure.bo (d / 3)
 have hs4:=Pure.ad (w.tdiv 3)
 have hp0:=ma (c:=d / 3) (n:=3) (by omega)
 have hp1:=zb (c:=d / 3) (n:=3) (by omega)
 go_enter Tryz.func35,Tryz.ntmps35
 go_wp2_with fail
 refine(vI (c:=c.tdiv 6) (Ex HC.out (by omega)) (by omega) (by omega)).mono ?_
 rw[HD.out]
 rintro e w1 ⟨rfl,hw1⟩
 obtain rfl:=hw1.symm
 go_wp2_with fail
 refine(BH (c:=d) ⟨by omega,by omega⟩).mono ?_
 rintro e W1 ⟨rfl,hb1⟩
 have HB1:=hid hb1
 clear hb1
 go_wp2_with fail
 refine(vI HC.out (by omega) (by omega)).mono ?_
 rw[HK.out]
 rintro e w1 ⟨rfl,hw1⟩
 obtain rfl:=hw1.symm
 go_wp2_with fail
 refine(vI (c:=d / 3) ⟨by omega,by omega⟩ (by omega) (by omega)).mono ?_
 rintro e w1 ⟨rfl,hw1⟩
 obtain rfl:=hw1.symm
 go_wp2_with fail
 refine(FP (n:=pk (d / 3) 3) ⟨by omega,by omega⟩ (HT.out.below HB1.out)).mono ?_
 rintro e W2 ⟨rfl,hb2⟩
 have HB2:=hid (HB1.out.trans (hb2.mono HB1.out.size))
 clear hb2
 go_wp2_with fail
 refine(vI HW.out (by omega) (by omega)).mono ?_
 rintro e w1 ⟨rfl,hw1⟩
 obtain rfl:=hw1.symm
 go_wp2_with fail
 go_ret
 exact⟨by rw[HE0.out,HA0.out];rfl,HB2.out⟩
theorem A5 {W:World} {c w:Int} (hc:ux c) (hw:ux w) (ht:BG W) (hk:pk c 6=1) (hp:0<pk w 3):
  Calls Tryz.prog 35 #[.int .i64 c,.int .i64 w] W fun e W'=>e=.returned (.string (a8 c w))∧Below W.heap.size W W':=by
 have h0:=ma (c:=c.tdiv 6) (n:=1099511627776) (by omega)
 have h1:=zb (c:=c.tdiv 6) (n:=1099511627776) (by omega)
 have HE0:=hid (Pure.b8 (c:=c) hp)
 have HA0:Hid (fy c=(⟨#[40,32,97,32,58,32]⟩++D6 (cM c)++⟨#[32,41]⟩)++⟨#[32,45,91,32,84,32,42,32]⟩++dB (pk (cM c / 3) 3)++⟨#[32,46,46,32,50,32,93,45,62,32,40,32,98,32,41,32,44,32,40,32,99,32,41]⟩):=by show _=_;unfold fy;rw[if_neg (by omega)];rw[if_pos hk]
 have HK:=hid hk
 have HC:=hid hc
 have HW:=hid hw
 have HT:=hid ht
 have hpn:=ma (c:=w) (n:=3) (by omega)
 clear hk ht
 obtain⟨c0,c1⟩:=hc
 obtain⟨w0,w1⟩:=hw
 obtain⟨d,hd⟩:∃d,pk (c.tdiv 6) 1099511627776=d:=⟨_,rfl⟩
 have HD:=hid hd
 have hkd:cM c=d:=hd
 try rw[hkd] at HA0
 rw[hd] at h0 h1
 clear hd hkd
 have hs1:=Pure.zt d
 have hs2:=Pure.zt (d / 3)
 have hs3:=Pure.bo (d / 3)
 have hs4:=Pure.ad (w.tdiv 3)
 have hp0:=ma (c:=d / 3) (n:=3) (by omega)
 have hp1:=zb (c:=d / 3) (n:=3) (by omega)
 go_enter Tryz.func35,Tryz.ntmps35
 go_wp2_with fail
 refine(vI (c:=c.tdiv 6) (Ex HC.out (by omega)) (by omega) (by omega)).mono ?_
 rw[HD.out]
 rintro e w1 ⟨rfl,hw1⟩
 obtain rfl:=hw1.symm
 go_wp2_with fail
 refine(BH (c:=d) ⟨by omega,by omega⟩).mono ?_
 rintro e W1 ⟨rfl,hb1⟩
 have HB1:=hid hb1
 clear hb1
 go_wp2_with fail
 refine(vI HC.out (by omega) (by omega)).mono ?_
 rw[HK.out]
 rintro e w1 ⟨rfl,hw1⟩
 obtain rfl:=hw1.symm
 go_wp2_with fail
 refine(vI (c:=d / 3) ⟨by omega,by omega⟩ (by omega) (by omega)).mono ?_
 rintro e w1 ⟨rfl,hw1⟩
 obtain rfl:=hw1.symm
 go_wp2_with fail
 refine(FP (n:=pk (d / 3) 3) ⟨by omega,by omega⟩ (HT.out.below HB1.out)).mono ?_
 rintro e W2 ⟨rfl,hb2⟩
 have HB2:=hid (HB1.out.trans (hb2.mono HB1.out.size))
 clear hb2
 go_wp2_with fail
 refine(vI HW.out (by omega) (by omega)).mono ?_
 rintro e w1 ⟨rfl,hw1⟩
 obtain rfl:=hw1.symm
 go_wp2_with fail
 refine(gp (c:=w.tdiv 3) (Ex HW.out (by omega)) (HT.out.below HB2.out)).mono ?_
 rintro e W3 ⟨rfl,hb3⟩
 have HB3:=hid (HB2.out.trans (hb3.mono HB2.out.size))
 clear hb3
 go_wp2_with fail
 go_ret
 exact⟨by rw[HE0.out,HA0.out];rfl,HB3.out⟩
theorem An {W:World} {c w:Int} (hc:ux c) (hw:ux w) (ht:BG W) (hk:pk c 6=2) (hp:¬0<pk w 3):
  Calls Tryz.prog 35 #[.int .i64 c,.int .i64 w] W fun e W'=>e=.returned (.string (a8 c w))∧Below W.heap.size W W':=by
 have h0:=ma (c:=c.tdiv 6) (n:=1099511627776) (by omega)
 have h1:=zb (c:=c.tdiv 6) (n:=1099511627776) (by omega)
 have HE0:=hid (Pure.ck (c:=c) hp)
 have HA0:Hid (fy c=(⟨#[40,32,97,32,58,32]⟩++D6 (cM c)++⟨#[32,41]⟩)++⟨#[32,44,32,40,32,98,32,41,32]⟩++⟨#[45,91,32,84,32,93,45,62]⟩++⟨#[32,40,32,99,32,41]⟩):=by show _=_;unfold fy;rw[if_neg (by omega)];rw[if_neg (by omega)];rw[if_pos hk]
 have HK:=hid hk
 have HC:=hid hc
 have HW:=hid hw
 have HT:=hid ht
 have hpn:=ma (c:=w) (n:=3) (by omega)
 clear hk ht
 obtain⟨c0,c1⟩:=hc
 obtain⟨w0,w1⟩:=hw
 obtain⟨d,hd⟩:∃d,pk (c.tdiv 6) 1099511627776=d:=⟨_,rfl⟩
 have HD:=hid hd
 have hkd:cM c=d:=hd
 try rw[hkd] at HA0
 rw[hd] at h0 h1
 clear hd hkd
 have hs1:=Pure.zt d
 have hs2:=Pure.zt (d / 3)
 have hs3:=Pure.bo (d / 3)
 have hs4:=Pure.ad (w.tdiv 3)
 have hp0:=ma (c:=d / 3) (n:=3) (by omega)
 have hp1:=zb (c:=d / 3) (n:=3) (by omega)
 go_enter Tryz.func35,Tryz.ntmps35
 go_wp2_with fail
 refine(vI (c:=c.tdiv 6) (Ex HC.out (by omega)) (by omega) (by omega)).mono ?_
 rw[HD.out]
 rintro e w1 ⟨rfl,hw1⟩
 obtain rfl:=hw1.symm
 go_wp2_with fail
 refine(BH (c:=d) ⟨by omega,by omega⟩).mono ?_
 rintro e W1 ⟨rfl,hb1⟩
 have HB1:=hid hb1
 clear hb1
 go_wp2_with fail
 refine(vI HC.out (by omega) (by omega)).mono ?_
 rw[HK.out]
 rintro e w1 ⟨rfl,hw1⟩
 obtain rfl:=hw1.symm
 go_wp2_with fail
 refine(vI HW.out (by omega) (by omega)).mono ?_
 rintro e w1 ⟨rfl,hw1⟩
 obtain rfl:=hw1.symm
 go_wp2_with fail
 go_ret
 exact⟨by rw[HE0.out,HA0.out];rfl,HB1.out⟩
theorem x9 {W:World} {c w:Int} (hc:ux c) (hw:ux w) (ht:BG W) (hk:pk c 6=2) (hp:0<pk w 3):
  Calls Tryz.prog 35 #[.int .i64 c,.int .i64 w] W fun e W'=>e=.returned (.string (a8 c w))∧Below W.heap.size W W':=by
 have h0:=ma (c:=c.tdiv 6) (n:=1099511627776) (by omega)
 have h1:=zb (c:=c.tdiv 6) (n:=1099511627776) (by omega)
 have HE0:=hid (Pure.b8 (c:=c) hp)
 have HA0:Hid (fy c=(⟨#[40,32,97,32,58,32]⟩++D6 (cM c)++⟨#[32,41]⟩)++⟨#[32,44,32,40,32,98,32,41,32]⟩++⟨#[45,91,32,84,32,93,45,62]⟩++⟨#[32,40,32,99,32,41]⟩):=by show _=_;unfold fy;rw[if_neg (by omega)];rw[if_neg (by omega)];rw[if_pos hk]
 have HK:=hid hk
 have HC:=hid hc
 have HW:=hid hw
 have HT:=hid ht
 have hpn:=ma (c:=w) (n:=3) (by omega)
 clear hk ht
 obtain⟨c0,c1⟩:=hc
 obtain⟨w0,w1⟩:=hw
 obtain⟨d,hd⟩:∃d,pk (c.tdiv 6) 1099511627776=d:=⟨_,rfl⟩
 have HD:=hid hd
 have hkd:cM c=d:=hd
 try rw[hkd] at HA0
 rw[hd] at h0 h1
 clear hd hkd
 have hs1:=Pure.zt d
 have hs2:=Pure.zt (d / 3)
 have hs3:=Pure.bo (d / 3)
 have hs4:=Pure.ad (w.tdiv 3)
 have hp0:=ma (c:=d / 3) (n:=3) (by omega)
 have hp1:=zb (c:=d / 3) (n:=3) (by omega)
 go_enter Tryz.func35,Tryz.ntmps35
 go_wp2_with fail
 refine(vI (c:=c.tdiv 6) (Ex HC.out (by omega)) (by omega) (by omega)).mono ?_
 rw[HD.out]
 rintro e w1 ⟨rfl,hw1⟩
 obtain rfl:=hw1.symm
 go_wp2_with fail
 refine(BH (c:=d) ⟨by omega,by omega⟩).mono ?_
 rintro e W1 ⟨rfl,hb1⟩
 have HB1:=hid hb1
 clear hb1
 go_wp2_with fail
 refine(vI HC.out (by omega) (by omega)).mono ?_
 rw[HK.out]
 rintro e w1 ⟨rfl,hw1⟩
 obtain rfl:=hw1.symm
 go_wp2_with fail
 refine(vI HW.out (by omega) (by omega)).mono ?_
 rintro e w1 ⟨rfl,hw1⟩
 obtain rfl:=hw1.symm
 go_wp2_with fail
 refine(gp (c:=w.tdiv 3) (Ex HW.out (by omega)) (HT.out.below HB1.out)).mono ?_
 rintro e W3 ⟨rfl,hb3⟩
 have HB3:=hid (HB1.out.trans (hb3.mono HB1.out.size))
 clear hb3
 go_wp2_with fail
 go_ret
 exact⟨by rw[HE0.out,HA0.out];rfl,HB3.out⟩
theorem Lw {W:World} {c w:Int} (hc:ux c) (hw:ux w) (ht:BG W) (hk:pk c 6=3) (hp:¬0<pk w 3):
  Calls Tryz.prog 35 #[.int .i64 c,.int .i64 w] W fun e W'=>e=.returned (.string (a8 c w))∧Below W.heap.size W W':=by
 have h0:=ma (c:=c.tdiv 6) (n:=1099511627776) (by omega)
 have h1:=zb (c:=c.tdiv 6) (n:=1099511627776) (by omega)
 have HE0:=hid (Pure.ck (c:=c) hp)
 have HA0:Hid (fy c=⟨#[40,32,97,32,41,32,45,91,32,85,32,42,32,48,32,46,46,32,49,32,93,45,62,32,40,32,98,32,41,32,44,32,40,32,98,32,41,32]⟩++⟨#[45,91,32,84,32,93,45,62]⟩++⟨#[32,40,32,99,32,41]⟩):=by show _=_;unfold fy;rw[if_neg (by omega)];rw[if_neg (by omega)];rw[if_neg (by omega)];rw[if_pos hk]
 have HK:=hid hk
 have HC:=hid hc
 have HW:=hid hw
 have HT:=hid ht
 have hpn:=ma (c:=w) (n:=3) (by omega)
 clear hk ht
 obtain⟨c0,c1⟩:=hc
 obtain⟨w0,w1⟩:=hw
 obtain⟨d,hd⟩:∃d,pk (c.tdiv 6) 1099511627776=d:=⟨_,rfl⟩
 have HD:=hid hd
 have hkd:cM c=d:=hd
 try rw[hkd] at HA0
 rw[hd] at h0 h1
 clear hd hkd
 have hs1:=Pure.zt d
 have hs2:=Pure.zt (d / 3)
 have hs3:=Pure.bo (d / 3)
 have hs4:=Pure.ad (w.tdiv 3)
 have hp0:=ma (c:=d / 3) (n:=3) (by omega)
 have hp1:=zb (c:=d / 3) (n:=3) (by omega)
 go_enter Tryz.func35,Tryz.ntmps35
 go_wp2_with fail
 refine(vI (c:=c.tdiv 6) (Ex HC.out (by omega)) (by omega) (by omega)).mono ?_
 rw[HD.out]
 rintro e w1 ⟨rfl,hw1⟩
 obtain rfl:=hw1.symm
 go_wp2_with fail
 refine(BH (c:=d) ⟨by omega,by omega⟩).mono ?_
 rintro e W1 ⟨rfl,hb1⟩
 have HB1:=hid hb1
 clear hb1
 go_wp2_with fail
 refine(vI HC.out (by omega) (by omega)).mono ?_
 rw[HK.out]
 rintro e w1 ⟨rfl,hw1⟩
 obtain rfl:=hw1.symm
 go_wp2_with fail
 refine(vI HW.out (by omega) (by omega)).mono ?_
 rintro e w1 ⟨rfl,hw1⟩
 obtain rfl:=hw1.symm
 go_wp2_with fail
 go_ret
 exact⟨by rw[HE0.out,HA0.out];rfl,HB1.out⟩
theorem F0 {W:World} {c w:Int} (hc:ux c) (hw:ux w) (ht:BG W) (hk:pk c 6=3) (hp:0<pk w 3):
  Calls Tryz.prog 35 #[.int .i64 c,.int .i64 w] W fun e W'=>e=.returned (.string (a8 c w))∧Below W.heap.size W W':=by
 have h0:=ma (c:=c.tdiv 6) (n:=1099511627776) (by omega)
 have h1:=zb (c:=c.tdiv 6) (n:=1099511627776) (by omega)
 have HE0:=hid (Pure.b8 (c:=c) hp)
 have HA0:Hid (fy c=⟨#[40,32,97,32,41,32,45,91,32,85,32,42,32,48,32,46,46,32,49,32,93,45,62,32,40,32,98,32,41,32,44,32,40,32,98,32,41,32]⟩++⟨#[45,91,32,84,32,93,45,62]⟩++⟨#[32,40,32,99,32,41]⟩):=by show _=_;unfold fy;rw[if_neg (by omega)];rw[if_neg (by omega)];rw[if_neg (by omega)];rw[if_pos hk]
 have HK:=hid hk
 have HC:=hid hc
 have HW:=hid hw
 have HT:=hid ht
 have hpn:=ma (c:=w) (n:=3) (by omega)
 clear hk ht
 obtain⟨c0,c1⟩:=hc
 obtain⟨w0,w1⟩:=hw
 obtain⟨d,hd⟩:∃d,pk (c.tdiv 6) 1099511627776=d:=⟨_,rfl⟩
 have HD:=hid hd
 have hkd:cM c=d:=hd
 try rw[hkd] at HA0
 rw[hd] at h0 h1
 clear hd hkd
 have hs1:=Pure.zt d
 have hs2:=Pure.zt (d / 3)
 have hs3:=Pure.bo (d / 3)
 have hs4:=Pure.ad (w.tdiv 3)
 have hp0:=ma (c:=d / 3) (n:=3) (by omega)
 have hp1:=zb (c:=d / 3) (n:=3) (by omega)
 go_enter Tryz.func35,Tryz.ntmps35
 go_wp2_with fail
 refine(vI (c:=c.tdiv 6) (Ex HC.out (by omega)) (by omega) (by omega)).mono ?_
 rw[HD.out]
 rintro e w1 ⟨rfl,hw1⟩
 obtain rfl:=hw1.symm
 go_wp2_with fail
 refine(BH (c:=d) ⟨by omega,by omega⟩).mono ?_
 rintro e W1 ⟨rfl,hb1⟩
 have HB1:=hid hb1
 clear hb1
 go_wp2_with fail
 refine(vI HC.out (by omega) (by omega)).mono ?_
 rw[HK.out]
 rintro e w1 ⟨rfl,hw1⟩
 obtain rfl:=hw1.symm
 go_wp2_with fail
 refine(vI HW.out (by omega) (by omega)).mono ?_
 rintro e w1 ⟨rfl,hw1⟩
 obtain rfl:=hw1.symm
 go_wp2_with fail
 refine(gp (c:=w.tdiv 3) (Ex HW.out (by omega)) (HT.out.below HB1.out)).mono ?_
 rintro e W3 ⟨rfl,hb3⟩
 have HB3:=hid (HB1.out.trans (hb3.mono HB1.out.size))
 clear hb3
 go_wp2_with fail
 go_ret
 exact⟨by rw[HE0.out,HA0.out];rfl,HB3.out⟩
theorem LB {W:World} {c w:Int} (hc:ux c) (hw:ux w) (ht:BG W) (hk:pk c 6=4) (hp:¬0<pk w 3):
  Calls Tryz.prog 35 #[.int .i64 c,.int .i64 w] W fun e W'=>e=.returned (.string (a8 c w))∧Below W.heap.size W W':=by
 have h0:=ma (c:=c.tdiv 6) (n:=1099511627776) (by omega)
 have h1:=zb (c:=c.tdiv 6) (n:=1099511627776) (by omega)
 have HE0:=hid (Pure.ck (c:=c) hp)
 have HA0:Hid (fy c=⟨#[40,32,97,32,41,32]⟩++⟨#[45,91,32,84,32,93,45,62]⟩++⟨#[32,40,32,98,32,41,32,44,32,40,32,97,32,41,32]⟩++⟨#[45,91,32,84,32,93,45,62]⟩++⟨#[32,40,32,99,32,58,32]⟩++D6 (cM c)++⟨#[32,41]⟩):=by show _=_;unfold fy;rw[if_neg (by omega)];rw[if_neg (by omega)];rw[if_neg (by omega)];rw[if_neg (by omega)];rw[if_pos hk]
 have HK:=hid hk
 have HC:=hid hc
 have HW:=hid hw
 have HT:=hid ht
 have hpn:=ma (c:=w) (n:=3) (by omega)
 clear hk ht
 obtain⟨c0,c1⟩:=hc
 obtain⟨w0,w1⟩:=hw
 obtain⟨d,hd⟩:∃d,pk (c.tdiv 6) 1099511627776=d:=⟨_,rfl⟩
 have HD:=hid hd
 have hkd:cM c=d:=hd
 try rw[hkd] at HA0
 rw[hd] at h0 h1
 clear hd hkd
 have hs1:=Pure.zt d
 have hs2:=Pure.zt (d / 3)
 have hs3:=Pure.bo (d / 3)
 have hs4:=Pure.ad (w.tdiv 3)
 have hp0:=ma (c:=d / 3) (n:=3) (by omega)
 have hp1:=zb (c:=d / 3) (n:=3) (by omega)
 go_enter Tryz.func35,Tryz.ntmps35
 go_wp2_with fail
 refine(vI (c:=c.tdiv 6) (Ex HC.out (by omega)) (by omega) (by omega)).mono ?_
 rw[HD.out]
 rintro e w1 ⟨rfl,hw1⟩
 obtain rfl:=hw1.symm
 go_wp2_with fail
 refine(BH (c:=d) ⟨by omega,by omega⟩).mono ?_
 rintro e W1 ⟨rfl,hb1⟩
 have HB1:=hid hb1
 clear hb1
 go_wp2_with fail
 refine(vI HC.out (by omega) (by omega)).mono ?_
 rw[HK.out]
 rintro e w1 ⟨rfl,hw1⟩
 obtain rfl:=hw1.symm
 go_wp2_with fail
 refine(BH (c:=d) ⟨by omega,by omega⟩).mono ?_
 rintro e W2 ⟨rfl,hb2⟩
 have HB2:=hid (HB1.out.trans (hb2.mono HB1.out.size))
 clear hb2
 go_wp2_with fail
 refine(vI HW.out (by omega) (by omega)).mono ?_
 rintro e w1 ⟨rfl,hw1⟩
 obtain rfl:=hw1.symm
 go_wp2_with fail
 go_ret
 exact⟨by rw[HE0.out,HA0.out];rfl,HB2.out⟩
theorem F6 {W:World} {c w:Int} (hc:ux c) (hw:ux w) (ht:BG W) (hk:pk c 6=4) (hp:0<pk w 3):
  Calls Tryz.prog 35 #[.int .i64 c,.int .i64 w] W fun e W'=>e=.returned (.string (a8 c w))∧Below W.heap.size W W':=by
 have h0:=ma (c:=c.tdiv 6) (n:=1099511627776) (by omega)
 have h1:=zb (c:=c.tdiv 6) (n:=1099511627776) (by omega)
 have HE0:=hid (Pure.b8 (c:=c) hp)
 have HA0:Hid (fy c=⟨#[40,32,97,32,41,32]⟩++⟨#[45,91,32,84,32,93,45,62]⟩++⟨#[32,40,32,98,32,41,32,44,32,40,32,97,32,41,32]⟩++⟨#[45,91,32,84,32,93,45,62]⟩++⟨#[32,40,32,99,32,58,32]⟩++D6 (cM c)++⟨#[32,41]⟩):=by show _=_;unfold fy;rw[if_neg (by omega)];rw[if_neg (by omega)];rw[if_neg (by omega)];rw[if_neg (by omega)];rw[if_pos hk]
 have HK:=hid hk
 have HC:=hid hc
 have HW:=hid hw
 have HT:=hid ht
 have hpn:=ma (c:=w) (n:=3) (by omega)
 clear hk ht
 obtain⟨c0,c1⟩:=hc
 obtain⟨w0,w1⟩:=hw
 obtain⟨d,hd⟩:∃d,pk (c.tdiv 6) 1099511627776=d:=⟨_,rfl⟩
 have HD:=hid hd
 have hkd:cM c=d:=hd
 try rw[hkd] at HA0
 rw[hd] at h0 h1
 clear hd hkd
 have hs1:=Pure.zt d
 have hs2:=Pure.zt (d / 3)
 have hs3:=Pure.bo (d / 3)
 have hs4:=Pure.ad (w.tdiv 3)
 have hp0:=ma (c:=d / 3) (n:=3) (by omega)
 have hp1:=zb (c:=d / 3) (n:=3) (by omega)
 go_enter Tryz.func35,Tryz.ntmps35
 go_wp2_with fail
 refine(vI (c:=c.tdiv 6) (Ex HC.out (by omega)) (by omega) (by omega)).mono ?_
 rw[HD.out]
 rintro e w1 ⟨rfl,hw1⟩
 obtain rfl:=hw1.symm
 go_wp2_with fail
 refine(BH (c:=d) ⟨by omega,by omega⟩).mono ?_
 rintro e W1 ⟨rfl,hb1⟩
 have HB1:=hid hb1
 clear hb1
 go_wp2_with fail
 refine(vI HC.out (by omega) (by omega)).mono ?_
 rw[HK.out]
 rintro e w1 ⟨rfl,hw1⟩
 obtain rfl:=hw1.symm
 go_wp2_with fail
 refine(BH (c:=d) ⟨by omega,by omega⟩).mono ?_
 rintro e W2 ⟨rfl,hb2⟩
 have HB2:=hid (HB1.out.trans (hb2.mono HB1.out.size))
 clear hb2
 go_wp2_with fail
 refine(vI HW.out (by omega) (by omega)).mono ?_
 rintro e w1 ⟨rfl,hw1⟩
 obtain rfl:=hw1.symm
 go_wp2_with fail
 refine(gp (c:=w.tdiv 3) (Ex HW.out (by omega)) (HT.out.below HB2.out)).mono ?_
 rintro e W3 ⟨rfl,hb3⟩
 have HB3:=hid (HB2.out.trans (hb3.mono HB2.out.size))
 clear hb3
 go_wp2_with fail
 go_ret
 exact⟨by rw[HE0.out,HA0.out];rfl,HB3.out⟩
theorem Lv {W:World} {c w:Int} (hc:ux c) (hw:ux w) (ht:BG W) (hk:pk c 6=5) (hp:¬0<pk w 3):
  Calls Tryz.prog 35 #[.int .i64 c,.int .i64 w] W fun e W'=>e=.returned (.string (a8 c w))∧Below W.heap.size W W':=by
 have h0:=ma (c:=c.tdiv 6) (n:=1099511627776) (by omega)
 have h1:=zb (c:=c.tdiv 6) (n:=1099511627776) (by omega)
 have HE0:=hid (Pure.ck (c:=c) hp)
 have HA0:Hid (fy c=(⟨#[40,32,97,32,58,32]⟩++D6 (cM c)++⟨#[32,41]⟩)++⟨#[32,44,32,40,32,98,32,58,32]⟩++D6 (cM c / 3)++⟨#[32,41,32,44,32,40,32,99,32,58,32,65,32,41]⟩):=by show _=_;unfold fy;rw[if_neg (by omega)];rw[if_neg (by omega)];rw[if_neg (by omega)];rw[if_neg (by omega)];rw[if_neg (by omega)]
 have HK:=hid hk
 have HC:=hid hc
 have HW:=hid hw
 have HT:=hid ht
 have hpn:=ma (c:=w) (n:=3) (by omega)
 clear hk ht
 obtain⟨c0,c1⟩:=hc
 obtain⟨w0,w1⟩:=hw
 obtain⟨d,hd⟩:∃d,pk (c.tdiv 6) 1099511627776=d:=⟨_,rfl⟩
 have HD:=hid hd
 have hkd:cM c=d:=hd
 try rw[hkd] at HA0
 rw[hd] at h0 h1
 clear hd hkd
 have hs1:=Pure.zt d
 have hs2:=Pure.zt (d / 3)
 have hs3:=Pure.bo (d / 3)
 have hs4:=Pure.ad (w.tdiv 3)
 have hp0:=ma (c:=d / 3) (n:=3) (by omega)
 have hp1:=zb (c:=d / 3) (n:=3) (by omega)
 go_enter Tryz.func35,Tryz.ntmps35
 go_wp2_with fail
 refine(vI (c:=c.tdiv 6) (Ex HC.out (by omega)) (by omega) (by omega)).mono ?_
 rw[HD.out]
 rintro e w1 ⟨rfl,hw1⟩
 obtain rfl:=hw1.symm
 go_wp2_with fail
 refine(BH (c:=d) ⟨by omega,by omega⟩).mono ?_
 rintro e W1 ⟨rfl,hb1⟩
 have HB1:=hid hb1
 clear hb1
 go_wp2_with fail
 refine(vI HC.out (by omega) (by omega)).mono ?_
 rw[HK.out]
 rintro e w1 ⟨rfl,hw1⟩
 obtain rfl:=hw1.symm
 go_wp2_with fail
 refine(BH (c:=d / 3) ⟨by omega,by omega⟩).mono ?_
 rintro e W2 ⟨rfl,hb2⟩
 have HB2:=hid (HB1.out.trans (hb2.mono HB1.out.size))
 clear hb2
 go_wp2_with fail
 refine(vI HW.out (by omega) (by omega)).mono ?_
 rintro e w1 ⟨rfl,hw1⟩
 obtain rfl:=hw1.symm
 go_wp2_with fail
 go_ret
 exact⟨by rw[HE0.out,HA0.out];rfl,HB2.out⟩
theorem zp {W:World} {c w:Int} (hc:ux c) (hw:ux w) (ht:BG W) (hk:pk c 6=5) (hp:0<pk w 3):
  Calls Tryz.prog 35 #[.int .i64 c,.int .i64 w] W fun e W'=>e=.returned (.string (a8 c w))∧Below W.heap.size W W':=by
 have h0:=ma (c:=c.tdiv 6) (n:=1099511627776) (by omega)
 have h1:=zb (c:=c.tdiv 6) (n:=1099511627776) (by omega)
 have HE0:=hid (Pure.b8 (c:=c) hp)
 have HA0:Hid (fy c=(⟨#[40,32,97,32,58,32]⟩++D6 (cM c)++⟨#[32,41]⟩)++⟨#[32,44,32,40,32,98,32,58,32]⟩++D6 (cM c / 3)++⟨#[32,41,32,44,32,40,32,99,32,58,32,65,32,41]⟩):=by show _=_;unfold fy;rw[if_neg (by omega)];rw[if_neg (by omega)];rw[if_neg (by omega)];rw[if_neg (by omega)];rw[if_neg (by omega)]
 have HK:=hid hk
 have HC:=hid hc
 have HW:=hid hw
 have HT:=hid ht
 have hpn:=ma (c:=w) (n:=3) (by omega)
 clear hk ht
 obtain⟨c0,c1⟩:=hc
 obtain⟨w0,w1⟩:=hw
 obtain⟨d,hd⟩:∃d,pk (c.tdiv 6) 1099511627776=d:=⟨_,rfl⟩
 have HD:=hid hd
 have hkd:cM c=d:=hd
 try rw[hkd] at HA0
 rw[hd] at h0 h1
 clear hd hkd
 have hs1:=Pure.zt d
 have hs2:=Pure.zt (d / 3)
 have hs3:=Pure.bo (d / 3)
 have hs4:=Pure.ad (w.tdiv 3)
 have hp0:=ma (c:=d / 3) (n:=3) (by omega)
 have hp1:=zb (c:=d / 3) (n:=3) (by omega)
 go_enter Tryz.func35,Tryz.ntmps35
 go_wp2_with fail
 refine(vI (c:=c.tdiv 6) (Ex HC.out (by omega)) (by omega) (by omega)).mono ?_
 rw[HD.out]
 rintro e w1 ⟨rfl,hw1⟩
 obtain rfl:=hw1.symm
 go_wp2_with fail
 refine(BH (c:=d) ⟨by omega,by omega⟩).mono ?_
 rintro e W1 ⟨rfl,hb1⟩
 have HB1:=hid hb1
 clear hb1
 go_wp2_with fail
 refine(vI HC.out (by omega) (by omega)).mono ?_
 rw[HK.out]
 rintro e w1 ⟨rfl,hw1⟩
 obtain rfl:=hw1.symm
 go_wp2_with fail
 refine(BH (c:=d / 3) ⟨by omega,by omega⟩).mono ?_
 rintro e W2 ⟨rfl,hb2⟩
 have HB2:=hid (HB1.out.trans (hb2.mono HB1.out.size))
 clear hb2
 go_wp2_with fail
 refine(vI HW.out (by omega) (by omega)).mono ?_
 rintro e w1 ⟨rfl,hw1⟩
 obtain rfl:=hw1.symm
 go_wp2_with fail
 refine(gp (c:=w.tdiv 3) (Ex HW.out (by omega)) (HT.out.below HB2.out)).mono ?_
 rintro e W3 ⟨rfl,hb3⟩
 have HB3:=hid (HB2.out.trans (hb3.mono HB2.out.size))
 clear hb3
 go_wp2_with fail
 go_ret
 exact⟨by rw[HE0.out,HA0.out];rfl,HB3.out⟩
theorem ft {W:World} {c w:Int} (hc:ux c) (hw:ux w) (ht:BG W):
  Calls Tryz.prog 35 #[.int .i64 c,.int .i64 w] W fun e W'=>e=.returned (.string (a8 c w))∧Below W.heap.size W W':=by
 have h0:=ma (c:=c) (n:=6) (by omega)
 have h1:=zb (c:=c) (n:=6) (by omega)
 have h:pk c 6=0∨pk c 6=1∨pk c 6=2∨pk c 6=3∨pk c 6=4∨pk c 6=5:=by omega
 by_cases hp:0<pk w 3
 ·rcases h with h|h|h|h|h|h
  ·exact LA hc hw ht h hp
  ·exact A5 hc hw ht h hp
  ·exact x9 hc hw ht h hp
  ·exact F0 hc hw ht h hp
  ·exact F6 hc hw ht h hp
  ·exact zp hc hw ht h hp
 ·rcases h with h|h|h|h|h|h
  ·exact yi hc hw ht h hp
  ·exact A4 hc hw ht h hp
  ·exact An hc hw ht h hp
  ·exact Lw hc hw ht h hp
  ·exact LB hc hw ht h hp
  ·exact Lv hc hw ht h hp
theorem Mc {W:World} {c w i:Int} (hc:ux c) (hw:ux w) (hi64:ux i) (ht:BG W) (hi:pk i 5=0):
  Calls Tryz.prog 24 #[.int .i64 c,.int .i64 w,.int .i64 i] W fun e W'=>e=.returned (.string (br c w i))∧Below W.heap.size W W':=by
 have HE:Hid (br c w i=a8 c w++⟨#[32,82,69,84,85,82,78,32,97,32,44,32,98,32,44,32,99]⟩):=by show _=_;rw[Pure.fe];congr 1;unfold Mb;rw[if_pos hi]
 have hs5:=Pure.b9 c w
 have HI:=hid hi
 have HC:=hid hc
 have HW:=hid hw
 have HI64:=hid hi64
 have HT:=hid (ht.below (ba W (.cells #[.string ⟨#[32,82,69,84,85,82,78,32,97,32,44,32,98,32,44,32,99]⟩,.string ⟨#[32,82,69,84,85,82,78,32,97,32,46,32,107,32,44,32,67,79,85,78,84]⟩,.string ⟨#[32,82,69,84,85,82,78,32,97,32,46,32,107,32,44,32,98,32,46,32,107,32,44,32,99,32,46,32,106,32,79,82,68,69,82,32,66,89,32,50,32,68,69,83,67]⟩,.string ⟨#[32,82,69,84,85,82,78,32,67,79,85,78,84]⟩,.string ⟨#[32,82,69,84,85,82,78,32,99,32,46,32,107,32,44,32,97,32,79,82,68,69,82,32,66,89,32,49,32,83,75,73,80,32,49,32,76,73,77,73,84,32,51]⟩] 9)))
 have HB:=hid (ba W (.cells #[.string ⟨#[32,82,69,84,85,82,78,32,97,32,44,32,98,32,44,32,99]⟩,.string ⟨#[32,82,69,84,85,82,78,32,97,32,46,32,107,32,44,32,67,79,85,78,84]⟩,.string ⟨#[32,82,69,84,85,82,78,32,97,32,46,32,107,32,44,32,98,32,46,32,107,32,44,32,99,32,46,32,106,32,79,82,68,69,82,32,66,89,32,50,32,68,69,83,67]⟩,.string ⟨#[32,82,69,84,85,82,78,32,67,79,85,78,84]⟩,.string ⟨#[32,82,69,84,85,82,78,32,99,32,46,32,107,32,44,32,97,32,79,82,68,69,82,32,66,89,32,49,32,83,75,73,80,32,49,32,76,73,77,73,84,32,51]⟩] 9))
 have HL:=hid (Loc.new W #[.string ⟨#[32,82,69,84,85,82,78,32,97,32,44,32,98,32,44,32,99]⟩,.string ⟨#[32,82,69,84,85,82,78,32,97,32,46,32,107,32,44,32,67,79,85,78,84]⟩,.string ⟨#[32,82,69,84,85,82,78,32,97,32,46,32,107,32,44,32,98,32,46,32,107,32,44,32,99,32,46,32,106,32,79,82,68,69,82,32,66,89,32,50,32,68,69,83,67]⟩,.string ⟨#[32,82,69,84,85,82,78,32,67,79,85,78,84]⟩,.string ⟨#[32,82,69,84,85,82,78,32,99,32,46,32,107,32,44,32,97,32,79,82,68,69,82,32,66,89,32,49,32,83,75,73,80,32,49,32,76,73,77,73,84,32,51]⟩] 9)
 clear hi ht hc hw hi64
 go_enter Tryz.func24,Tryz.ntmps24
 go_upto_region 2 with fail
 obtain⟨X,hX⟩:∃X,X=W.heap.size:=⟨_,rfl⟩
 rw[←hX] at HL⊢
 clear hX
 generalize W.alloc (.cells #[.string ⟨#[32,82,69,84,85,82,78,32,97,32,44,32,98,32,44,32,99]⟩,.string ⟨#[32,82,69,84,85,82,78,32,97,32,46,32,107,32,44,32,67,79,85,78,84]⟩,.string ⟨#[32,82,69,84,85,82,78,32,97,32,46,32,107,32,44,32,98,32,46,32,107,32,44,32,99,32,46,32,106,32,79,82,68,69,82,32,66,89,32,50,32,68,69,83,67]⟩,.string ⟨#[32,82,69,84,85,82,78,32,67,79,85,78,84]⟩,.string ⟨#[32,82,69,84,85,82,78,32,99,32,46,32,107,32,44,32,97,32,79,82,68,69,82,32,66,89,32,49,32,83,75,73,80,32,49,32,76,73,77,73,84,32,51]⟩] 9)=W1 at HL HB HT⊢
 go_wp2_with fail
 refine(ft HC.out HW.out HT.out).mono ?_
 rintro e W2 ⟨rfl,hb2⟩
 have HB2:=hid (HB.out.trans (hb2.mono HB.out.size))
 have hL2:=HL.out.grown (af hb2 none) (by simp)
 have x:=hL2.at_ 0 (.string ⟨#[32,82,69,84,85,82,78,32,97,32,44,32,98,32,44,32,99]⟩) rfl
 clear hb2 hL2
 go_wp2_with fail
 refine(vI HI64.out (by omega) (by omega)).mono ?_
 rw[HI.out]
 rintro e w1 ⟨rfl,hw1⟩
 obtain rfl:=hw1.symm
 go_wp2_with fail
 go_ret
 exact⟨by rw[HE.out];rfl,HB2.out⟩
theorem Md {W:World} {c w i:Int} (hc:ux c) (hw:ux w) (hi64:ux i) (ht:BG W) (hi:pk i 5=1):
  Calls Tryz.prog 24 #[.int .i64 c,.int .i64 w,.int .i64 i] W fun e W'=>e=.returned (.string (br c w i))∧Below W.heap.size W W':=by
 have HE:Hid (br c w i=a8 c w++⟨#[32,82,69,84,85,82,78,32,97,32,46,32,107,32,44,32,67,79,85,78,84]⟩):=by show _=_;rw[Pure.fe];congr 1;unfold Mb;rw[if_neg (by omega)];rw[if_pos hi]
 have hs5:=Pure.b9 c w
 have HI:=hid hi
 have HC:=hid hc
 have HW:=hid hw
 have HI64:=hid hi64
 have HT:=hid (ht.below (ba W (.cells #[.string ⟨#[32,82,69,84,85,82,78,32,97,32,44,32,98,32,44,32,99]⟩,.string ⟨#[32,82,69,84,85,82,78,32,97,32,46,32,107,32,44,32,67,79,85,78,84]⟩,.string ⟨#[32,82,69,84,85,82,78,32,97,32,46,32,107,32,44,32,98,32,46,32,107,32,44,32,99,32,46,32,106,32,79,82,68,69,82,32,66,89,32,50,32,68,69,83,67]⟩,.string ⟨#[32,82,69,84,85,82,78,32,67,79,85,78,84]⟩,.string ⟨#[32,82,69,84,85,82,78,32,99,32,46,32,107,32,44,32,97,32,79,82,68,69,82,32,66,89,32,49,32,83,75,73,80,32,49,32,76,73,77,73,84,32,51]⟩] 9)))
 have HB:=hid (ba W (.cells #[.string ⟨#[32,82,69,84,85,82,78,32,97,32,44,32,98,32,44,32,99]⟩,.string ⟨#[32,82,69,84,85,82,78,32,97,32,46,32,107,32,44,32,67,79,85,78,84]⟩,.string ⟨#[32,82,69,84,85,82,78,32,97,32,46,32,107,32,44,32,98,32,46,32,107,32,44,32,99,32,46,32,106,32,79,82,68,69,82,32,66,89,32,50,32,68,69,83,67]⟩,.string ⟨#[32,82,69,84,85,82,78,32,67,79,85,78,84]⟩,.string ⟨#[32,82,69,84,85,82,78,32,99,32,46,32,107,32,44,32,97,32,79,82,68,69,82,32,66,89,32,49,32,83,75,73,80,32,49,32,76,73,77,73,84,32,51]⟩] 9))
 have HL:=hid (Loc.new W #[.string ⟨#[32,82,69,84,85,82,78,32,97,32,44,32,98,32,44,32,99]⟩,.string ⟨#[32,82,69,84,85,82,78,32,97,32,46,32,107,32,44,32,67,79,85,78,84]⟩,.string ⟨#[32,82,69,84,85,82,78,32,97,32,46,32,107,32,44,32,98,32,46,32,107,32,44,32,99,32,46,32,106,32,79,82,68,69,82,32,66,89,32,50,32,68,69,83,67]⟩,.string ⟨#[32,82,69,84,85,82,78,32,67,79,85,78,84]⟩,.string ⟨#[32,82,69,84,85,82,78,32,99,32,46,32,107,32,44,32,97,32,79,82,68,69,82,32,66,89,32,49,32,83,75,73,80,32,49,32,76,73,77,73,84,32,51]⟩] 9)
 clear hi ht hc hw hi64
 go_enter Tryz.func24,Tryz.ntmps24
 go_upto_region 2 with fail
 obtain⟨X,hX⟩:∃X,X=W.heap.size:=⟨_,rfl⟩
 rw[←hX] at HL⊢
 clear hX
 generalize W.alloc (.cells #[.string ⟨#[32,82,69,84,85,82,78,32,97,32,44,32,98,32,44,32,99]⟩,.string ⟨#[32,82,69,84,85,82,78,32,97,32,46,32,107,32,44,32,67,79,85,78,84]⟩,.string ⟨#[32,82,69,84,85,82,78,32,97,32,46,32,107,32,44,32,98,32,46,32,107,32,44,32,99,32,46,32,106,32,79,82,68,69,82,32,66,89,32,50,32,68,69,83,67]⟩,.string ⟨#[32,82,69,84,85,82,78,32,67,79,85,78,84]⟩,.string ⟨#[32,82,69,84,85,82,78,32,99,32,46,32,107,32,44,32,97,32,79,82,68,69,82,32,66,89,32,49,32,83,75,73,80,32,49,32,76,73,77,73,84,32,51]⟩] 9)=W1 at HL HB HT⊢
 go_wp2_with fail
 refine(ft HC.out HW.out HT.out).mono ?_
 rintro e W2 ⟨rfl,hb2⟩
 have HB2:=hid (HB.out.trans (hb2.mono HB.out.size))
 have hL2:=HL.out.grown (af hb2 none) (by simp)
 have x:=hL2.at_ 1 (.string ⟨#[32,82,69,84,85,82,78,32,97,32,46,32,107,32,44,32,67,79,85,78,84]⟩) rfl
 clear hb2 hL2
 go_wp2_with fail
 refine(vI HI64.out (by omega) (by omega)).mono ?_
 rw[HI.out]
 rintro e w1 ⟨rfl,hw1⟩
 obtain rfl:=hw1.symm
 go_wp2_with fail
 go_ret
 exact⟨by rw[HE.out];rfl,HB2.out⟩
theorem Mg {W:World} {c w i:Int} (hc:ux c) (hw:ux w) (hi64:ux i) (ht:BG W) (hi:pk i 5=2):
  Calls Tryz.prog 24 #[.int .i64 c,.int .i64 w,.int .i64 i] W fun e W'=>e=.returned (.string (br c w i))∧Below W.heap.size W W':=by
 have HE:Hid (br c w i=a8 c w++⟨#[32,82,69,84,85,82,78,32,97,32,46,32,107,32,44,32,98,32,46,32,107,32,44,32,99,32,46,32,106,32,79,82,68,69,82,32,66,89,32,50,32,68,69,83,67]⟩):=by show _=_;rw[Pure.fe];congr 1;unfold Mb;rw[if_neg (by omega)];rw[if_neg (by omega)];rw[if_pos hi]
 have hs5:=Pure.b9 c w
 have HI:=hid hi
 have HC:=hid hc
 have HW:=hid hw
 have HI64:=hid hi64
 have HT:=hid (ht.below (ba W (.cells #[.string ⟨#[32,82,69,84,85,82,78,32,97,32,44,32,98,32,44,32,99]⟩,.string ⟨#[32,82,69,84,85,82,78,32,97,32,46,32,107,32,44,32,67,79,85,78,84]⟩,.string ⟨#[32,82,69,84,85,82,78,32,97,32,46,32,107,32,44,32,98,32,46,32,107,32,44,32,99,32,46,32,106,32,79,82,68,69,82,32,66,89,32,50,32,68,69,83,67]⟩,.string ⟨#[32,82,69,84,85,82,78,32,67,79,85,78,84]⟩,.string ⟨#[32,82,69,84,85,82,78,32,99,32,46,32,107,32,44,32,97,32,79,82,68,69,82,32,66,89,32,49,32,83,75,73,80,32,49,32,76,73,77,73,84,32,51]⟩] 9)))
 have HB:=hid (ba W (.cells #[.string ⟨#[32,82,69,84,85,82,78,32,97,32,44,32,98,32,44,32,99]⟩,.string ⟨#[32,82,69,84,85,82,78,32,97,32,46,32,107,32,44,32,67,79,85,78,84]⟩,.string ⟨#[32,82,69,84,85,82,78,32,97,32,46,32,107,32,44,32,98,32,46,32,107,32,44,32,99,32,46,32,106,32,79,82,68,69,82,32,66,89,32,50,32,68,69,83,67]⟩,.string ⟨#[32,82,69,84,85,82,78,32,67,79,85,78,84]⟩,.string ⟨#[32,82,69,84,85,82,78,32,99,32,46,32,107,32,44,32,97,32,79,82,68,69,82,32,66,89,32,49,32,83,75,73,80,32,49,32,76,73,77,73,84,32,51]⟩] 9))
 have HL:=hid (Loc.new W #[.string ⟨#[32,82,69,84,85,82,78,32,97,32,44,32,98,32,44,32,99]⟩,.string ⟨#[32,82,69,84,85,82,78,32,97,32,46,32,107,32,44,32,67,79,85,78,84]⟩,.string ⟨#[32,82,69,84,85,82,78,32,97,32,46,32,107,32,44,32,98,32,46,32,107,32,44,32,99,32,46,32,106,32,79,82,68,69,82,32,66,89,32,50,32,68,69,83,67]⟩,.string ⟨#[32,82,69,84,85,82,78,32,67,79,85,78,84]⟩,.string ⟨#[32,82,69,84,85,82,78,32,99,32,46,32,107,32,44,32,97,32,79,82,68,69,82,32,66,89,32,49,32,83,75,73,80,32,49,32,76,73,77,73,84,32,51]⟩] 9)
 clear hi ht hc hw hi64
 go_enter Tryz.func24,Tryz.ntmps24
 go_upto_region 2 with fail
 obtain⟨X,hX⟩:∃X,X=W.heap.size:=⟨_,rfl⟩
 rw[←hX] at HL⊢
 clear hX
 generalize W.alloc (.cells #[.string ⟨#[32,82,69,84,85,82,78,32,97,32,44,32,98,32,44,32,99]⟩,.string ⟨#[32,82,69,84,85,82,78,32,97,32,46,32,107,32,44,32,67,79,85,78,84]⟩,.string ⟨#[32,82,69,84,85,82,78,32,97,32,46,32,107,32,44,32,98,32,46,32,107,32,44,32,99,32,46,32,106,32,79,82,68,69,82,32,66,89,32,50,32,68,69,83,67]⟩,.string ⟨#[32,82,69,84,85,82,78,32,67,79,85,78,84]⟩,.string ⟨#[32,82,69,84,85,82,78,32,99,32,46,32,107,32,44,32,97,32,79,82,68,69,82,32,66,89,32,49,32,83,75,73,80,32,49,32,76,73,77,73,84,32,51]⟩] 9)=W1 at HL HB HT⊢
 go_wp2_with fail
 refine(ft HC.out HW.out HT.out).mono ?_
 rintro e W2 ⟨rfl,hb2⟩
 have HB2:=hid (HB.out.trans (hb2.mono HB.out.size))
 have hL2:=HL.out.grown (af hb2 none) (by simp)
 have x:=hL2.at_ 2 (.string ⟨#[32,82,69,84,85,82,78,32,97,32,46,32,107,32,44,32,98,32,46,32,107,32,44,32,99,32,46,32,106,32,79,82,68,69,82,32,66,89,32,50,32,68,69,83,67]⟩) rfl
 clear hb2 hL2
 go_wp2_with fail
 refine(vI HI64.out (by omega) (by omega)).mono ?_
 rw[HI.out]
 rintro e w1 ⟨rfl,hw1⟩
 obtain rfl:=hw1.symm
 go_wp2_with fail
 go_ret
 exact⟨by rw[HE.out];rfl,HB2.out⟩
theorem L7 {W:World} {c w i:Int} (hc:ux c) (hw:ux w) (hi64:ux i) (ht:BG W) (hi:pk i 5=3):
  Calls Tryz.prog 24 #[.int .i64 c,.int .i64 w,.int .i64 i] W fun e W'=>e=.returned (.string (br c w i))∧Below W.heap.size W W':=by
 have HE:Hid (br c w i=a8 c w++⟨#[32,82,69,84,85,82,78,32,67,79,85,78,84]⟩):=by show _=_;rw[Pure.fe];congr 1;unfold Mb;rw[if_neg (by omega)];rw[if_neg (by omega)];rw[if_neg (by omega)];rw[if_pos hi]
 have hs5:=Pure.b9 c w
 have HI:=hid hi
 have HC:=hid hc
 have HW:=hid hw
 have HI64:=hid hi64
 have HT:=hid (ht.below (ba W (.cells #[.string ⟨#[32,82,69,84,85,82,78,32,97,32,44,32,98,32,44,32,99]⟩,.string ⟨#[32,82,69,84,85,82,78,32,97,32,46,32,107,32,44,32,67,79,85,78,84]⟩,.string ⟨#[32,82,69,84,85,82,78,32,97,32,46,32,107,32,44,32,98,32,46,32,107,32,44,32,99,32,46,32,106,32,79,82,68,69,82,32,66,89,32,50,32,68,69,83,67]⟩,.string ⟨#[32,82,69,84,85,82,78,32,67,79,85,78,84]⟩,.string ⟨#[32,82,69,84,85,82,78,32,99,32,46,32,107,32,44,32,97,32,79,82,68,69,82,32,66,89,32,49,32,83,75,73,80,32,49,32,76,73,77,73,84,32,51]⟩] 9)))
 have HB:=hid (ba W (.cells #[.string ⟨#[32,82,69,84,85,82,78,32,97,32,44,32,98,32,44,32,99]⟩,.string ⟨#[32,82,69,84,85,82,78,32,97,32,46,32,107,32,44,32,67,79,85,78,84]⟩,.string ⟨#[32,82,69,84,85,82,78,32,97,32,46,32,107,32,44,32,98,32,46,32,107,32,44,32,99,32,46,32,106,32,79,82,68,69,82,32,66,89,32,50,32,68,69,83,67]⟩,.string ⟨#[32,82,69,84,85,82,78,32,67,79,85,78,84]⟩,.string ⟨#[32,82,69,84,85,82,78,32,99,32,46,32,107,32,44,32,97,32,79,82,68,69,82,32,66,89,32,49,32,83,75,73,80,32,49,32,76,73,77,73,84,32,51]⟩] 9))
 have HL:=hid (Loc.new W #[.string ⟨#[32,82,69,84,85,82,78,32,97,32,44,32,98,32,44,32,99]⟩,.string ⟨#[32,82,69,84,85,82,78,32,97,32,46,32,107,32,44,32,67,79,85,78,84]⟩,.string ⟨#[32,82,69,84,85,82,78,32,97,32,46,32,107,32,44,32,98,32,46,32,107,32,44,32,99,32,46,32,106,32,79,82,68,69,82,32,66,89,32,50,32,68,69,83,67]⟩,.string ⟨#[32,82,69,84,85,82,78,32,67,79,85,78,84]⟩,.string ⟨#[32,82,69,84,85,82,78,32,99,32,46,32,107,32,44,32,97,32,79,82,68,69,82,32,66,89,32,49,32,83,75,73,80,32,49,32,76,73,77,73,84,32,51]⟩] 9)
 clear hi ht hc hw hi64
 go_enter Tryz.func24,Tryz.ntmps24
 go_upto_region 2 with fail
 obtain⟨X,hX⟩:∃X,X=W.heap.size:=⟨_,rfl⟩
 rw[←hX] at HL⊢
 clear hX
 generalize W.alloc (.cells #[.string ⟨#[32,82,69,84,85,82,78,32,97,32,44,32,98,32,44,32,99]⟩,.string ⟨#[32,82,69,84,85,82,78,32,97,32,46,32,107,32,44,32,67,79,85,78,84]⟩,.string ⟨#[32,82,69,84,85,82,78,32,97,32,46,32,107,32,44,32,98,32,46,32,107,32,44,32,99,32,46,32,106,32,79,82,68,69,82,32,66,89,32,50,32,68,69,83,67]⟩,.string ⟨#[32,82,69,84,85,82,78,32,67,79,85,78,84]⟩,.string ⟨#[32,82,69,84,85,82,78,32,99,32,46,32,107,32,44,32,97,32,79,82,68,69,82,32,66,89,32,49,32,83,75,73,80,32,49,32,76,73,77,73,84,32,51]⟩] 9)=W1 at HL HB HT⊢
 go_wp2_with fail
 refine(ft HC.out HW.out HT.out).mono ?_
 rintro e W2 ⟨rfl,hb2⟩
 have HB2:=hid (HB.out.trans (hb2.mono HB.out.size))
 have hL2:=HL.out.grown (af hb2 none) (by simp)
 have x:=hL2.at_ 3 (.string ⟨#[32,82,69,84,85,82,78,32,67,79,85,78,84]⟩) rfl
 clear hb2 hL2
 go_wp2_with fail
 refine(vI HI64.out (by omega) (by omega)).mono ?_
 rw[HI.out]
 rintro e w1 ⟨rfl,hw1⟩
 obtain rfl:=hw1.symm
 go_wp2_with fail
 go_ret
 exact⟨by rw[HE.out];rfl,HB2.out⟩
theorem Mk {W:World} {c w i:Int} (hc:ux c) (hw:ux w) (hi64:ux i) (ht:BG W) (hi:pk i 5=4):
  Calls Tryz.prog 24 #[.int .i64 c,.int .i64 w,.int .i64 i] W fun e W'=>e=.returned (.string (br c w i))∧Below W.heap.size W W':=by
 have HE:Hid (br c w i=a8 c w++⟨#[32,82,69,84,85,82,78,32,99,32,46,32,107,32,44,32,97,32,79,82,68,69,82,32,66,89,32,49,32,83,75,73,80,32,49,32,76,73,77,73,84,32,51]⟩):=by show _=_;rw[Pure.fe];congr 1;unfold Mb;rw[if_neg (by omega)];rw[if_neg (by omega)];rw[if_neg (by omega)];rw[if_neg (by omega)]
 have hs5:=Pure.b9 c w
 have HI:=hid hi
 have HC:=hid hc
 have HW:=hid hw
 have HI64:=hid hi64
 have HT:=hid (ht.below (ba W (.cells #[.string ⟨#[32,82,69,84,85,82,78,32,97,32,44,32,98,32,44,32,99]⟩,.string ⟨#[32,82,69,84,85,82,78,32,97,32,46,32,107,32,44,32,67,79,85,78,84]⟩,.string ⟨#[32,82,69,84,85,82,78,32,97,32,46,32,107,32,44,32,98,32,46,32,107,32,44,32,99,32,46,32,106,32,79,82,68,69,82,32,66,89,32,50,32,68,69,83,67]⟩,.string ⟨#[32,82,69,84,85,82,78,32,67,79,85,78,84]⟩,.string ⟨#[32,82,69,84,85,82,78,32,99,32,46,32,107,32,44,32,97,32,79,82,68,69,82,32,66,89,32,49,32,83,75,73,80,32,49,32,76,73,77,73,84,32,51]⟩] 9)))
 have HB:=hid (ba W (.cells #[.string ⟨#[32,82,69,84,85,82,78,32,97,32,44,32,98,32,44,32,99]⟩,.string ⟨#[32,82,69,84,85,82,78,32,97,32,46,32,107,32,44,32,67,79,85,78,84]⟩,.string ⟨#[32,82,69,84,85,82,78,32,97,32,46,32,107,32,44,32,98,32,46,32,107,32,44,32,99,32,46,32,106,32,79,82,68,69,82,32,66,89,32,50,32,68,69,83,67]⟩,.string ⟨#[32,82,69,84,85,82,78,32,67,79,85,78,84]⟩,.string ⟨#[32,82,69,84,85,82,78,32,99,32,46,32,107,32,44,32,97,32,79,82,68,69,82,32,66,89,32,49,32,83,75,73,80,32,49,32,76,73,77,73,84,32,51]⟩] 9))
 have HL:=hid (Loc.new W #[.string ⟨#[32,82,69,84,85,82,78,32,97,32,44,32,98,32,44,32,99]⟩,.string ⟨#[32,82,69,84,85,82,78,32,97,32,46,32,107,32,44,32,67,79,85,78,84]⟩,.string ⟨#[32,82,69,84,85,82,78,32,97,32,46,32,107,32,44,32,98,32,46,32,107,32,44,32,99,32,46,32,106,32,79,82,68,69,82,32,66,89,32,50,32,68,69,83,67]⟩,.string ⟨#[32,82,69,84,85,82,78,32,67,79,85,78,84]⟩,.string ⟨#[32,82,69,84,85,82,78,32,99,32,46,32,107,32,44,32,97,32,79,82,68,69,82,32,66,89,32,49,32,83,75,73,80,32,49,32,76,73,77,73,84,32,51]⟩] 9)
 clear hi ht hc hw hi64
 go_enter Tryz.func24,Tryz.ntmps24
 go_upto_region 2 with fail
 obtain⟨X,hX⟩:∃X,X=W.heap.size:=⟨_,rfl⟩
 rw[←hX] at HL⊢
 clear hX
 generalize W.alloc (.cells #[.string ⟨#[32,82,69,84,85,82,78,32,97,32,44,32,98,32,44,32,99]⟩,.string ⟨#[32,82,69,84,85,82,78,32,97,32,46,32,107,32,44,32,67,79,85,78,84]⟩,.string ⟨#[32,82,69,84,85,82,78,32,97,32,46,32,107,32,44,32,98,32,46,32,107,32,44,32,99,32,46,32,106,32,79,82,68,69,82,32,66,89,32,50,32,68,69,83,67]⟩,.string ⟨#[32,82,69,84,85,82,78,32,67,79,85,78,84]⟩,.string ⟨#[32,82,69,84,85,82,78,32,99,32,46,32,107,32,44,32,97,32,79,82,68,69,82,32,66,89,32,49,32,83,75,73,80,32,49,32,76,73,77,73,84,32,51]⟩] 9)=W1 at HL HB HT⊢
 go_wp2_with fail
 refine(ft HC.out HW.out HT.out).mono ?_
 rintro e W2 ⟨rfl,hb2⟩
 have HB2:=hid (HB.out.trans (hb2.mono HB.out.size))
 have hL2:=HL.out.grown (af hb2 none) (by simp)
 have x:=hL2.at_ 4 (.string ⟨#[32,82,69,84,85,82,78,32,99,32,46,32,107,32,44,32,97,32,79,82,68,69,82,32,66,89,32,49,32,83,75,73,80,32,49,32,76,73,77,73,84,32,51]⟩) rfl
 clear hb2 hL2
 go_wp2_with fail
 refine(vI HI64.out (by omega) (by omega)).mono ?_
 rw[HI.out]
 rintro e w1 ⟨rfl,hw1⟩
 obtain rfl:=hw1.symm
 go_wp2_with fail
 go_ret
 exact⟨by rw[HE.out];rfl,HB2.out⟩
theorem Mh {W:World} {c w i:Int} (hc:ux c) (hw:ux w) (hi:ux i) (ht:BG W):
  Calls Tryz.prog 24 #[.int .i64 c,.int .i64 w,.int .i64 i] W fun e W'=>e=.returned (.string (br c w i))∧Below W.heap.size W W':=by
 have h0:=ma (c:=i) (n:=5) (by omega)
 have h1:=zb (c:=i) (n:=5) (by omega)
 have h:pk i 5=0∨pk i 5=1∨pk i 5=2∨pk i 5=3∨pk i 5=4:=by omega
 rcases h with h|h|h|h|h
 ·exact Mc hc hw hi ht h
 ·exact Md hc hw hi ht h
 ·exact Mg hc hw hi ht h
 ·exact L7 hc hw hi ht h
 ·exact Mk hc hw hi ht h
end
end Go.Proofs.YtobgbmfpicmpcaaGreatDoor
