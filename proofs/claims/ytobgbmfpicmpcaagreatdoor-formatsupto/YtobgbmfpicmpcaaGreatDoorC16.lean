/- The reference's Same, of any two queries. -/
import Derived.Test.YtobgbmfpicmpcaaGreatDoorC15
import Derived.Test.YtobgbmfpicmpcaaGreatDoorC07
import Derived.Test.YtobgbmfpicmpcaaGreatDoorC11
namespace Go.Proofs.YtobgbmfpicmpcaaGreatDoor
open Go.RowKit
set_option maxRecDepth 100000 in
set_option maxHeartbeats 40000000 in
theorem refSameLists {W:World} {a b:PQuery} {a1 a2 a3 a4 b1 b2 b3 b4:Option Addr} {m1 m2 m3 m4 k1 k2 k3 k4 l1 l2 l3 l4:Nat} (ha:QSees W a (.slice a1 m1 k1) (.slice a2 m2 k2) (.slice a3 m3 k3) (.slice a4 m4 k4)) (hb:QSees W b (.slice b1 m1 l1) (.slice b2 m2 l2) (.slice b3 m3 l3) (.slice b4 m4 l4))
  (ea1:a.spots.length=m1) (ea2:a.conds.length=m2) (ea3:a.items.length=m3) (ea4:a.pairs.length=m4) (eb1:b.spots.length=m1) (eb2:b.conds.length=m2) (eb3:b.items.length=m3) (eb4:b.pairs.length=m4)
  (s1:m1≤4000000) (s2:m2≤4000000) (s3:m3≤4000000) (s4:m4≤4000000) (hne:eqL eqSpot a.spots b.spots=true→eqL eqCond a.conds b.conds=true→eqL eqItem a.items b.items=true→¬eqL eqPair a.pairs b.pairs=true):
  Calls Tryz.prog 16 #[.agg (qC a (.slice a1 m1 k1) (.slice a2 m2 k2) (.slice a3 m3 k3) (.slice a4 m4 k4)),.agg (qC b (.slice b1 m1 l1) (.slice b2 m2 l2) (.slice b3 m3 l3) (.slice b4 m4 l4))] W fun e W'=>e=.returned (.bool false)∧Below W.heap.size W W':=by
 have HNE:=Lib.hid hne
 clear hne
 have HA:=Lib.hid ha
 have HB:=Lib.hid hb
 have HEL:=Lib.hid (And.intro (And.intro ea1 (And.intro ea2 (And.intro ea3 ea4))) (And.intro eb1 (And.intro eb2 (And.intro eb3 eb4))))
 clear ha hb ea1 ea2 ea3 ea4 eb1 eb2 eb3 eb4
 have f1:((m1:Int) != (m1:Int))=false:=by simp
 have f2:((m2:Int) != (m2:Int))=false:=by simp
 have f3:((m3:Int) != (m3:Int))=false:=by simp
 have f4:((m4:Int) != (m4:Int))=false:=by simp
 go_enter Tryz.func16,Tryz.ntmps16
 go_upto_region 1 with fail
 obtain⟨X,hX⟩:∃X,X=W.heap.size:=⟨_,rfl⟩
 obtain⟨Y,hY⟩:∃Y,Y=W.heap.size+1:=⟨_,rfl⟩
 have H0:Hid (Below W.heap.size W ((W.alloc (.cells (qC a (.slice a1 m1 k1) (.slice a2 m2 k2) (.slice a3 m3 k3) (.slice a4 m4 k4)) 29)).alloc (.cells (qC b (.slice b1 m1 l1) (.slice b2 m2 l2) (.slice b3 m3 l3) (.slice b4 m4 l4)) 29))∧Loc ((W.alloc (.cells (qC a (.slice a1 m1 k1) (.slice a2 m2 k2) (.slice a3 m3 k3) (.slice a4 m4 k4)) 29)).alloc (.cells (qC b (.slice b1 m1 l1) (.slice b2 m2 l2) (.slice b3 m3 l3) (.slice b4 m4 l4)) 29)) X (qC a (.slice a1 m1 k1) (.slice a2 m2 k2) (.slice a3 m3 k3) (.slice a4 m4 k4)) 29∧Loc ((W.alloc (.cells (qC a (.slice a1 m1 k1) (.slice a2 m2 k2) (.slice a3 m3 k3) (.slice a4 m4 k4)) 29)).alloc (.cells (qC b (.slice b1 m1 l1) (.slice b2 m2 l2) (.slice b3 m3 l3) (.slice b4 m4 l4)) 29)) Y (qC b (.slice b1 m1 l1) (.slice b2 m2 l2) (.slice b3 m3 l3) (.slice b4 m4 l4)) 29):=by
  have hs:=size_alloc W (.cells (qC a (.slice a1 m1 k1) (.slice a2 m2 k2) (.slice a3 m3 k3) (.slice a4 m4 k4)) 29)
  refine⟨Below.alloc (Below.alloc (Below.refl _ _) (Nat.le_refl _) _) (by omega) _,?_,?_⟩
  ·rw[hX];exact(Loc.new W _ _).alloc _
  ·rw[hY,←hs];exact Loc.new _ _ _
 rw[←hY,←hX]
 clear hX hY
 generalize (W.alloc (.cells (qC a (.slice a1 m1 k1) (.slice a2 m2 k2) (.slice a3 m3 k3) (.slice a4 m4 k4)) 29)).alloc (.cells (qC b (.slice b1 m1 l1) (.slice b2 m2 l2) (.slice b3 m3 l3) (.slice b4 m4 l4)) 29)=W1 at H0⊢
 have x1:=H0.out.2.1.at_ 1 (.slice a1 m1 k1) rfl
 have y1:=H0.out.2.2.at_ 1 (.slice b1 m1 l1) rfl
 have x2:=H0.out.2.1.at_ 2 (.slice a2 m2 k2) rfl
 have y2:=H0.out.2.2.at_ 2 (.slice b2 m2 l2) rfl
 have x3:=H0.out.2.1.at_ 3 (.slice a3 m3 k3) rfl
 have y3:=H0.out.2.2.at_ 3 (.slice b3 m3 l3) rfl
 have x16:=H0.out.2.1.at_ 16 (.slice a4 m4 k4) rfl
 have y16:=H0.out.2.2.at_ 16 (.slice b4 m4 l4) rfl
 go_upto_block 0 with fail
 go_cut [5] (fun _ w=>eqL eqSpot a.spots b.spots=true∧∃d,w=W1.drewN d)
 case first=>
  go_wp2_with fail
  go_loopg [5] m1 (fun n iv w=>∃k:Nat,iv=.int .i64 (k:Int)∧k+n=m1∧eqL eqSpot (a.spots.take k) (b.spots.take k)=true∧∃d,w=W1.drewN d)
  case atStart=>exact⟨0,rfl,by omega,rfl,0,rfl⟩
  case round=>
   obtain⟨k,rfl,hk,he,d,rfl⟩:=hrel
   have HE:=Lib.hid he
   clear he
   by_cases hlt:k<m1
   ·have hlt1:k<a.spots.length:=by have:=HEL.out.1.1;omega
    have hlt2:k<b.spots.length:=by have:=HEL.out.2.1;omega
    obtain⟨g,o,rfl,ca⟩:=sees_at (l:=a.spots) fSpot (fun _=>rfl) (show Sees W 5 (.slice a1 a.spots.length k1) a.spots.length _ from by rw[HEL.out.1.1];have h:=HA.out.rs;rw[HEL.out.1.1] at h;exact h) hlt1
    obtain⟨g',o',rfl,cb⟩:=sees_at (l:=b.spots) fSpot (fun _=>rfl) (show Sees W 5 (.slice b1 b.spots.length l1) b.spots.length _ from by rw[HEL.out.2.1];have h:=HB.out.rs;rw[HEL.out.2.1] at h;exact h) hlt2
    have HD:Hid (eqSpot a.spots[k] b.spots[k]=false→eqL eqSpot a.spots b.spots=false):=eqL_diff eqSpot hlt1 hlt2
    have HN:Hid (eqSpot a.spots[k] b.spots[k]=true→eqL eqSpot (a.spots.take (k+1)) (b.spots.take (k+1))=true):=eqL_next eqSpot hlt1 hlt2 HE.out
    obtain⟨p,hp⟩:∃p,a.spots[k]=p:=⟨_,rfl⟩
    obtain⟨r,hr⟩:∃r,b.spots[k]=r:=⟨_,rfl⟩
    rw[hp] at ca HD HN
    rw[hr] at cb HD HN
    clear hp hr
    obtain⟨p0,p1,p2,p3,p4⟩:=p
    obtain⟨r0,r1,r2,r3,r4⟩:=r
    have u0:W1.cell? ⟨g,o+k*5,none⟩=some (.string p0):=(H0.out.1.cell (block_lt_of_cell (ca 0 (by decide)))).trans (ca 0 (by decide))
    have v0:W1.cell? ⟨g',o'+k*5,none⟩=some (.string r0):=(H0.out.1.cell (block_lt_of_cell (cb 0 (by decide)))).trans (cb 0 (by decide))
    have u1:W1.cell? ⟨g,o+k*5+1,none⟩=some (.string p1):=(H0.out.1.cell (block_lt_of_cell (ca 1 (by decide)))).trans (ca 1 (by decide))
    have v1:W1.cell? ⟨g',o'+k*5+1,none⟩=some (.string r1):=(H0.out.1.cell (block_lt_of_cell (cb 1 (by decide)))).trans (cb 1 (by decide))
    have u2:W1.cell? ⟨g,o+k*5+2,none⟩=some (.string p2):=(H0.out.1.cell (block_lt_of_cell (ca 2 (by decide)))).trans (ca 2 (by decide))
    have v2:W1.cell? ⟨g',o'+k*5+2,none⟩=some (.string r2):=(H0.out.1.cell (block_lt_of_cell (cb 2 (by decide)))).trans (cb 2 (by decide))
    have u3:W1.cell? ⟨g,o+k*5+3,none⟩=some (.int .i64 p3):=(H0.out.1.cell (block_lt_of_cell (ca 3 (by decide)))).trans (ca 3 (by decide))
    have v3:W1.cell? ⟨g',o'+k*5+3,none⟩=some (.int .i64 r3):=(H0.out.1.cell (block_lt_of_cell (cb 3 (by decide)))).trans (cb 3 (by decide))
    have u4:W1.cell? ⟨g,o+k*5+4,none⟩=some (.int .i64 p4):=(H0.out.1.cell (block_lt_of_cell (ca 4 (by decide)))).trans (ca 4 (by decide))
    have v4:W1.cell? ⟨g',o'+k*5+4,none⟩=some (.int .i64 r4):=(H0.out.1.cell (block_lt_of_cell (cb 4 (by decide)))).trans (cb 4 (by decide))
    have hki:(k:Int)<(m1:Int):=by omega
    clear ca cb hlt hlt1 hlt2
    by_cases e0:p0≠r0
    ·have hne:(p0.toList==r0.toList)=false:=toList_ne e0
     clear e0 HD HN
     go_wp2_with fail
     go_quiet (fail)
     go_wp2_with fail
     (try simp only[Exit.inBlock,Exit.then])
     refine bodyPost_ret (v:=.bool false) ?_ rfl ⟨rfl,below_drewN (below_drewN H0.out.1 _) _⟩
     simp[results,Tryz.results16,go_sem]
    rw[ne_eq,Classical.not_not] at e0
    subst e0
    by_cases e1:p1≠r1
    ·have hne:(p1.toList==r1.toList)=false:=toList_ne e1
     clear e1 HD HN
     go_wp2_with fail
     go_quiet (fail)
     go_wp2_with fail
     (try simp only[Exit.inBlock,Exit.then])
     refine bodyPost_ret (v:=.bool false) ?_ rfl ⟨rfl,below_drewN (below_drewN H0.out.1 _) _⟩
     simp[results,Tryz.results16,go_sem]
    rw[ne_eq,Classical.not_not] at e1
    subst e1
    by_cases e2:p2≠r2
    ·have hne:(p2.toList==r2.toList)=false:=toList_ne e2
     clear e2 HD HN
     go_wp2_with fail
     go_quiet (fail)
     go_wp2_with fail
     (try simp only[Exit.inBlock,Exit.then])
     refine bodyPost_ret (v:=.bool false) ?_ rfl ⟨rfl,below_drewN (below_drewN H0.out.1 _) _⟩
     simp[results,Tryz.results16,go_sem]
    rw[ne_eq,Classical.not_not] at e2
    subst e2
    by_cases e3:p3≠r3
    ·have hne:(p3==r3)=false:=by simpa using e3
     clear e3 HD HN
     go_wp2_with fail
     go_quiet (fail)
     go_wp2_with fail
     (try simp only[Exit.inBlock,Exit.then])
     refine bodyPost_ret (v:=.bool false) ?_ rfl ⟨rfl,below_drewN (below_drewN H0.out.1 _) _⟩
     simp[results,Tryz.results16,go_sem]
    rw[ne_eq,Classical.not_not] at e3
    subst e3
    by_cases e4:p4≠r4
    ·have hne:(p4==r4)=false:=by simpa using e4
     clear e4 HD HN
     go_wp2_with fail
     go_quiet (fail)
     go_wp2_with fail
     (try simp only[Exit.inBlock,Exit.then])
     refine bodyPost_ret (v:=.bool false) ?_ rfl ⟨rfl,below_drewN (below_drewN H0.out.1 _) _⟩
     simp[results,Tryz.results16,go_sem]
    rw[ne_eq,Classical.not_not] at e4
    subst e4
    have HQ:=Lib.hid (HN.out (Pure.eqSpot_iff.2 rfl))
    clear HD HN
    go_wp2_with fail
    go_quiet (fail)
    go_wp2_with fail
    go_roundg (gk - 1)
    case measure=>omega
    case rel=>exact⟨k+1,by simp,by omega,HQ.out,d+nq,by first|rfl|exact drew_drew _ _ _⟩
   ·have hki:¬(k:Int)<(m1:Int):=by omega
    have HK:Hid (eqL eqSpot a.spots b.spots=true):=by
     have h:=HE.out
     have h1:=HEL.out.1.1
     have h2:=HEL.out.2.1
     rw[List.take_of_length_le (by omega),List.take_of_length_le (by omega)] at h
     exact h
    go_wp2_with fail
    go_meet
    case rel=>exact⟨HK.out,_,rfl⟩
 case rest=>
  obtain⟨he,d,rfl⟩:=hcut
  have HQ1:=Lib.hid he
  clear he
  go_upto_block 2 with fail
  go_cut [6] (fun _ w=>eqL eqCond a.conds b.conds=true∧∃d,w=W1.drewN d)
  case first=>
   go_wp2_with fail
   go_loopg [6] m2 (fun n iv w=>∃k:Nat,iv=.int .i64 (k:Int)∧k+n=m2∧eqL eqCond (a.conds.take k) (b.conds.take k)=true∧∃d,w=W1.drewN d)
   case atStart=>exact⟨0,rfl,by omega,rfl,d,rfl⟩
   case round=>
    obtain⟨k,rfl,hk,he,d,rfl⟩:=hrel
    have HE:=Lib.hid he
    clear he
    by_cases hlt:k<m2
    ·have hlt1:k<a.conds.length:=by have:=HEL.out.1.2.1;omega
     have hlt2:k<b.conds.length:=by have:=HEL.out.2.2.1;omega
     obtain⟨g,o,rfl,ca⟩:=sees_at (l:=a.conds) fCond (fun _=>rfl) (show Sees W 7 (.slice a2 a.conds.length k2) a.conds.length _ from by rw[HEL.out.1.2.1];have h:=HA.out.rc;rw[HEL.out.1.2.1] at h;exact h) hlt1
     obtain⟨g',o',rfl,cb⟩:=sees_at (l:=b.conds) fCond (fun _=>rfl) (show Sees W 7 (.slice b2 b.conds.length l2) b.conds.length _ from by rw[HEL.out.2.2.1];have h:=HB.out.rc;rw[HEL.out.2.2.1] at h;exact h) hlt2
     have HD:Hid (eqCond a.conds[k] b.conds[k]=false→eqL eqCond a.conds b.conds=false):=eqL_diff eqCond hlt1 hlt2
     have HN:Hid (eqCond a.conds[k] b.conds[k]=true→eqL eqCond (a.conds.take (k+1)) (b.conds.take (k+1))=true):=eqL_next eqCond hlt1 hlt2 HE.out
     obtain⟨p,hp⟩:∃p,a.conds[k]=p:=⟨_,rfl⟩
     obtain⟨r,hr⟩:∃r,b.conds[k]=r:=⟨_,rfl⟩
     rw[hp] at ca HD HN
     rw[hr] at cb HD HN
     clear hp hr
     obtain⟨p0,⟨p1,p2,p3⟩,⟨p4,p5,p6⟩⟩:=p
     obtain⟨r0,⟨r1,r2,r3⟩,⟨r4,r5,r6⟩⟩:=r
     have u0:W1.cell? ⟨g,o+k*7,none⟩=some (.int .i64 p0):=(H0.out.1.cell (block_lt_of_cell (ca 0 (by decide)))).trans (ca 0 (by decide))
     have v0:W1.cell? ⟨g',o'+k*7,none⟩=some (.int .i64 r0):=(H0.out.1.cell (block_lt_of_cell (cb 0 (by decide)))).trans (cb 0 (by decide))
     have u1:W1.cell? ⟨g,o+k*7+1,none⟩=some (.string p1):=(H0.out.1.cell (block_lt_of_cell (ca 1 (by decide)))).trans (ca 1 (by decide))
     have v1:W1.cell? ⟨g',o'+k*7+1,none⟩=some (.string r1):=(H0.out.1.cell (block_lt_of_cell (cb 1 (by decide)))).trans (cb 1 (by decide))
     have u2:W1.cell? ⟨g,o+k*7+2,none⟩=some (.string p2):=(H0.out.1.cell (block_lt_of_cell (ca 2 (by decide)))).trans (ca 2 (by decide))
     have v2:W1.cell? ⟨g',o'+k*7+2,none⟩=some (.string r2):=(H0.out.1.cell (block_lt_of_cell (cb 2 (by decide)))).trans (cb 2 (by decide))
     have u3:W1.cell? ⟨g,o+k*7+3,none⟩=some (.int .i64 p3):=(H0.out.1.cell (block_lt_of_cell (ca 3 (by decide)))).trans (ca 3 (by decide))
     have v3:W1.cell? ⟨g',o'+k*7+3,none⟩=some (.int .i64 r3):=(H0.out.1.cell (block_lt_of_cell (cb 3 (by decide)))).trans (cb 3 (by decide))
     have u4:W1.cell? ⟨g,o+k*7+4,none⟩=some (.string p4):=(H0.out.1.cell (block_lt_of_cell (ca 4 (by decide)))).trans (ca 4 (by decide))
     have v4:W1.cell? ⟨g',o'+k*7+4,none⟩=some (.string r4):=(H0.out.1.cell (block_lt_of_cell (cb 4 (by decide)))).trans (cb 4 (by decide))
     have u5:W1.cell? ⟨g,o+k*7+5,none⟩=some (.string p5):=(H0.out.1.cell (block_lt_of_cell (ca 5 (by decide)))).trans (ca 5 (by decide))
     have v5:W1.cell? ⟨g',o'+k*7+5,none⟩=some (.string r5):=(H0.out.1.cell (block_lt_of_cell (cb 5 (by decide)))).trans (cb 5 (by decide))
     have u6:W1.cell? ⟨g,o+k*7+6,none⟩=some (.int .i64 p6):=(H0.out.1.cell (block_lt_of_cell (ca 6 (by decide)))).trans (ca 6 (by decide))
     have v6:W1.cell? ⟨g',o'+k*7+6,none⟩=some (.int .i64 r6):=(H0.out.1.cell (block_lt_of_cell (cb 6 (by decide)))).trans (cb 6 (by decide))
     have hki:(k:Int)<(m2:Int):=by omega
     clear ca cb hlt hlt1 hlt2
     by_cases e0:p0≠r0
     ·have hne:(p0==r0)=false:=by simpa using e0
      clear e0 HD HN
      go_wp2_with fail
      go_quiet (fail)
      go_wp2_with fail
      (try simp only[Exit.inBlock,Exit.then])
      refine bodyPost_ret (v:=.bool false) ?_ rfl ⟨rfl,below_drewN (below_drewN H0.out.1 _) _⟩
      simp[results,Tryz.results16,go_sem]
     rw[ne_eq,Classical.not_not] at e0
     subst e0
     by_cases e1:p1≠r1
     ·have hne:(p1.toList==r1.toList)=false:=toList_ne e1
      clear e1 HD HN
      go_wp2_with fail
      go_quiet (fail)
      go_wp2_with fail
      (try simp only[Exit.inBlock,Exit.then])
      refine bodyPost_ret (v:=.bool false) ?_ rfl ⟨rfl,below_drewN (below_drewN H0.out.1 _) _⟩
      simp[results,Tryz.results16,go_sem]
     rw[ne_eq,Classical.not_not] at e1
     subst e1
     by_cases e2:p2≠r2
     ·have hne:(p2.toList==r2.toList)=false:=toList_ne e2
      clear e2 HD HN
      go_wp2_with fail
      go_quiet (fail)
      go_wp2_with fail
      (try simp only[Exit.inBlock,Exit.then])
      refine bodyPost_ret (v:=.bool false) ?_ rfl ⟨rfl,below_drewN (below_drewN H0.out.1 _) _⟩
      simp[results,Tryz.results16,go_sem]
     rw[ne_eq,Classical.not_not] at e2
     subst e2
     by_cases e3:p3≠r3
     ·have hne:(p3==r3)=false:=by simpa using e3
      clear e3 HD HN
      go_wp2_with fail
      go_quiet (fail)
      go_wp2_with fail
      (try simp only[Exit.inBlock,Exit.then])
      refine bodyPost_ret (v:=.bool false) ?_ rfl ⟨rfl,below_drewN (below_drewN H0.out.1 _) _⟩
      simp[results,Tryz.results16,go_sem]
     rw[ne_eq,Classical.not_not] at e3
     subst e3
     by_cases e4:p4≠r4
     ·have hne:(p4.toList==r4.toList)=false:=toList_ne e4
      clear e4 HD HN
      go_wp2_with fail
      go_quiet (fail)
      go_wp2_with fail
      (try simp only[Exit.inBlock,Exit.then])
      refine bodyPost_ret (v:=.bool false) ?_ rfl ⟨rfl,below_drewN (below_drewN H0.out.1 _) _⟩
      simp[results,Tryz.results16,go_sem]
     rw[ne_eq,Classical.not_not] at e4
     subst e4
     by_cases e5:p5≠r5
     ·have hne:(p5.toList==r5.toList)=false:=toList_ne e5
      clear e5 HD HN
      go_wp2_with fail
      go_quiet (fail)
      go_wp2_with fail
      (try simp only[Exit.inBlock,Exit.then])
      refine bodyPost_ret (v:=.bool false) ?_ rfl ⟨rfl,below_drewN (below_drewN H0.out.1 _) _⟩
      simp[results,Tryz.results16,go_sem]
     rw[ne_eq,Classical.not_not] at e5
     subst e5
     by_cases e6:p6≠r6
     ·have hne:(p6==r6)=false:=by simpa using e6
      clear e6 HD HN
      go_wp2_with fail
      go_quiet (fail)
      go_wp2_with fail
      (try simp only[Exit.inBlock,Exit.then])
      refine bodyPost_ret (v:=.bool false) ?_ rfl ⟨rfl,below_drewN (below_drewN H0.out.1 _) _⟩
      simp[results,Tryz.results16,go_sem]
     rw[ne_eq,Classical.not_not] at e6
     subst e6
     have HQ:=Lib.hid (HN.out (Pure.eqCond_iff.2 rfl))
     clear HD HN
     go_wp2_with fail
     go_quiet (fail)
     go_wp2_with fail
     go_roundg (gk - 1)
     case measure=>omega
     case rel=>exact⟨k+1,by simp,by omega,HQ.out,d+nq,by first|rfl|exact drew_drew _ _ _⟩
    ·have hki:¬(k:Int)<(m2:Int):=by omega
     have HK:Hid (eqL eqCond a.conds b.conds=true):=by
      have h:=HE.out
      have h1:=HEL.out.1.2.1
      have h2:=HEL.out.2.2.1
      rw[List.take_of_length_le (by omega),List.take_of_length_le (by omega)] at h
      exact h
     go_wp2_with fail
     go_meet
     case rel=>exact⟨HK.out,_,rfl⟩
  case rest=>
   obtain⟨he,d,rfl⟩:=hcut
   have HQ2:=Lib.hid he
   clear he
   go_upto_block 4 with fail
   go_cut [7] (fun _ w=>eqL eqItem a.items b.items=true∧∃d,w=W1.drewN d)
   case first=>
    go_wp2_with fail
    go_loopg [7] m3 (fun n iv w=>∃k:Nat,iv=.int .i64 (k:Int)∧k+n=m3∧eqL eqItem (a.items.take k) (b.items.take k)=true∧∃d,w=W1.drewN d)
    case atStart=>exact⟨0,rfl,by omega,rfl,d,rfl⟩
    case round=>
     obtain⟨k,rfl,hk,he,d,rfl⟩:=hrel
     have HE:=Lib.hid he
     clear he
     by_cases hlt:k<m3
     ·have hlt1:k<a.items.length:=by have:=HEL.out.1.2.2.1;omega
      have hlt2:k<b.items.length:=by have:=HEL.out.2.2.2.1;omega
      obtain⟨g,o,rfl,ca⟩:=sees_at (l:=a.items) fItem (fun _=>rfl) (show Sees W 2 (.slice a3 a.items.length k3) a.items.length _ from by rw[HEL.out.1.2.2.1];have h:=HA.out.rt;rw[HEL.out.1.2.2.1] at h;exact h) hlt1
      obtain⟨g',o',rfl,cb⟩:=sees_at (l:=b.items) fItem (fun _=>rfl) (show Sees W 2 (.slice b3 b.items.length l3) b.items.length _ from by rw[HEL.out.2.2.2.1];have h:=HB.out.rt;rw[HEL.out.2.2.2.1] at h;exact h) hlt2
      have HD:Hid (eqItem a.items[k] b.items[k]=false→eqL eqItem a.items b.items=false):=eqL_diff eqItem hlt1 hlt2
      have HN:Hid (eqItem a.items[k] b.items[k]=true→eqL eqItem (a.items.take (k+1)) (b.items.take (k+1))=true):=eqL_next eqItem hlt1 hlt2 HE.out
      obtain⟨p,hp⟩:∃p,a.items[k]=p:=⟨_,rfl⟩
      obtain⟨r,hr⟩:∃r,b.items[k]=r:=⟨_,rfl⟩
      rw[hp] at ca HD HN
      rw[hr] at cb HD HN
      clear hp hr
      obtain⟨p0,p1⟩:=p
      obtain⟨r0,r1⟩:=r
      have u0:W1.cell? ⟨g,o+k*2,none⟩=some (.string p0):=(H0.out.1.cell (block_lt_of_cell (ca 0 (by decide)))).trans (ca 0 (by decide))
      have v0:W1.cell? ⟨g',o'+k*2,none⟩=some (.string r0):=(H0.out.1.cell (block_lt_of_cell (cb 0 (by decide)))).trans (cb 0 (by decide))
      have u1:W1.cell? ⟨g,o+k*2+1,none⟩=some (.string p1):=(H0.out.1.cell (block_lt_of_cell (ca 1 (by decide)))).trans (ca 1 (by decide))
      have v1:W1.cell? ⟨g',o'+k*2+1,none⟩=some (.string r1):=(H0.out.1.cell (block_lt_of_cell (cb 1 (by decide)))).trans (cb 1 (by decide))
      have hki:(k:Int)<(m3:Int):=by omega
      clear ca cb hlt hlt1 hlt2
      by_cases e0:p0≠r0
      ·have hne:(p0.toList==r0.toList)=false:=toList_ne e0
       clear e0 HD HN
       go_wp2_with fail
       go_quiet (fail)
       go_wp2_with fail
       (try simp only[Exit.inBlock,Exit.then])
       refine bodyPost_ret (v:=.bool false) ?_ rfl ⟨rfl,below_drewN (below_drewN H0.out.1 _) _⟩
       simp[results,Tryz.results16,go_sem]
      rw[ne_eq,Classical.not_not] at e0
      subst e0
      by_cases e1:p1≠r1
      ·have hne:(p1.toList==r1.toList)=false:=toList_ne e1
       clear e1 HD HN
       go_wp2_with fail
       go_quiet (fail)
       go_wp2_with fail
       (try simp only[Exit.inBlock,Exit.then])
       refine bodyPost_ret (v:=.bool false) ?_ rfl ⟨rfl,below_drewN (below_drewN H0.out.1 _) _⟩
       simp[results,Tryz.results16,go_sem]
      rw[ne_eq,Classical.not_not] at e1
      subst e1
      have HQ:=Lib.hid (HN.out (Pure.eqItem_iff.2 rfl))
      clear HD HN
      go_wp2_with fail
      go_quiet (fail)
      go_wp2_with fail
      go_roundg (gk - 1)
      case measure=>omega
      case rel=>exact⟨k+1,by simp,by omega,HQ.out,d+nq,by first|rfl|exact drew_drew _ _ _⟩
     ·have hki:¬(k:Int)<(m3:Int):=by omega
      have HK:Hid (eqL eqItem a.items b.items=true):=by
       have h:=HE.out
       have h1:=HEL.out.1.2.2.1
       have h2:=HEL.out.2.2.2.1
       rw[List.take_of_length_le (by omega),List.take_of_length_le (by omega)] at h
       exact h
      go_wp2_with fail
      go_meet
      case rel=>exact⟨HK.out,_,rfl⟩
   case rest=>
    obtain⟨he,d,rfl⟩:=hcut
    have HQ3:=Lib.hid he
    clear he
    go_upto_block 6 with fail
    go_cut [8] (fun _ w=>eqL eqPair a.pairs b.pairs=true∧∃d,w=W1.drewN d)
    case first=>
     go_wp2_with fail
     go_loopg [8] m4 (fun n iv w=>∃k:Nat,iv=.int .i64 (k:Int)∧k+n=m4∧eqL eqPair (a.pairs.take k) (b.pairs.take k)=true∧∃d,w=W1.drewN d)
     case atStart=>exact⟨0,rfl,by omega,rfl,d,rfl⟩
     case round=>
      obtain⟨k,rfl,hk,he,d,rfl⟩:=hrel
      have HE:=Lib.hid he
      clear he
      by_cases hlt:k<m4
      ·have hlt1:k<a.pairs.length:=by have:=HEL.out.1.2.2.2;omega
       have hlt2:k<b.pairs.length:=by have:=HEL.out.2.2.2.2;omega
       obtain⟨g,o,rfl,ca⟩:=sees_at (l:=a.pairs) fPair (fun _=>rfl) (show Sees W 2 (.slice a4 a.pairs.length k4) a.pairs.length _ from by rw[HEL.out.1.2.2.2];have h:=HA.out.rp;rw[HEL.out.1.2.2.2] at h;exact h) hlt1
       obtain⟨g',o',rfl,cb⟩:=sees_at (l:=b.pairs) fPair (fun _=>rfl) (show Sees W 2 (.slice b4 b.pairs.length l4) b.pairs.length _ from by rw[HEL.out.2.2.2.2];have h:=HB.out.rp;rw[HEL.out.2.2.2.2] at h;exact h) hlt2
       have HD:Hid (eqPair a.pairs[k] b.pairs[k]=false→eqL eqPair a.pairs b.pairs=false):=eqL_diff eqPair hlt1 hlt2
       have HN:Hid (eqPair a.pairs[k] b.pairs[k]=true→eqL eqPair (a.pairs.take (k+1)) (b.pairs.take (k+1))=true):=eqL_next eqPair hlt1 hlt2 HE.out
       obtain⟨p,hp⟩:∃p,a.pairs[k]=p:=⟨_,rfl⟩
       obtain⟨r,hr⟩:∃r,b.pairs[k]=r:=⟨_,rfl⟩
       rw[hp] at ca HD HN
       rw[hr] at cb HD HN
       clear hp hr
       obtain⟨p0,p1⟩:=p
       obtain⟨r0,r1⟩:=r
       have u0:W1.cell? ⟨g,o+k*2,none⟩=some (.string p0):=(H0.out.1.cell (block_lt_of_cell (ca 0 (by decide)))).trans (ca 0 (by decide))
       have v0:W1.cell? ⟨g',o'+k*2,none⟩=some (.string r0):=(H0.out.1.cell (block_lt_of_cell (cb 0 (by decide)))).trans (cb 0 (by decide))
       have u1:W1.cell? ⟨g,o+k*2+1,none⟩=some (.int .i64 p1):=(H0.out.1.cell (block_lt_of_cell (ca 1 (by decide)))).trans (ca 1 (by decide))
       have v1:W1.cell? ⟨g',o'+k*2+1,none⟩=some (.int .i64 r1):=(H0.out.1.cell (block_lt_of_cell (cb 1 (by decide)))).trans (cb 1 (by decide))
       have hki:(k:Int)<(m4:Int):=by omega
       clear ca cb hlt hlt1 hlt2
       by_cases e0:p0≠r0
       ·have hne:(p0.toList==r0.toList)=false:=toList_ne e0
        clear e0 HD HN
        go_wp2_with fail
        go_quiet (fail)
        go_wp2_with fail
        (try simp only[Exit.inBlock,Exit.then])
        refine bodyPost_ret (v:=.bool false) ?_ rfl ⟨rfl,below_drewN (below_drewN H0.out.1 _) _⟩
        simp[results,Tryz.results16,go_sem]
       rw[ne_eq,Classical.not_not] at e0
       subst e0
       by_cases e1:p1≠r1
       ·have hne:(p1==r1)=false:=by simpa using e1
        clear e1 HD HN
        go_wp2_with fail
        go_quiet (fail)
        go_wp2_with fail
        (try simp only[Exit.inBlock,Exit.then])
        refine bodyPost_ret (v:=.bool false) ?_ rfl ⟨rfl,below_drewN (below_drewN H0.out.1 _) _⟩
        simp[results,Tryz.results16,go_sem]
       rw[ne_eq,Classical.not_not] at e1
       subst e1
       have HQ:=Lib.hid (HN.out (Pure.eqPair_iff.2 rfl))
       clear HD HN
       go_wp2_with fail
       go_quiet (fail)
       go_wp2_with fail
       go_roundg (gk - 1)
       case measure=>omega
       case rel=>exact⟨k+1,by simp,by omega,HQ.out,d+nq,by first|rfl|exact drew_drew _ _ _⟩
      ·have hki:¬(k:Int)<(m4:Int):=by omega
       have HK:Hid (eqL eqPair a.pairs b.pairs=true):=by
        have h:=HE.out
        have h1:=HEL.out.1.2.2.2
        have h2:=HEL.out.2.2.2.2
        rw[List.take_of_length_le (by omega),List.take_of_length_le (by omega)] at h
        exact h
       go_wp2_with fail
       go_meet
       case rel=>exact⟨HK.out,_,rfl⟩
    case rest=>
     obtain⟨he,d,rfl⟩:=hcut
     have HQ4:=Lib.hid he
     clear he
     exact absurd HQ4.out (HNE.out HQ1.out HQ2.out HQ3.out)
end Go.Proofs.YtobgbmfpicmpcaaGreatDoor

