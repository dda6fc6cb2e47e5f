/- The reference's Same, of two queries whose lists are the same. -/
import Derived.Test.YtobgbmfpicmpcaaGreatDoorC15
import Derived.Test.YtobgbmfpicmpcaaGreatDoorC07
import Derived.Test.YtobgbmfpicmpcaaGreatDoorC11
namespace Go.Proofs.YtobgbmfpicmpcaaGreatDoor
open Go.RowKit
set_option maxRecDepth 100000 in
set_option maxHeartbeats 9000000 in
theorem refSameG3 {W:World} {sp:List PSpot} {co:List PCond} {it:List PItem} {pa:List PPair} {kd:Int} {od:Int} {dn:Bool} {sk:Int} {li:Int} {nm:ByteArray} {ke:ByteArray} {vn:ByteArray} {vk:ByteArray} {vv:Int} {ty:ByteArray} {tt:ByteArray} {la:ByteArray} {vn':ByteArray} {vk':ByteArray} {vv':Int} {ty':ByteArray} {tt':ByteArray} {la':ByteArray} {a1 a2 a3 a4 b1 b2 b3 b4:Option Addr} {m1 m2 m3 m4 k1 k2 k3 k4 l1 l2 l3 l4:Nat}
  (ha:QSees W ⟨kd,sp,co,it,od,dn,sk,li,nm,ke,⟨vn,vk,vv⟩,ty,tt,la,pa⟩ (.slice a1 m1 k1) (.slice a2 m2 k2) (.slice a3 m3 k3) (.slice a4 m4 k4)) (hb:QSees W ⟨kd,sp,co,it,od,dn,sk,li,nm,ke,⟨vn',vk',vv'⟩,ty',tt',la',pa⟩ (.slice b1 m1 l1) (.slice b2 m2 l2) (.slice b3 m3 l3) (.slice b4 m4 l4)) (e1:sp.length=m1) (e2:co.length=m2) (e3:it.length=m3) (e4:pa.length=m4) (s1:m1≤4000000) (s2:m2≤4000000) (s3:m3≤4000000) (s4:m4≤4000000) (hne:vn≠vn'∨vk≠vk'∨vv≠vv'):
  Calls Tryz.prog 16 #[.agg (qC ⟨kd,sp,co,it,od,dn,sk,li,nm,ke,⟨vn,vk,vv⟩,ty,tt,la,pa⟩ (.slice a1 m1 k1) (.slice a2 m2 k2) (.slice a3 m3 k3) (.slice a4 m4 k4)),.agg (qC ⟨kd,sp,co,it,od,dn,sk,li,nm,ke,⟨vn',vk',vv'⟩,ty',tt',la',pa⟩ (.slice b1 m1 l1) (.slice b2 m2 l2) (.slice b3 m3 l3) (.slice b4 m4 l4))] W fun e W'=>e=.returned (.bool false)∧Below W.heap.size W W':=by
 have HNE:=Lib.hid hne
 clear hne
 have HA:=Lib.hid ha
 have HB:=Lib.hid hb
 have HEL:=Lib.hid (And.intro e1 (And.intro e2 (And.intro e3 e4)))
 clear ha hb e1 e2 e3 e4
 have f1:((m1:Int) != (m1:Int))=false:=by simp
 have f2:((m2:Int) != (m2:Int))=false:=by simp
 have f3:((m3:Int) != (m3:Int))=false:=by simp
 have f4:((m4:Int) != (m4:Int))=false:=by simp
 go_enter Tryz.func16,Tryz.ntmps16
 go_upto_region 1 with fail
 obtain⟨X,hX⟩:∃X,X=W.heap.size:=⟨_,rfl⟩
 obtain⟨Y,hY⟩:∃Y,Y=W.heap.size+1:=⟨_,rfl⟩
 have H0:Hid (Below W.heap.size W ((W.alloc (.cells (qC ⟨kd,sp,co,it,od,dn,sk,li,nm,ke,⟨vn,vk,vv⟩,ty,tt,la,pa⟩ (.slice a1 m1 k1) (.slice a2 m2 k2) (.slice a3 m3 k3) (.slice a4 m4 k4)) 29)).alloc (.cells (qC ⟨kd,sp,co,it,od,dn,sk,li,nm,ke,⟨vn',vk',vv'⟩,ty',tt',la',pa⟩ (.slice b1 m1 l1) (.slice b2 m2 l2) (.slice b3 m3 l3) (.slice b4 m4 l4)) 29))∧Loc ((W.alloc (.cells (qC ⟨kd,sp,co,it,od,dn,sk,li,nm,ke,⟨vn,vk,vv⟩,ty,tt,la,pa⟩ (.slice a1 m1 k1) (.slice a2 m2 k2) (.slice a3 m3 k3) (.slice a4 m4 k4)) 29)).alloc (.cells (qC ⟨kd,sp,co,it,od,dn,sk,li,nm,ke,⟨vn',vk',vv'⟩,ty',tt',la',pa⟩ (.slice b1 m1 l1) (.slice b2 m2 l2) (.slice b3 m3 l3) (.slice b4 m4 l4)) 29)) X (qC ⟨kd,sp,co,it,od,dn,sk,li,nm,ke,⟨vn,vk,vv⟩,ty,tt,la,pa⟩ (.slice a1 m1 k1) (.slice a2 m2 k2) (.slice a3 m3 k3) (.slice a4 m4 k4)) 29∧Loc ((W.alloc (.cells (qC ⟨kd,sp,co,it,od,dn,sk,li,nm,ke,⟨vn,vk,vv⟩,ty,tt,la,pa⟩ (.slice a1 m1 k1) (.slice a2 m2 k2) (.slice a3 m3 k3) (.slice a4 m4 k4)) 29)).alloc (.cells (qC ⟨kd,sp,co,it,od,dn,sk,li,nm,ke,⟨vn',vk',vv'⟩,ty',tt',la',pa⟩ (.slice b1 m1 l1) (.slice b2 m2 l2) (.slice b3 m3 l3) (.slice b4 m4 l4)) 29)) Y (qC ⟨kd,sp,co,it,od,dn,sk,li,nm,ke,⟨vn',vk',vv'⟩,ty',tt',la',pa⟩ (.slice b1 m1 l1) (.slice b2 m2 l2) (.slice b3 m3 l3) (.slice b4 m4 l4)) 29):=by
  have hs:=size_alloc W (.cells (qC ⟨kd,sp,co,it,od,dn,sk,li,nm,ke,⟨vn,vk,vv⟩,ty,tt,la,pa⟩ (.slice a1 m1 k1) (.slice a2 m2 k2) (.slice a3 m3 k3) (.slice a4 m4 k4)) 29)
  refine⟨Below.alloc (Below.alloc (Below.refl _ _) (Nat.le_refl _) _) (by omega) _,?_,?_⟩
  ·rw[hX];exact(Loc.new W _ _).alloc _
  ·rw[hY,←hs];exact Loc.new _ _ _
 rw[←hY,←hX]
 clear hX hY
 generalize (W.alloc (.cells (qC ⟨kd,sp,co,it,od,dn,sk,li,nm,ke,⟨vn,vk,vv⟩,ty,tt,la,pa⟩ (.slice a1 m1 k1) (.slice a2 m2 k2) (.slice a3 m3 k3) (.slice a4 m4 k4)) 29)).alloc (.cells (qC ⟨kd,sp,co,it,od,dn,sk,li,nm,ke,⟨vn',vk',vv'⟩,ty',tt',la',pa⟩ (.slice b1 m1 l1) (.slice b2 m2 l2) (.slice b3 m3 l3) (.slice b4 m4 l4)) 29)=W1 at H0⊢
 have x1:=H0.out.2.1.at_ 1 (.slice a1 m1 k1) rfl
 have y1:=H0.out.2.2.at_ 1 (.slice b1 m1 l1) rfl
 have x2:=H0.out.2.1.at_ 2 (.slice a2 m2 k2) rfl
 have y2:=H0.out.2.2.at_ 2 (.slice b2 m2 l2) rfl
 have x3:=H0.out.2.1.at_ 3 (.slice a3 m3 k3) rfl
 have y3:=H0.out.2.2.at_ 3 (.slice b3 m3 l3) rfl
 have x16:=H0.out.2.1.at_ 16 (.slice a4 m4 k4) rfl
 have y16:=H0.out.2.2.at_ 16 (.slice b4 m4 l4) rfl
 go_upto_block 0 with fail
 go_cut [5] (fun _ w=>∃d,w=W1.drewN d)
 case first=>
  go_wp2_with fail
  go_loopg [5] m1 (fun n iv w=>∃k:Nat,iv=.int .i64 (k:Int)∧k+n=m1∧∃d,w=W1.drewN d)
  case atStart=>exact⟨0,rfl,by omega,0,rfl⟩
  case round=>
   obtain⟨k,rfl,hk,d,rfl⟩:=hrel
   by_cases hlt:k<m1
   ·have hlt1:k<sp.length:=by have:=HEL.out.1;omega
    obtain⟨g,o,rfl,ca⟩:=sees_at (l:=sp) fSpot (fun _=>rfl) (show Sees W 5 (.slice a1 sp.length k1) sp.length _ from by rw[HEL.out.1];have h:=HA.out.rs;simp only at h;rw[HEL.out.1] at h;exact h) hlt1
    obtain⟨g',o',rfl,cb⟩:=sees_at (l:=sp) fSpot (fun _=>rfl) (show Sees W 5 (.slice b1 sp.length l1) sp.length _ from by rw[HEL.out.1];have h:=HB.out.rs;simp only at h;rw[HEL.out.1] at h;exact h) hlt1
    obtain⟨p,hp⟩:∃p,sp[k]=p:=⟨_,rfl⟩
    rw[hp] at ca cb
    clear hp
    obtain⟨p0,p1,p2,p3,p4⟩:=p
    have u0:W1.cell? ⟨g,o+k*5,none⟩=some (.string p0):=(H0.out.1.cell (block_lt_of_cell (ca 0 (by decide)))).trans (ca 0 (by decide))
    have v0:W1.cell? ⟨g',o'+k*5,none⟩=some (.string p0):=(H0.out.1.cell (block_lt_of_cell (cb 0 (by decide)))).trans (cb 0 (by decide))
    have u1:W1.cell? ⟨g,o+k*5+1,none⟩=some (.string p1):=(H0.out.1.cell (block_lt_of_cell (ca 1 (by decide)))).trans (ca 1 (by decide))
    have v1:W1.cell? ⟨g',o'+k*5+1,none⟩=some (.string p1):=(H0.out.1.cell (block_lt_of_cell (cb 1 (by decide)))).trans (cb 1 (by decide))
    have u2:W1.cell? ⟨g,o+k*5+2,none⟩=some (.string p2):=(H0.out.1.cell (block_lt_of_cell (ca 2 (by decide)))).trans (ca 2 (by decide))
    have v2:W1.cell? ⟨g',o'+k*5+2,none⟩=some (.string p2):=(H0.out.1.cell (block_lt_of_cell (cb 2 (by decide)))).trans (cb 2 (by decide))
    have u3:W1.cell? ⟨g,o+k*5+3,none⟩=some (.int .i64 p3):=(H0.out.1.cell (block_lt_of_cell (ca 3 (by decide)))).trans (ca 3 (by decide))
    have v3:W1.cell? ⟨g',o'+k*5+3,none⟩=some (.int .i64 p3):=(H0.out.1.cell (block_lt_of_cell (cb 3 (by decide)))).trans (cb 3 (by decide))
    have u4:W1.cell? ⟨g,o+k*5+4,none⟩=some (.int .i64 p4):=(H0.out.1.cell (block_lt_of_cell (ca 4 (by decide)))).trans (ca 4 (by decide))
    have v4:W1.cell? ⟨g',o'+k*5+4,none⟩=some (.int .i64 p4):=(H0.out.1.cell (block_lt_of_cell (cb 4 (by decide)))).trans (cb 4 (by decide))
    have hki:(k:Int)<(m1:Int):=by omega
    clear ca cb hlt hlt1
    go_wp2_with fail
    go_quiet (fail)
    go_wp2_with fail
    go_roundg (gk - 1)
    case measure=>omega
    case rel=>exact⟨k+1,by simp,by omega,d+nq,by first|rfl|exact drew_drew _ _ _⟩
   ·have hki:¬(k:Int)<(m1:Int):=by omega
    go_wp2_with fail
    go_meet
    case rel=>exact⟨_,rfl⟩
 case rest=>
  obtain⟨d,rfl⟩:=hcut
  go_upto_block 2 with fail
  go_cut [6] (fun _ w=>∃d,w=W1.drewN d)
  case first=>
   go_wp2_with fail
   go_loopg [6] m2 (fun n iv w=>∃k:Nat,iv=.int .i64 (k:Int)∧k+n=m2∧∃d,w=W1.drewN d)
   case atStart=>exact⟨0,rfl,by omega,d,rfl⟩
   case round=>
    obtain⟨k,rfl,hk,d,rfl⟩:=hrel
    by_cases hlt:k<m2
    ·have hlt1:k<co.length:=by have:=HEL.out.2.1;omega
     obtain⟨g,o,rfl,ca⟩:=sees_at (l:=co) fCond (fun _=>rfl) (show Sees W 7 (.slice a2 co.length k2) co.length _ from by rw[HEL.out.2.1];have h:=HA.out.rc;simp only at h;rw[HEL.out.2.1] at h;exact h) hlt1
     obtain⟨g',o',rfl,cb⟩:=sees_at (l:=co) fCond (fun _=>rfl) (show Sees W 7 (.slice b2 co.length l2) co.length _ from by rw[HEL.out.2.1];have h:=HB.out.rc;simp only at h;rw[HEL.out.2.1] at h;exact h) hlt1
     obtain⟨p,hp⟩:∃p,co[k]=p:=⟨_,rfl⟩
     rw[hp] at ca cb
     clear hp
     obtain⟨p0,⟨p1,p2,p3⟩,⟨p4,p5,p6⟩⟩:=p
     have u0:W1.cell? ⟨g,o+k*7,none⟩=some (.int .i64 p0):=(H0.out.1.cell (block_lt_of_cell (ca 0 (by decide)))).trans (ca 0 (by decide))
     have v0:W1.cell? ⟨g',o'+k*7,none⟩=some (.int .i64 p0):=(H0.out.1.cell (block_lt_of_cell (cb 0 (by decide)))).trans (cb 0 (by decide))
     have u1:W1.cell? ⟨g,o+k*7+1,none⟩=some (.string p1):=(H0.out.1.cell (block_lt_of_cell (ca 1 (by decide)))).trans (ca 1 (by decide))
     have v1:W1.cell? ⟨g',o'+k*7+1,none⟩=some (.string p1):=(H0.out.1.cell (block_lt_of_cell (cb 1 (by decide)))).trans (cb 1 (by decide))
     have u2:W1.cell? ⟨g,o+k*7+2,none⟩=some (.string p2):=(H0.out.1.cell (block_lt_of_cell (ca 2 (by decide)))).trans (ca 2 (by decide))
     have v2:W1.cell? ⟨g',o'+k*7+2,none⟩=some (.string p2):=(H0.out.1.cell (block_lt_of_cell (cb 2 (by decide)))).trans (cb 2 (by decide))
     have u3:W1.cell? ⟨g,o+k*7+3,none⟩=some (.int .i64 p3):=(H0.out.1.cell (block_lt_of_cell (ca 3 (by decide)))).trans (ca 3 (by decide))
     have v3:W1.cell? ⟨g',o'+k*7+3,none⟩=some (.int .i64 p3):=(H0.out.1.cell (block_lt_of_cell (cb 3 (by decide)))).trans (cb 3 (by decide))
     have u4:W1.cell? ⟨g,o+k*7+4,none⟩=some (.string p4):=(H0.out.1.cell (block_lt_of_cell (ca 4 (by decide)))).trans (ca 4 (by decide))
     have v4:W1.cell? ⟨g',o'+k*7+4,none⟩=some (.string p4):=(H0.out.1.cell (block_lt_of_cell (cb 4 (by decide)))).trans (cb 4 (by decide))
     have u5:W1.cell? ⟨g,o+k*7+5,none⟩=some (.string p5):=(H0.out.1.cell (block_lt_of_cell (ca 5 (by decide)))).trans (ca 5 (by decide))
     have v5:W1.cell? ⟨g',o'+k*7+5,none⟩=some (.string p5):=(H0.out.1.cell (block_lt_of_cell (cb 5 (by decide)))).trans (cb 5 (by decide))
     have u6:W1.cell? ⟨g,o+k*7+6,none⟩=some (.int .i64 p6):=(H0.out.1.cell (block_lt_of_cell (ca 6 (by decide)))).trans (ca 6 (by decide))
     have v6:W1.cell? ⟨g',o'+k*7+6,none⟩=some (.int .i64 p6):=(H0.out.1.cell (block_lt_of_cell (cb 6 (by decide)))).trans (cb 6 (by decide))
     have hki:(k:Int)<(m2:Int):=by omega
     clear ca cb hlt hlt1
     go_wp2_with fail
     go_quiet (fail)
     go_wp2_with fail
     go_roundg (gk - 1)
     case measure=>omega
     case rel=>exact⟨k+1,by simp,by omega,d+nq,by first|rfl|exact drew_drew _ _ _⟩
    ·have hki:¬(k:Int)<(m2:Int):=by omega
     go_wp2_with fail
     go_meet
     case rel=>exact⟨_,rfl⟩
  case rest=>
   obtain⟨d,rfl⟩:=hcut
   go_upto_block 4 with fail
   go_cut [7] (fun _ w=>∃d,w=W1.drewN d)
   case first=>
    go_wp2_with fail
    go_loopg [7] m3 (fun n iv w=>∃k:Nat,iv=.int .i64 (k:Int)∧k+n=m3∧∃d,w=W1.drewN d)
    case atStart=>exact⟨0,rfl,by omega,d,rfl⟩
    case round=>
     obtain⟨k,rfl,hk,d,rfl⟩:=hrel
     by_cases hlt:k<m3
     ·have hlt1:k<it.length:=by have:=HEL.out.2.2.1;omega
      obtain⟨g,o,rfl,ca⟩:=sees_at (l:=it) fItem (fun _=>rfl) (show Sees W 2 (.slice a3 it.length k3) it.length _ from by rw[HEL.out.2.2.1];have h:=HA.out.rt;simp only at h;rw[HEL.out.2.2.1] at h;exact h) hlt1
      obtain⟨g',o',rfl,cb⟩:=sees_at (l:=it) fItem (fun _=>rfl) (show Sees W 2 (.slice b3 it.length l3) it.length _ from by rw[HEL.out.2.2.1];have h:=HB.out.rt;simp only at h;rw[HEL.out.2.2.1] at h;exact h) hlt1
      obtain⟨p,hp⟩:∃p,it[k]=p:=⟨_,rfl⟩
      rw[hp] at ca cb
      clear hp
      obtain⟨p0,p1⟩:=p
      have u0:W1.cell? ⟨g,o+k*2,none⟩=some (.string p0):=(H0.out.1.cell (block_lt_of_cell (ca 0 (by decide)))).trans (ca 0 (by decide))
      have v0:W1.cell? ⟨g',o'+k*2,none⟩=some (.string p0):=(H0.out.1.cell (block_lt_of_cell (cb 0 (by decide)))).trans (cb 0 (by decide))
      have u1:W1.cell? ⟨g,o+k*2+1,none⟩=some (.string p1):=(H0.out.1.cell (block_lt_of_cell (ca 1 (by decide)))).trans (ca 1 (by decide))
      have v1:W1.cell? ⟨g',o'+k*2+1,none⟩=some (.string p1):=(H0.out.1.cell (block_lt_of_cell (cb 1 (by decide)))).trans (cb 1 (by decide))
      have hki:(k:Int)<(m3:Int):=by omega
      clear ca cb hlt hlt1
      go_wp2_with fail
      go_quiet (fail)
      go_wp2_with fail
      go_roundg (gk - 1)
      case measure=>omega
      case rel=>exact⟨k+1,by simp,by omega,d+nq,by first|rfl|exact drew_drew _ _ _⟩
     ·have hki:¬(k:Int)<(m3:Int):=by omega
      go_wp2_with fail
      go_meet
      case rel=>exact⟨_,rfl⟩
   case rest=>
    obtain⟨d,rfl⟩:=hcut
    go_upto_block 6 with fail
    go_cut [8] (fun _ w=>∃d,w=W1.drewN d)
    case first=>
     go_wp2_with fail
     go_loopg [8] m4 (fun n iv w=>∃k:Nat,iv=.int .i64 (k:Int)∧k+n=m4∧∃d,w=W1.drewN d)
     case atStart=>exact⟨0,rfl,by omega,d,rfl⟩
     case round=>
      obtain⟨k,rfl,hk,d,rfl⟩:=hrel
      by_cases hlt:k<m4
      ·have hlt1:k<pa.length:=by have:=HEL.out.2.2.2;omega
       obtain⟨g,o,rfl,ca⟩:=sees_at (l:=pa) fPair (fun _=>rfl) (show Sees W 2 (.slice a4 pa.length k4) pa.length _ from by rw[HEL.out.2.2.2];have h:=HA.out.rp;simp only at h;rw[HEL.out.2.2.2] at h;exact h) hlt1
       obtain⟨g',o',rfl,cb⟩:=sees_at (l:=pa) fPair (fun _=>rfl) (show Sees W 2 (.slice b4 pa.length l4) pa.length _ from by rw[HEL.out.2.2.2];have h:=HB.out.rp;simp only at h;rw[HEL.out.2.2.2] at h;exact h) hlt1
       obtain⟨p,hp⟩:∃p,pa[k]=p:=⟨_,rfl⟩
       rw[hp] at ca cb
       clear hp
       obtain⟨p0,p1⟩:=p
       have u0:W1.cell? ⟨g,o+k*2,none⟩=some (.string p0):=(H0.out.1.cell (block_lt_of_cell (ca 0 (by decide)))).trans (ca 0 (by decide))
       have v0:W1.cell? ⟨g',o'+k*2,none⟩=some (.string p0):=(H0.out.1.cell (block_lt_of_cell (cb 0 (by decide)))).trans (cb 0 (by decide))
       have u1:W1.cell? ⟨g,o+k*2+1,none⟩=some (.int .i64 p1):=(H0.out.1.cell (block_lt_of_cell (ca 1 (by decide)))).trans (ca 1 (by decide))
       have v1:W1.cell? ⟨g',o'+k*2+1,none⟩=some (.int .i64 p1):=(H0.out.1.cell (block_lt_of_cell (cb 1 (by decide)))).trans (cb 1 (by decide))
       have hki:(k:Int)<(m4:Int):=by omega
       clear ca cb hlt hlt1
       go_wp2_with fail
       go_quiet (fail)
       go_wp2_with fail
       go_roundg (gk - 1)
       case measure=>omega
       case rel=>exact⟨k+1,by simp,by omega,d+nq,by first|rfl|exact drew_drew _ _ _⟩
      ·have hki:¬(k:Int)<(m4:Int):=by omega
       go_wp2_with fail
       go_meet
       case rel=>exact⟨_,rfl⟩
    case rest=>
     obtain⟨d,rfl⟩:=hcut
     have x0:=H0.out.2.1.at_ 0 (.int .i64 kd) rfl
     have y0:=H0.out.2.2.at_ 0 (.int .i64 kd) rfl
     have x4:=H0.out.2.1.at_ 4 (.int .i64 od) rfl
     have y4:=H0.out.2.2.at_ 4 (.int .i64 od) rfl
     have x5:=H0.out.2.1.at_ 5 (.bool dn) rfl
     have y5:=H0.out.2.2.at_ 5 (.bool dn) rfl
     have x6:=H0.out.2.1.at_ 6 (.int .i64 sk) rfl
     have y6:=H0.out.2.2.at_ 6 (.int .i64 sk) rfl
     have x7:=H0.out.2.1.at_ 7 (.int .i64 li) rfl
     have y7:=H0.out.2.2.at_ 7 (.int .i64 li) rfl
     have x8:=H0.out.2.1.at_ 8 (.string nm) rfl
     have y8:=H0.out.2.2.at_ 8 (.string nm) rfl
     have x9:=H0.out.2.1.at_ 9 (.string ke) rfl
     have y9:=H0.out.2.2.at_ 9 (.string ke) rfl
     have x10:=H0.out.2.1.at_ 10 (.string vn) rfl
     have y10:=H0.out.2.2.at_ 10 (.string vn') rfl
     have x11:=H0.out.2.1.at_ 11 (.string vk) rfl
     have y11:=H0.out.2.2.at_ 11 (.string vk') rfl
     have x12:=H0.out.2.1.at_ 12 (.int .i64 vv) rfl
     have y12:=H0.out.2.2.at_ 12 (.int .i64 vv') rfl
     have x13:=H0.out.2.1.at_ 13 (.string ty) rfl
     have y13:=H0.out.2.2.at_ 13 (.string ty') rfl
     have x14:=H0.out.2.1.at_ 14 (.string tt) rfl
     have y14:=H0.out.2.2.at_ 14 (.string tt') rfl
     have x15:=H0.out.2.1.at_ 15 (.string la) rfl
     have y15:=H0.out.2.2.at_ 15 (.string la') rfl
     have HL0:=Lib.hid H0.out.1
     clear x1 x2 x3 x16 y1 y2 y3 y16 f1 f2 f3 f4 H0 HA HB HEL
     by_cases e10:vn≠vn'
     ·have hne:(vn.toList==vn'.toList)=false:=toList_ne e10
      clear e10
      go_wp2_with fail
      refine bodyPost_ret (v:=.bool false) ?_ rfl ⟨rfl,below_drewN HL0.out _⟩
      simp[results,Tryz.results16,go_sem]
     rw[ne_eq,Classical.not_not] at e10
     subst e10
     by_cases e11:vk≠vk'
     ·have hne:(vk.toList==vk'.toList)=false:=toList_ne e11
      clear e11
      go_wp2_with fail
      refine bodyPost_ret (v:=.bool false) ?_ rfl ⟨rfl,below_drewN HL0.out _⟩
      simp[results,Tryz.results16,go_sem]
     rw[ne_eq,Classical.not_not] at e11
     subst e11
     have e12:vv≠vv':=by have h:=HNE.out;simp at h;exact h
     have hne:(vv==vv')=false:=by simpa using e12
     clear e12
     go_wp2_with fail
     refine bodyPost_ret (v:=.bool false) ?_ rfl ⟨rfl,below_drewN HL0.out _⟩
     simp[results,Tryz.results16,go_sem]
end Go.Proofs.YtobgbmfpicmpcaaGreatDoor

