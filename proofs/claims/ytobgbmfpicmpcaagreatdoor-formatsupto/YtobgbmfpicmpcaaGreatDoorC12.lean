/- The reference's writer: a match's text. -/
import Derived.Test.YtobgbmfpicmpcaaGreatDoorC07
import Derived.Test.YtobgbmfpicmpcaaGreatDoorC11
import Derived.Lib.QuietBelow
import Derived.Deep.RegionHeld
namespace Go.Proofs.YtobgbmfpicmpcaaGreatDoor
open Go.RowKit Go.Sort
structure RW (W:World) (X:Nat) (cs:Array Value) (w:World):Prop where
 low:Below W.heap.size W w
 lq:Loc w X cs 29
theorem RW.later {W:World} {X:Nat} {cs:Array Value} {w w':World} (h:RW W X cs w) (hb:Below w.heap.size w w'):RW W X cs w':=
 ⟨h.low.trans (hb.mono h.low.size),h.lq.grown (grown_below hb none) (by simp)⟩
theorem RW.alloc {W:World} {X:Nat} {cs:Array Value} {w:World} (h:RW W X cs w) (o:Obj):RW W X cs (w.alloc o):=h.later ((Below.refl _ _).alloc (Nat.le_refl _) _)
theorem RW.drew {W:World} {X:Nat} {cs:Array Value} {w:World} (h:RW W X cs w):RW W X cs w.drew:=⟨⟨h.low.os,h.low.tape,h.low.output,h.low.size,fun k hk=>h.low.block k hk⟩,h.lq.drew 1⟩
structure RCondAt (W:World) (X:Nat) (cs:Array Value) (Z:Nat) (y:PCond) (w:World):Prop where
 rw:RW W X cs w
 at_:Loc w Z #[.int .i64 y.op,.string y.a.name,.string y.a.key,.int .i64 y.a.val,.string y.b.name,.string y.b.key,.int .i64 y.b.val] 87
theorem RCondAt.later {W:World} {X:Nat} {cs:Array Value} {Z:Nat} {y:PCond} {w w':World} (h:RCondAt W X cs Z y w) (hb:Below w.heap.size w w'):RCondAt W X cs Z y w':=
 ⟨h.rw.later hb,h.at_.grown (grown_below hb none) (by simp)⟩
theorem RCondAt.alloc {W:World} {X:Nat} {cs:Array Value} {Z:Nat} {y:PCond} {w:World} {o:Obj} (h:RCondAt W X cs Z y w):RCondAt W X cs Z y (w.alloc o):=⟨h.rw.alloc _,h.at_.alloc _⟩
theorem RCondAt.keeps {W:World} {X:Nat} {cs:Array Value} {Z:Nat} {y:PCond} {w:World} {j:Int} (h:RCondAt W X cs Z y w) (hj:y.op=j):
  w.cell? ⟨Z,0,none⟩=some (.int .i64 j)∧w.cell? ⟨Z,4,none⟩=some (.string y.b.name)∧w.cell? ⟨Z,5,none⟩=some (.string y.b.key)∧w.cell? ⟨Z,6,none⟩=some (.int .i64 y.b.val):=by
 subst hj
 exact⟨(h.at_.cell 0).trans rfl,(h.at_.cell 4).trans rfl,(h.at_.cell 5).trans rfl,(h.at_.cell 6).trans rfl⟩
theorem gatherT_next {α:Type} (f:Bool→α→List UInt8) {l:List α} {k:Nat} (h:k<l.length):gather f true (l.take (k+1))=gather f true (l.take k)++f (decide (k=0)) l[k]:=by
 rw[List.take_succ_eq_append_getElem h,gather_snoc]
 congr 2
 cases k with
 | zero=>rfl
 | succ k=>
  cases l with
  | nil=>simp at h
  | cons a r=>simp
def aheadT (first:Bool) (s:PSpot):List UInt8:=if s.type.toList.isEmpty then (if first then [] else [32,44]) else stepT s
theorem spotT_eq (b:Bool) (s:PSpot):spotT b s=aheadT b s++nodeT s:=rfl
theorem aheadT_len (b:Bool) {s:PSpot} (h:ShortSpot s):(aheadT b s).length≤1048640:=by
 have:=stepT_len h
 unfold aheadT
 split
 ·split<;>simp
 ·exact this
def SpotsText (q:PQuery) (k:Nat):List UInt8:=bl kMATCH++gather spotT true (q.spots.take k)
def CondsText (q:PQuery) (k:Nat):List UInt8:=SpotsText q q.spots.length++gather condT true (q.conds.take k)
def leadT (first:Bool):List UInt8:=if first then [32,87,72,69,82,69,32] else [32,65,78,68,32]
theorem condT_eq (b:Bool) (c:PCond):condT b c=leadT b++termT c.a++opT c:=rfl
theorem matchT_eq (q:PQuery):CondsText q q.conds.length=matchT q:=by
 unfold CondsText SpotsText matchT
 rw[List.take_length,List.take_length]
theorem spotsText_len {q:PQuery} (h:∀s∈q.spots,ShortSpot s) (n:q.spots.length≤6) (k:Nat):(SpotsText q k).length≤20000000:=by
 have:=gatherT_len spotT 3145800 (q.spots.take k) true (fun b x hx=>spotT_len b (h x (List.mem_of_mem_take hx)))
 have h2:(q.spots.take k).length≤6:=by rw[List.length_take];omega
 unfold SpotsText
 rw[List.length_append,bl_len]
 have e:kMATCH.size=5:=rfl
 omega
theorem condsText_len {q:PQuery} (h:∀s∈q.spots,ShortSpot s) (n:q.spots.length≤6) (h2:∀c∈q.conds,ShortCond c) (n2:q.conds.length≤6) (k:Nat):(CondsText q k).length≤50000000:=by
 have:=gatherT_len condT 4194330 (q.conds.take k) true (fun b x hx=>condT_len b (h2 x (List.mem_of_mem_take hx)))
 have:=spotsText_len h n q.spots.length
 have h2:(q.conds.take k).length≤6:=by rw[List.length_take];omega
 unfold CondsText
 rw[List.length_append]
 omega
set_option maxRecDepth 100000 in
set_option maxHeartbeats 16000000 in
theorem matchText_ {W:World} {q:PQuery} {vs vc vi vp:Value} (hq:QSees W q vs vc vi vp) (h1:∀s∈q.spots,ShortSpot s) (h2:∀c∈q.conds,ShortCond c) (n1:q.spots.length≤6) (n2:q.conds.length≤6):
  Calls Tryz.prog 116 #[.agg (qC q vs vc vi vp)] W fun e W'=>e=.returned (.string (B (matchT q)))∧Below W.heap.size W W':=by
 obtain⟨aos,cas,rfl,ks⟩:=sees_slice (l:=q.spots) hq.rs
 obtain⟨aoc,cac,rfl,kc⟩:=sees_slice (l:=q.conds) hq.rc
 obtain⟨aoi,cai,rfl,ki⟩:=sees_slice (l:=q.items) hq.rt
 obtain⟨aop,cap,rfl,kp⟩:=sees_slice (l:=q.pairs) hq.rp
 clear ks kc ki kp
 have HQS:=Lib.hid hq
 have HS:=Lib.hid h1
 have HCS:=Lib.hid h2
 clear hq h1 h2
 have R0:Hid (RW W W.heap.size (qC q (.slice aos q.spots.length cas) (.slice aoc q.conds.length cac) (.slice aoi q.items.length cai) (.slice aop q.pairs.length cap)) (W.alloc (.cells (qC q (.slice aos q.spots.length cas) (.slice aoc q.conds.length cac) (.slice aoi q.items.length cai) (.slice aop q.pairs.length cap)) 29))):=⟨(Below.refl _ _).alloc (Nat.le_refl _) _,Loc.new _ _ _⟩
 go_enter Tryz.func116,Tryz.ntmps116
 go_upto_region 1 with fail
 obtain⟨X,hX⟩:∃X,X=W.heap.size:=⟨_,rfl⟩
 rw[←hX] at R0⊢
 clear hX
 generalize W.alloc (.cells (qC q (.slice aos q.spots.length cas) (.slice aoc q.conds.length cac) (.slice aoi q.items.length cai) (.slice aop q.pairs.length cap)) 29)=W1 at R0⊢
 go_upto_block 0 with fail
 go_cut [3] (fun v w=>v=.string (B (SpotsText q q.spots.length))∧RW W X (qC q (.slice aos q.spots.length cas) (.slice aoc q.conds.length cac) (.slice aoi q.items.length cai) (.slice aop q.pairs.length cap)) w)
 case first=>
  go_wp2_with fail
  go_loopg [3,4] q.spots.length (fun m sv iv w=>∃k:Nat,iv=.int .i64 (k:Int)∧k+m=q.spots.length∧sv=.string (B (SpotsText q k))∧RW W X (qC q (.slice aos q.spots.length cas) (.slice aoc q.conds.length cac) (.slice aoi q.items.length cai) (.slice aop q.pairs.length cap)) w)
  case atStart=>exact⟨0,rfl,by omega,rfl,R0.out⟩
  case round=>
   obtain⟨k,rfl,hk,rfl,hr⟩:=hrel
   have HR:=Lib.hid hr
   clear hr R0
   have cs:=HR.out.lq.at_ 1 (.slice aos q.spots.length cas) rfl
   by_cases hlt:k<q.spots.length
   ·obtain⟨g,o,rfl,hcell⟩:=sees_at (l:=q.spots) fSpot (fun _=>rfl) ((HQS.out.rs).below HR.out.low) hlt
    obtain⟨y,hy⟩:∃y,q.spots[k]=y:=⟨_,rfl⟩
    have hmem:y∈q.spots:=by rw[←hy];exact List.getElem_mem hlt
    rw[hy] at hcell
    have p0:wr.cell? ⟨g,o+k*5,none⟩=some (.string y.name):=hcell 0 (by decide)
    have p1:wr.cell? ⟨g,o+k*5+1,none⟩=some (.string y.label):=hcell 1 (by decide)
    have p2:wr.cell? ⟨g,o+k*5+2,none⟩=some (.string y.type):=hcell 2 (by decide)
    have p3:wr.cell? ⟨g,o+k*5+3,none⟩=some (.int .i64 y.least):=hcell 3 (by decide)
    have p4:wr.cell? ⟨g,o+k*5+4,none⟩=some (.int .i64 y.most):=hcell 4 (by decide)
    have hki:(k:Int)<(q.spots.length:Int):=by omega
    have HNX:Hid (SpotsText q (k+1)=SpotsText q k++spotT (decide (k=0)) y):=by show _=_;unfold SpotsText;rw[gatherT_next spotT hlt,hy];simp only[List.append_assoc]
    have hlen:(B (SpotsText q k)).size≤20000000:=by
     have:=gatherT_len spotT 3145800 (q.spots.take k) true (fun b x hx=>spotT_len b (HS.out x (List.mem_of_mem_take hx)))
     rw[List.length_take_of_le (by omega)] at this
     rw[B_size]
     unfold SpotsText
     rw[List.length_append,bl_len]
     have e:kMATCH.size=5:=rfl
     omega
    have HSY:=Lib.hid (HS.out y hmem)
    obtain⟨os,hos⟩:∃os,B (SpotsText q k)=os:=⟨_,rfl⟩
    rw[hos] at hlen⊢
    have HO:=Lib.hid hos
    have HZ0:=Lib.hid (Loc.new wr #[.string y.name,.string y.label,.string y.type,.int .i64 y.least,.int .i64 y.most] 85)
    have HR0:=Lib.hid (HR.out.alloc (.cells #[.string y.name,.string y.label,.string y.type,.int .i64 y.least,.int .i64 y.most] 85))
    clear hos hcell hy
    go_upto_block 2 with fail
    obtain⟨Z,hZ⟩:∃Z,Z=wr.heap.size:=⟨_,rfl⟩
    rw[←hZ] at HZ0⊢
    clear hZ
    generalize wr.alloc (.cells #[.string y.name,.string y.label,.string y.type,.int .i64 y.least,.int .i64 y.most] 85)=V0 at HZ0 HR0⊢
    clear p0 p1 p2 p3 p4 cs HR
    go_cut [3] (fun v w=>v=.string (os++B (aheadT (decide (k=0)) y))∧RW W X (qC q (.slice (some ⟨g,o,none⟩) q.spots.length cas) (.slice aoc q.conds.length cac) (.slice aoi q.items.length cai) (.slice aop q.pairs.length cap)) w∧Loc w Z #[.string y.name,.string y.label,.string y.type,.int .i64 y.least,.int .i64 y.most] 85)
    case first=>
     have z2:=HZ0.out.at_ 2 (.string y.type) rfl
     have z3:=HZ0.out.at_ 3 (.int .i64 y.least) rfl
     have z4:=HZ0.out.at_ 4 (.int .i64 y.most) rfl
     have hty0:y.type.size≤1048576:=HSY.out.2.2.1
     cases hty:y.type.toList.isEmpty with
     | true=>
      by_cases hk0:k=0
      ·subst hk0
       have HA:Hid (os++B (aheadT (decide (0=0)) y)=os):=by show _=_;unfold aheadT;rw[if_pos hty];apply ByteArray.ext;simp[B,ByteArray.data_append]
       go_wp2_with fail
       go_meet
       exact⟨by rw[HA.out],HR0.out,HZ0.out⟩
      ·have HA:Hid (os++B (aheadT (decide (k=0)) y)=os++⟨#[32,44]⟩):=by show _=_;unfold aheadT;rw[if_pos hty,if_neg (by simpa using hk0)];rfl
       have hk1:0<(k:Int):=by omega
       go_wp2_with fail
       go_meet
       exact⟨by rw[HA.out],HR0.out,HZ0.out⟩
     | false=>
      by_cases hs:y.least=1∧y.most=1
      ·have hb0:(y.least==1)=true:=by rw[hs.1];rfl
       have hb1:(y.most==1)=true:=by rw[hs.2];rfl
       have HA:Hid (os++B (aheadT (decide (k=0)) y)=os++⟨#[32,45,91,32]⟩++y.type++⟨#[32,93,45,62]⟩):=by
        show _=_
        unfold aheadT stepT
        rw[if_neg (by rw[hty];simp),if_pos hs,←B_app,←B_app,B_bl,ByteArray.append_assoc,ByteArray.append_assoc,ByteArray.append_assoc]
        rfl
       clear hs
       go_wp2_with fail
       go_meet
       exact⟨by rw[HA.out],HR0.out,HZ0.out⟩
      ·have HA:Hid (os++B (aheadT (decide (k=0)) y)=os++⟨#[32,45,91,32]⟩++y.type++⟨#[32,42,32]⟩++decB y.least++⟨#[32,46,46,32]⟩++decB y.most++⟨#[32,93,45,62]⟩):=by
        show _=_
        unfold aheadT stepT
        rw[if_neg (by rw[hty];simp),if_neg hs]
        simp only[←B_app,B_bl,ByteArray.append_assoc]
        rfl
       have HLE:=Lib.hid HSY.out.2.2.2.1
       have HMO:=Lib.hid HSY.out.2.2.2.2
       have l1:=dec_size HLE.out
       have l2:=dec_size HMO.out
       have hb:((y.least==1)=true∧(y.most==1)=false)∨(y.least==1)=false:=by
        by_cases h1:y.least=1
        ·left;exact⟨by rw[h1];rfl,by simp;exact fun e=>hs ⟨h1,e⟩⟩
        ·right;simp;exact h1
       have k2:=cell_regrown z2
       have k3:=cell_regrown z3
       have k4:=cell_regrown z4
       have cL:∀d os,Calls Tryz.prog 118 #[.int .i64 y.least] (grow (redrawn V0 d) os) fun e w''=>e=.returned (.string (decB y.least))∧∃p:Regrown,w''=grow (redrawn V0 p.d) p.os:=fun d os=>Calls.regrown_of (decimal_ HLE.out)
       have cM:∀d os,Calls Tryz.prog 118 #[.int .i64 y.most] (grow (redrawn V0 d) os) fun e w''=>e=.returned (.string (decB y.most))∧∃p:Regrown,w''=grow (redrawn V0 p.d) p.os:=fun d os=>Calls.regrown_of (decimal_ HMO.out)
       have n1:¬9223372036854775807<os.size+4:=by omega
       have n2:¬9223372036854775807<os.size+4+y.type.size:=by omega
       have n3:¬9223372036854775807<os.size+4+y.type.size+3:=by omega
       have n4:¬9223372036854775807<os.size+4+y.type.size+3+(decB y.least).size:=by omega
       have n5:¬9223372036854775807<os.size+4+y.type.size+3+(decB y.least).size+4:=by omega
       have n6:¬9223372036854775807<os.size+4+y.type.size+3+(decB y.least).size+4+(decB y.most).size:=by omega
       have n7:¬9223372036854775807<os.size+4+y.type.size+3+(decB y.least).size+4+(decB y.most).size+4:=by omega
       clear hs
       go_upto_region 8 with fail
       go_cut [30] (fun v w=>v=.bool false∧w=V0)
       case first=>
        rcases hb with ⟨hb0,hb1⟩|hb0
        all_goals
         go_wp2_with fail
         go_meet
         exact⟨rfl,rfl⟩
       case rest=>
        obtain⟨rfl,hw⟩:=hcut
        obtain rfl:=hw.symm
        go_upto_region 11 with fail
        refine wp_region_quiet_below (by kernel_rfl) (by kernel_rfl) ?_
        repeat (quiet_step (first|(go_at_call_of 118 (Value.int IntKind.i64 y.least);exact cL _ _)|exact cM _ _))
        refine wpQuiet_nil ?_
        intro W5 hw5
        have H5:Hid (RW W X (qC q (.slice (some ⟨g,o,none⟩) q.spots.length cas) (.slice aoc q.conds.length cac) (.slice aoi q.items.length cai) (.slice aop q.pairs.length cap)) W5∧Loc W5 Z #[.string y.name,.string y.label,.string y.type,.int .i64 y.least,.int .i64 y.most] 85):=by
         obtain⟨⟨dq,osq⟩,rfl⟩:=hw5
         have hb9:=below_regrown V0 dq osq
         exact⟨HR0.out.later hb9,HZ0.out.grown (grown_below hb9 none) (by simp)⟩
        clear hw5 cL cM k2 k3 k4
        go_wp2_with fail
        go_meet
        exact⟨by rw[HA.out],H5.out.1,H5.out.2⟩
    case rest=>
     obtain⟨rfl,hr,hz⟩:=hcut
     have HR1:=Lib.hid hr
     have hps:(os++B (aheadT (decide (k=0)) y)).size≤22000000:=by
      have:=aheadT_len (decide (k=0)) HSY.out
      rw[ByteArray.size_append,B_size];omega
     have HPS:Hid (os++B (aheadT (decide (k=0)) y)++B (nodeT y)=B (SpotsText q (k+1))):=by
      show _=_
      rw[HNX.out,spotT_eq,←HO.out,B_app,B_app,List.append_assoc]
     obtain⟨ps,hpp⟩:∃ps,os++B (aheadT (decide (k=0)) y)=ps:=⟨_,rfl⟩
     rw[hpp] at hps HPS⊢
     have hn0:y.name.size≤1048576:=HSY.out.1
     have hl0:y.label.size≤1048576:=HSY.out.2.1
     have z0:=hz.at_ 0 (.string y.name) rfl
     have z1:=hz.at_ 1 (.string y.label) rfl
     clear hpp hr hz HZ0 HR0 hlen
     cases hlb:y.label.toList.isEmpty with
     | true=>
      have HA:Hid (ps++B (nodeT y)=ps++⟨#[32,40,32]⟩++y.name++⟨#[32,41]⟩):=by
       show _=_
       unfold nodeT
       rw[if_pos hlb,List.append_nil,←B_app,←B_app,B_bl,ByteArray.append_assoc,ByteArray.append_assoc,ByteArray.append_assoc]
       rfl
      go_wp2_with fail
      go_roundg (gk - 1)
      case measure=>omega
      case rel=>exact⟨k+1,by simp,by omega,by rw[←HPS.out,HA.out],HR1.out⟩
     | false=>
      have HA:Hid (ps++B (nodeT y)=ps++⟨#[32,40,32]⟩++y.name++⟨#[32,58,32]⟩++y.label++⟨#[32,41]⟩):=by
       show _=_
       unfold nodeT
       rw[if_neg (by rw[hlb];simp),←B_app,←B_app,←B_app,←B_app,B_bl,B_bl]
       simp only[ByteArray.append_assoc]
       rfl
      go_wp2_with fail
      go_roundg (gk - 1)
      case measure=>omega
      case rel=>exact⟨k+1,by simp,by omega,by rw[←HPS.out,HA.out],HR1.out⟩
   ·have hki:¬(k:Int)<(q.spots.length:Int):=by omega
    have hkk:k=q.spots.length:=by omega
    have HK:Hid (SpotsText q k=SpotsText q q.spots.length):=by show _=_;rw[hkk]
    clear hkk
    go_wp2_with fail
    go_meet
    exact⟨by rw[HK.out],HR.out⟩
 case rest=>
  obtain⟨rfl,hr⟩:=hcut
  have R1:=Lib.hid hr
  have CT0:Hid (SpotsText q q.spots.length=CondsText q 0):=by show _=_;unfold CondsText;simp[gather]
  clear hr R0
  rw[CT0.out]
  go_wp2_with fail
  go_loopg [3,6] q.conds.length (fun m sv iv w=>∃k:Nat,iv=.int .i64 (k:Int)∧k+m=q.conds.length∧sv=.string (B (CondsText q k))∧RW W X (qC q (.slice aos q.spots.length cas) (.slice aoc q.conds.length cac) (.slice aoi q.items.length cai) (.slice aop q.pairs.length cap)) w)
  case atStart=>exact⟨0,rfl,by omega,rfl,R1.out⟩
  case round=>
   obtain⟨k,rfl,hk,rfl,hr⟩:=hrel
   have HR:=Lib.hid hr
   clear hr R1 CT0
   have cs:=HR.out.lq.at_ 2 (.slice aoc q.conds.length cac) rfl
   by_cases hlt:k<q.conds.length
   ·obtain⟨g,o,rfl,hcell⟩:=sees_at (l:=q.conds) fCond (fun _=>rfl) ((HQS.out.rc).below HR.out.low) hlt
    obtain⟨y,hy⟩:∃y,q.conds[k]=y:=⟨_,rfl⟩
    have hmem:y∈q.conds:=by rw[←hy];exact List.getElem_mem hlt
    rw[hy] at hcell
    have p0:wr.cell? ⟨g,o+k*7,none⟩=some (.int .i64 y.op):=hcell 0 (by decide)
    have p1:wr.cell? ⟨g,o+k*7+1,none⟩=some (.string y.a.name):=hcell 1 (by decide)
    have p2:wr.cell? ⟨g,o+k*7+2,none⟩=some (.string y.a.key):=hcell 2 (by decide)
    have p3:wr.cell? ⟨g,o+k*7+3,none⟩=some (.int .i64 y.a.val):=hcell 3 (by decide)
    have p4:wr.cell? ⟨g,o+k*7+4,none⟩=some (.string y.b.name):=hcell 4 (by decide)
    have p5:wr.cell? ⟨g,o+k*7+5,none⟩=some (.string y.b.key):=hcell 5 (by decide)
    have p6:wr.cell? ⟨g,o+k*7+6,none⟩=some (.int .i64 y.b.val):=hcell 6 (by decide)
    have hki:(k:Int)<(q.conds.length:Int):=by omega
    have HNX:Hid (CondsText q (k+1)=CondsText q k++condT (decide (k=0)) y):=by show _=_;unfold CondsText;rw[gatherT_next condT hlt,hy];simp only[List.append_assoc]
    have hlen:(B (CondsText q k)).size≤50000000:=by rw[B_size];exact condsText_len HS.out n1 HCS.out n2 k
    have HSY:=Lib.hid (HCS.out y hmem)
    obtain⟨os,hos⟩:∃os,B (CondsText q k)=os:=⟨_,rfl⟩
    rw[hos] at hlen⊢
    have HO:=Lib.hid hos
    have HZ0:=Lib.hid (Loc.new wr #[.int .i64 y.op,.string y.a.name,.string y.a.key,.int .i64 y.a.val,.string y.b.name,.string y.b.key,.int .i64 y.b.val] 87)
    have HR0:=Lib.hid (HR.out.alloc (.cells #[.int .i64 y.op,.string y.a.name,.string y.a.key,.int .i64 y.a.val,.string y.b.name,.string y.b.key,.int .i64 y.b.val] 87))
    clear hos hcell hy
    go_upto_if 98 with fail
    obtain⟨Z,hZ⟩:∃Z,Z=wr.heap.size:=⟨_,rfl⟩
    rw[←hZ] at HZ0⊢
    clear hZ
    generalize wr.alloc (.cells #[.int .i64 y.op,.string y.a.name,.string y.a.key,.int .i64 y.a.val,.string y.b.name,.string y.b.key,.int .i64 y.b.val] 87)=V0 at HZ0 HR0⊢
    clear p0 p1 p2 p3 p4 p5 p6 cs HR
    go_cut [3] (fun v w=>v=.string (os++B (leadT (decide (k=0))))∧w=V0)
    case first=>
     by_cases hk0:k=0
     ·subst hk0
      go_wp2_with fail
      go_meet
      exact⟨rfl,rfl⟩
     ·have hk1:((k:Int)==0)=false:=by simp;omega
      have HA:Hid (os++B (leadT (decide (k=0)))=os++⟨#[32,65,78,68,32]⟩):=by show _=_;rw[decide_eq_false hk0];rfl
      go_wp2_with fail
      go_meet
      exact⟨by rw[HA.out],rfl⟩
    case rest=>
     obtain⟨rfl,hw⟩:=hcut
     obtain rfl:=hw.symm
     have hl2:(os++B (leadT (decide (k=0)))).size≤50000010:=by
      rw[ByteArray.size_append,B_size]
      have:(leadT (decide (k=0))).length≤7:=by unfold leadT;split<;>simp
      omega
     have HPS:Hid (os++B (leadT (decide (k=0)))++B (termT y.a)++B (opT y)=B (CondsText q (k+1))):=by
      show _=_
      rw[HNX.out,condT_eq,←HO.out]
      simp only[B_app,List.append_assoc]
     obtain⟨ls,hls⟩:∃ls,os++B (leadT (decide (k=0)))=ls:=⟨_,rfl⟩
     rw[hls] at hl2 HPS⊢
     have z1:=HZ0.out.at_ 1 (.string y.a.name) rfl
     have z2:=HZ0.out.at_ 2 (.string y.a.key) rfl
     have z3:=HZ0.out.at_ 3 (.int .i64 y.a.val) rfl
     clear hls hlen
     go_wp2_with fail
     refine(termText_ (t:=y.a) HSY.out.1.2.2 HSY.out.1.1 HSY.out.1.2.1).mono ?_
     rintro e V1 ⟨rfl,hb1⟩
     have HR1:=Lib.hid (HR0.out.later hb1)
     have HZ1:=Lib.hid (HZ0.out.grown (grown_below hb1 none) (by simp))
     clear hb1 z1 z2 z3 HR0 HZ0
     have hta:(B (termT y.a)).size≤2097155:=by rw[B_size];exact termT_len HSY.out.1
     have hl3:(ls++B (termT y.a)).size≤60000000:=by rw[ByteArray.size_append];omega
     obtain⟨ta,hta'⟩:∃ta,B (termT y.a)=ta:=⟨_,rfl⟩
     rw[hta'] at hta hl3 HPS⊢
     clear hta'
     have z0:=HZ1.out.at_ 0 (.int .i64 y.op) rfl
     go_upto_region 24 with fail
     by_cases h7:y.op=7
     ·have h7b:(y.op==7)=true:=by rw[h7];rfl
      have HA:Hid (ls++ta++B (opT y)=ls++ta++⟨#[32,73,83,32,78,85,76,76]⟩):=by show _=_;unfold opT;rw[if_pos h7];rfl
      have H7:=Lib.hid h7
      clear h7
      go_wp2_with fail
      go_roundg (gk - 1)
      case measure=>omega
      case rel=>exact⟨k+1,by simp,by omega,by rw[←HPS.out,HA.out],HR1.out⟩
     ·have h7b:(y.op==7)=false:=by simpa using h7
      by_cases h8:y.op=8
      ·have h8b:(y.op==8)=true:=by rw[h8];rfl
       have HA:Hid (ls++ta++B (opT y)=ls++ta++⟨#[32,73,83,32,78,79,84,32,78,85,76,76]⟩):=by show _=_;unfold opT;rw[if_neg h7,if_pos h8];rfl
       clear h7 h8
       go_wp2_with fail
       go_roundg (gk - 1)
       case measure=>omega
       case rel=>exact⟨k+1,by simp,by omega,by rw[←HPS.out,HA.out],HR1.out⟩
      ·have h8b:(y.op==8)=false:=by simpa using h8
       by_cases hin:1≤y.op∧y.op≤6
       ·have HA:Hid (ls++ta++B (opT y)=ls++ta++⟨#[32]⟩++markW y.op++⟨#[32]⟩++B (termT y.b)):=by
         show _=_
         unfold opT
         rw[if_neg h7,if_neg h8,if_pos hin]
         simp only[←B_app,B_bl,ByteArray.append_assoc]
         rfl
        have z4:=HZ1.out.at_ 4 (.string y.b.name) rfl
        have z5:=HZ1.out.at_ 5 (.string y.b.key) rfl
        have z6:=HZ1.out.at_ 6 (.int .i64 y.b.val) rfl
        have hi1:1≤y.op:=hin.1
        have hi2:y.op≤6:=hin.2
        have HIN:=Lib.hid hin
        clear h7 h8 hin
        have htb:(B (termT y.b)).size≤2097155:=by rw[B_size];exact termT_len HSY.out.2
        obtain⟨tb,htb'⟩:∃tb,B (termT y.b)=tb:=⟨_,rfl⟩
        rw[htb'] at htb HA
        have HTB:=Lib.hid htb'
        clear htb'
        go_upto_region 29 with fail
        have HK1:Hid (RCondAt W X (qC q (.slice aos q.spots.length cas) (.slice (some ⟨g,o,none⟩) q.conds.length cac) (.slice aoi q.items.length cai) (.slice aop q.pairs.length cap)) Z y V1.drew):=⟨HR1.out.drew,HZ1.out.drew 1⟩
        have HK2:Hid (RCondAt W X (qC q (.slice aos q.spots.length cas) (.slice (some ⟨g,o,none⟩) q.conds.length cac) (.slice aoi q.items.length cai) (.slice aop q.pairs.length cap)) Z y (V1.alloc (.cells #[.string ⟨#[61]⟩,.string ⟨#[60,62]⟩,.string ⟨#[60]⟩,.string ⟨#[60,61]⟩,.string ⟨#[62]⟩,.string ⟨#[62,61]⟩] 9)).drew):=⟨(HR1.out.alloc _).drew,(HZ1.out.alloc _).drew 1⟩
        have HTA:Hid (Loc (V1.alloc (.cells #[.string ⟨#[61]⟩,.string ⟨#[60,62]⟩,.string ⟨#[60]⟩,.string ⟨#[60,61]⟩,.string ⟨#[62]⟩,.string ⟨#[62,61]⟩] 9)).drew V1.heap.size #[.string ⟨#[61]⟩,.string ⟨#[60,62]⟩,.string ⟨#[60]⟩,.string ⟨#[60,61]⟩,.string ⟨#[62]⟩,.string ⟨#[62,61]⟩] 9):=(Loc.new V1 _ _).drew 1
        have n1:¬9223372036854775807<ls.size+ta.size+1:=by omega
        obtain⟨jn,hjn⟩:∃jn,jn=(y.op - 1).toNat:=⟨_,rfl⟩
        have hmk:(markW y.op).size≤2:=markW_len _
        have HTJ:Hid ((#[.string ⟨#[61]⟩,.string ⟨#[60,62]⟩,.string ⟨#[60]⟩,.string ⟨#[60,61]⟩,.string ⟨#[62]⟩,.string ⟨#[62,61]⟩]:Array Value)[jn]?=some (.string (markW y.op))):=by
         show _=_
         rcases (show y.op=1∨y.op=2∨y.op=3∨y.op=4∨y.op=5∨y.op=6 by omega) with h|h|h|h|h|h
         all_goals (rw[hjn,h];rfl)
        obtain⟨mk,hmm⟩:∃mk,mk=markW y.op:=⟨_,rfl⟩
        rw[←hmm] at hmk HTJ HA
        have tj:(#[.string ⟨#[61]⟩,.string ⟨#[60,62]⟩,.string ⟨#[60]⟩,.string ⟨#[60,61]⟩,.string ⟨#[62]⟩,.string ⟨#[62,61]⟩]:Array Value)[jn]?=some (.string mk):=HTJ.out
        have hwr:IntKind.i64.wrap (y.op - 1)=y.op - 1:=by rw[IntKind.wrap_i64];omega
        have hge:0≤y.op - 1:=by omega
        have hl6:y.op - 1<6:=by omega
        have htn:(y.op - 1).toNat=jn:=hjn.symm
        have n2:¬9223372036854775807<ls.size+ta.size+1+mk.size:=by omega
        have n3:¬9223372036854775807<ls.size+ta.size+1+mk.size+1:=by omega
        have n4:¬9223372036854775807<ls.size+ta.size+1+mk.size+1+tb.size:=by omega
        clear z4 z5 z6 HR1 HZ1 z0 hmm hjn
        refine wp_region_held_drew (S:=fun w'=>w'.cell? ⟨Z,0,none⟩=some (.int .i64 y.op)∧w'.cell? ⟨Z,4,none⟩=some (.string y.b.name)∧w'.cell? ⟨Z,5,none⟩=some (.string y.b.key)∧w'.cell? ⟨Z,6,none⟩=some (.int .i64 y.b.val)) (by kernel_rfl) (HK1.out.keeps rfl) (fun hHeld0=>?_)
        refine wpAnyH_take (i:=0) (v:=?v1) rfl (by kernel_rfl) (by kernel_rfl) (by kernel_rfl) (fun _ _ _ h=>h) (Or.inl ⟨by rfl,?y1⟩) (by assumption) ?r1
        case y1=>(intro w hSw;(try dsimp only at hSw);go_simp;(try with_reducible rfl))
        try simp only[Act.put]
        refine wpAnyH_take (i:=1) (v:=?v2) rfl (by kernel_rfl) (by kernel_rfl) (by kernel_rfl) (fun _ _ _ h=>h) (Or.inl ⟨by rfl,?y2⟩) (by assumption) ?r2
        case y2=>(intro w hSw;(try dsimp only at hSw);go_simp;(try with_reducible rfl))
        try simp only[Act.put]
        refine wpAnyH_take (i:=3) (v:=?v3) rfl (by kernel_rfl) (by kernel_rfl) (by kernel_rfl) (fun _ _ _ h=>h) (Or.inl ⟨by rfl,?y3⟩) (by assumption) ?r3
        case y3=>(intro w hSw;(try dsimp only at hSw);go_simp;(try with_reducible rfl))
        try simp only[Act.put]
        refine wpAnyH_take (i:=4) (v:=?v4) rfl (by kernel_rfl) (by kernel_rfl) (by kernel_rfl) (fun _ _ _ h=>h) (Or.inl ⟨by rfl,?y4⟩) (by assumption) ?r4
        case y4=>(intro w hSw;(try dsimp only at hSw);go_simp;(try with_reducible rfl))
        try simp only[Act.put]
        refine wpAnyH_take (i:=5) (v:=?v5) rfl (by kernel_rfl) (by kernel_rfl) (by kernel_rfl) (fun _ _ _ h=>h) (Or.inl ⟨by rfl,?y5⟩) (by assumption) ?r5
        case y5=>(intro w hSw;(try dsimp only at hSw);go_simp;(try with_reducible rfl))
        try simp only[Act.put]
        refine wpAnyH_take (i:=10) (v:=?v6) rfl (by kernel_rfl) (by kernel_rfl) (by kernel_rfl) (fun _ _ _ h=>h) (Or.inl ⟨by rfl,?y6⟩) (by assumption) ?r6
        case y6=>(intro w hSw;(try dsimp only at hSw);go_simp;(try with_reducible rfl))
        try simp only[Act.put]
        refine wpAnyH_take (i:=11) (v:=?v7) rfl (by kernel_rfl) (by kernel_rfl) (by kernel_rfl) (fun _ _ _ h=>h) (Or.inl ⟨by rfl,?y7⟩) (by assumption) ?r7
        case y7=>(intro w hSw;(try dsimp only at hSw);go_simp;(try with_reducible rfl))
        try simp only[Act.put]
        refine wpAnyH_ready (rs:=[2,12]) (by kernel_rfl) (by simp) ?_
        refine AllReadyH.cons rfl (fun K hK=>?_) (AllReadyH.cons rfl (fun K hK=>?_) AllReadyH.nil)
        ·go_simp
         refine hK.out _ _ (HK2.out.keeps rfl) (fun hHeld1=>?_)
         clear hK K hHeld0
         try simp only[Act.put]
         refine wpAnyH_take (i:=6) (v:=?v8) rfl (by kernel_rfl) (by kernel_rfl) (by kernel_rfl) (fun _ _ _ h=>h) (Or.inl ⟨by rfl,?y8⟩) (by assumption) ?r8
         case y8=>(intro w hSw;(try dsimp only at hSw);go_simp;(try with_reducible rfl))
         try simp only[Act.put]
         refine wpAnyH_ready (rs:=[7,12]) (by kernel_rfl) (by simp) ?_
         refine AllReadyH.cons rfl (fun K hK=>?_) (AllReadyH.cons rfl (fun K hK=>?_) AllReadyH.nil)
         ·go_simp
          refine hK.out _ _ (HK2.out.keeps rfl) (fun hHeld2=>?_)
          clear hK K hHeld1
          try simp only[Act.put]
          refine wpAnyH_take (i:=8) (v:=?v9) rfl (by kernel_rfl) (by kernel_rfl) (by kernel_rfl) (fun _ _ _ h=>h) (Or.inl ⟨by rfl,?y9⟩) (by assumption) ?r9
          case y9=>(intro w hSw;(try dsimp only at hSw);go_simp;(try with_reducible rfl))
          try simp only[Act.put]
          refine wpAnyH_take (i:=9) (v:=?v10) rfl (by kernel_rfl) (by kernel_rfl) (by kernel_rfl) (fun _ _ _ h=>h) (Or.inl ⟨by rfl,?y10⟩) (by assumption) ?r10
          case y10=>(intro w hSw;(try dsimp only at hSw);go_simp;(try with_reducible rfl))
          try simp only[Act.put]
          refine wpAnyH_ready (rs:=[12]) (by kernel_rfl) (by simp) ?_
          refine AllReadyH.cons rfl (fun K hK=>?_) AllReadyH.nil
          go_simp
          refine(termText_ (t:=y.b) HSY.out.2.2.2 HSY.out.2.1 HSY.out.2.2.1).mono ?_
          rintro e w5 ⟨rfl,hb5⟩
          rw[HTB.out]
          have H5:=Lib.hid (HK2.out.later hb5)
          clear hb5
          go_wp2_with fail
          refine hK.out _ _ (H5.out.keeps rfl) (fun hHeld3=>?_)
          clear hK K hHeld2
          try simp only[Act.put]
          refine wpAnyH_take (i:=13) (v:=?v11) rfl (by kernel_rfl) (by kernel_rfl) (by kernel_rfl) (fun _ _ _ h=>h) (Or.inl ⟨by rfl,?y11⟩) (by assumption) ?r11
          case y11=>(intro w hSw;(try dsimp only at hSw);go_simp;(try with_reducible rfl))
          try simp only[Act.put]
          refine wpAnyH_take (i:=14) (v:=?v12) rfl (by kernel_rfl) (by kernel_rfl) (by kernel_rfl) (fun _ _ _ h=>h) (Or.inl ⟨by rfl,?y12⟩) (by assumption) ?r12
          case y12=>(intro w hSw;(try dsimp only at hSw);go_simp;(try with_reducible rfl))
          try simp only[Act.put]
          refine wpAnyH_done (by kernel_rfl) ?_ _
          go_wp2_with fail
          go_roundg (gk - 1)
          case measure=>omega
          case rel=>exact⟨k+1,by simp,by omega,by rw[←HPS.out,HA.out],H5.out.rw⟩
         ·go_simp
          refine(termText_ (t:=y.b) HSY.out.2.2.2 HSY.out.2.1 HSY.out.2.2.1).mono ?_
          rintro e w5 ⟨rfl,hb5⟩
          rw[HTB.out]
          have H5:=Lib.hid (HK2.out.later hb5)
          have t5:w5.cell? ⟨V1.heap.size,jn,none⟩=some (.string mk):=((HTA.out.grown (grown_below hb5 none) (by simp)).cell jn).trans HTJ.out
          clear hb5
          go_wp2_with fail
          refine hK.out _ _ (H5.out.keeps rfl) (fun hHeld2=>?_)
          clear hK K hHeld1
          try simp only[Act.put]
          refine wpAnyH_ready (rs:=[7]) (by kernel_rfl) (by simp) ?_
          refine AllReadyH.cons rfl (fun K hK=>?_) AllReadyH.nil
          go_simp
          refine hK.out _ _ (H5.out.keeps rfl) (fun hHeld3=>?_)
          clear hK K hHeld2
          try simp only[Act.put]
          refine wpAnyH_take (i:=8) (v:=?v13) rfl (by kernel_rfl) (by kernel_rfl) (by kernel_rfl) (fun _ _ _ h=>h) (Or.inl ⟨by rfl,?y13⟩) (by assumption) ?r13
          case y13=>(intro w hSw;(try dsimp only at hSw);go_simp;(try with_reducible rfl))
          try simp only[Act.put]
          refine wpAnyH_take (i:=9) (v:=?v14) rfl (by kernel_rfl) (by kernel_rfl) (by kernel_rfl) (fun _ _ _ h=>h) (Or.inl ⟨by rfl,?y14⟩) (by assumption) ?r14
          case y14=>(intro w hSw;(try dsimp only at hSw);go_simp;(try with_reducible rfl))
          try simp only[Act.put]
          refine wpAnyH_take (i:=13) (v:=?v15) rfl (by kernel_rfl) (by kernel_rfl) (by kernel_rfl) (fun _ _ _ h=>h) (Or.inl ⟨by rfl,?y15⟩) (by assumption) ?r15
          case y15=>(intro w hSw;(try dsimp only at hSw);go_simp;(try with_reducible rfl))
          try simp only[Act.put]
          refine wpAnyH_take (i:=14) (v:=?v16) rfl (by kernel_rfl) (by kernel_rfl) (by kernel_rfl) (fun _ _ _ h=>h) (Or.inl ⟨by rfl,?y16⟩) (by assumption) ?r16
          case y16=>(intro w hSw;(try dsimp only at hSw);go_simp;(try with_reducible rfl))
          try simp only[Act.put]
          refine wpAnyH_done (by kernel_rfl) ?_ _
          go_wp2_with fail
          go_roundg (gk - 1)
          case measure=>omega
          case rel=>exact⟨k+1,by simp,by omega,by rw[←HPS.out,HA.out],H5.out.rw⟩
        ·go_simp
         refine(termText_ (t:=y.b) HSY.out.2.2.2 HSY.out.2.1 HSY.out.2.2.1).mono ?_
         rintro e w5 ⟨rfl,hb5⟩
         rw[HTB.out]
         have H5:=Lib.hid (HK1.out.later hb5)
         clear hb5
         go_wp2_with fail
         refine hK.out _ _ (H5.out.keeps rfl) (fun hHeld1=>?_)
         clear hK K hHeld0
         try simp only[Act.put]
         refine wpAnyH_ready (rs:=[2]) (by kernel_rfl) (by simp) ?_
         refine AllReadyH.cons rfl (fun K hK=>?_) AllReadyH.nil
         go_simp
         refine hK.out _ _ (H5.out.alloc.keeps rfl) (fun hHeld2=>?_)
         clear hK K hHeld1
         try simp only[Act.put]
         refine wpAnyH_take (i:=6) (v:=?v17) rfl (by kernel_rfl) (by kernel_rfl) (by kernel_rfl) (fun _ _ _ h=>h) (Or.inl ⟨by rfl,?y17⟩) (by assumption) ?r17
         case y17=>(intro w hSw;(try dsimp only at hSw);go_simp;(try with_reducible rfl))
         try simp only[Act.put]
         refine wpAnyH_ready (rs:=[7]) (by kernel_rfl) (by simp) ?_
         refine AllReadyH.cons rfl (fun K hK=>?_) AllReadyH.nil
         go_simp
         refine hK.out _ _ (H5.out.alloc.keeps rfl) (fun hHeld3=>?_)
         clear hK K hHeld2
         try simp only[Act.put]
         refine wpAnyH_take (i:=8) (v:=?v18) rfl (by kernel_rfl) (by kernel_rfl) (by kernel_rfl) (fun _ _ _ h=>h) (Or.inl ⟨by rfl,?y18⟩) (by assumption) ?r18
         case y18=>(intro w hSw;(try dsimp only at hSw);go_simp;(try with_reducible rfl))
         try simp only[Act.put]
         refine wpAnyH_take (i:=9) (v:=?v19) rfl (by kernel_rfl) (by kernel_rfl) (by kernel_rfl) (fun _ _ _ h=>h) (Or.inl ⟨by rfl,?y19⟩) (by assumption) ?r19
         case y19=>(intro w hSw;(try dsimp only at hSw);go_simp;(try with_reducible rfl))
         try simp only[Act.put]
         refine wpAnyH_take (i:=13) (v:=?v20) rfl (by kernel_rfl) (by kernel_rfl) (by kernel_rfl) (fun _ _ _ h=>h) (Or.inl ⟨by rfl,?y20⟩) (by assumption) ?r20
         case y20=>(intro w hSw;(try dsimp only at hSw);go_simp;(try with_reducible rfl))
         try simp only[Act.put]
         refine wpAnyH_take (i:=14) (v:=?v21) rfl (by kernel_rfl) (by kernel_rfl) (by kernel_rfl) (fun _ _ _ h=>h) (Or.inl ⟨by rfl,?y21⟩) (by assumption) ?r21
         case y21=>(intro w hSw;(try dsimp only at hSw);go_simp;(try with_reducible rfl))
         try simp only[Act.put]
         refine wpAnyH_done (by kernel_rfl) ?_ _
         go_wp2_with fail
         go_roundg (gk - 1)
         case measure=>omega
         case rel=>exact⟨k+1,by simp,by omega,by rw[←HPS.out,HA.out],H5.out.rw.alloc _⟩
       ·have HA:Hid (ls++ta++B (opT y)=ls++ta):=by
         show _=_
         unfold opT
         rw[if_neg h7,if_neg h8,if_neg hin]
         apply ByteArray.ext;simp[B,ByteArray.data_append]
        have hor:y.op<1∨6<y.op:=by omega
        clear h7 h8 hin
        rcases hor with hor|hor
        ·have hn1:¬1≤y.op:=by omega
         go_wp2_with fail
         go_roundg (gk - 1)
         case measure=>omega
         case rel=>exact⟨k+1,by simp,by omega,by rw[←HPS.out,HA.out],HR1.out⟩
        ·have hn1:1≤y.op:=by omega
         have hn2:¬y.op≤6:=by omega
         go_wp2_with fail
         go_roundg (gk - 1)
         case measure=>omega
         case rel=>exact⟨k+1,by simp,by omega,by rw[←HPS.out,HA.out],HR1.out⟩
   ·have hki:¬(k:Int)<(q.conds.length:Int):=by omega
    have hkk:k=q.conds.length:=by omega
    have HK:Hid (CondsText q k=matchT q):=by show _=_;rw[hkk,matchT_eq]
    clear hkk
    go_wp2_with fail
    go_ret
    exact⟨by rw[HK.out];rfl,HR.out.low⟩
end Go.Proofs.YtobgbmfpicmpcaaGreatDoor

