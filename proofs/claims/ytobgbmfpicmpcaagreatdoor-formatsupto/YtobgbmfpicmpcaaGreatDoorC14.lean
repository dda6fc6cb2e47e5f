/- The reference's writer: a make. -/
import Derived.Test.YtobgbmfpicmpcaaGreatDoorC13
import Derived.Test.YtobgbmfpicmpcaaGreatDoorC11
namespace Go.Proofs.YtobgbmfpicmpcaaGreatDoor
open Go.RowKit Go.Sort
def PairsText (q:PQuery) (k:Nat):List UInt8:=[67,82,69,65,84,69,32,40,32]++bl q.label++gather pairT true (q.pairs.take k)
def leadP (first:Bool):List UInt8:=if first then [32,123,32] else [32,44,32]
theorem pairT_eq (b:Bool) (p:PPair):pairT b p=leadP b++bl p.key++[32,58,32]++Lib.itoa p.val:=rfl
theorem pairT_len (b:Bool) {p:PPair} (h:ShortPair p):(pairT b p).length≤1048610:=by
 obtain⟨h1,h2⟩:=h
 unfold Short at h1
 have:=itoa_len h2
 rw[pairT_eq]
 have:(leadP b).length≤3:=by unfold leadP;split<;>simp
 simp only[List.length_append,bl_len,List.length_cons,List.length_nil]
 omega
theorem pairsText_len {q:PQuery} (h:QShort q) (k:Nat):(PairsText q k).length≤8000000:=by
 have:=gatherT_len pairT 1048610 (q.pairs.take k) true (fun b x hx=>pairT_len b (h.pa x (List.mem_of_mem_take hx)))
 have h2:(q.pairs.take k).length≤6:=by rw[List.length_take];have:=h.n4;omega
 have h3:q.label.size≤1048576:=h.la
 unfold PairsText
 simp only[List.length_append,bl_len,List.length_cons,List.length_nil]
 omega
set_option maxRecDepth 100000 in
set_option maxHeartbeats 4000000 in
theorem written5 {W:World} {q:PQuery} {vs vc vi vp:Value} (hq:QSees W q vs vc vi vp) (hs:QShort q) (hk:q.kind=5):
  Calls Tryz.prog 56 #[.agg (qC q vs vc vi vp)] W fun e W'=>e=.returned (.string (B (queryT q)))∧Below W.heap.size W W':=by
 obtain⟨aos,cas,rfl,ks⟩:=sees_slice (l:=q.spots) hq.rs
 obtain⟨aoc,cac,rfl,kc⟩:=sees_slice (l:=q.conds) hq.rc
 obtain⟨aoi,cai,rfl,ki⟩:=sees_slice (l:=q.items) hq.rt
 obtain⟨aop,cap,rfl,kp⟩:=sees_slice (l:=q.pairs) hq.rp
 clear ks kc ki kp
 have HQS:=Lib.hid hq
 have HS:=Lib.hid hs
 clear hq hs
 have R0:Hid (RW W W.heap.size (qC q (.slice aos q.spots.length cas) (.slice aoc q.conds.length cac) (.slice aoi q.items.length cai) (.slice aop q.pairs.length cap)) (W.alloc (.cells (qC q (.slice aos q.spots.length cas) (.slice aoc q.conds.length cac) (.slice aoi q.items.length cai) (.slice aop q.pairs.length cap)) 29))):=⟨(Below.refl _ _).alloc (Nat.le_refl _) _,Loc.new _ _ _⟩
 have HE:Hid (B (PairsText q q.pairs.length)++B (if q.pairs.isEmpty then [] else [32,125])++B [32,41]=B (queryT q)):=by
  show _=_
  have e:queryT q=[67,82,69,65,84,69,32,40,32]++bl q.label++gather pairT true q.pairs++(if q.pairs.isEmpty then [] else [32,125])++[32,41]:=by
   unfold queryT
   rw[if_neg (by omega),if_neg (by omega),if_neg (by omega),if_pos hk]
  unfold PairsText
  rw[e,B_app,B_app,List.take_length]
 have n4:=HS.out.n4
 have z_la:q.label.size≤1048576:=HS.out.la
 have b2:(q.kind==2)=false:=by rw[hk];rfl
 have b3:(q.kind==3)=false:=by rw[hk];rfl
 have b4:(q.kind==4)=false:=by rw[hk];rfl
 have b5:(q.kind==5)=true:=by rw[hk];rfl
 clear hk
 go_enter Tryz.func56,Tryz.ntmps56
 go_upto_region 1 with fail
 obtain⟨X,hX⟩:∃X,X=W.heap.size:=⟨_,rfl⟩
 rw[←hX] at R0⊢
 clear hX
 generalize W.alloc (.cells (qC q (.slice aos q.spots.length cas) (.slice aoc q.conds.length cac) (.slice aoi q.items.length cai) (.slice aop q.pairs.length cap)) 29)=W1 at R0⊢
 have c0:=R0.out.lq.at_ 0 (.int .i64 q.kind) rfl
 have c15:=R0.out.lq.at_ 15 (.string q.label) rfl
 have HP0:Hid ((⟨#[67,82,69,65,84,69,32,40,32]⟩:ByteArray)++q.label=B (PairsText q 0)):=by
  show _=_
  unfold PairsText
  simp only[List.take_zero,gather,List.append_nil]
  rw[←B_app,B_bl]
  rfl
 go_wp2_with fail
 rw[HP0.out]
 clear c0 c15
 go_loopg [3,4] q.pairs.length (fun m sv iv w=>∃k:Nat,iv=.int .i64 (k:Int)∧k+m=q.pairs.length∧sv=.string (B (PairsText q k))∧RW W X (qC q (.slice aos q.spots.length cas) (.slice aoc q.conds.length cac) (.slice aoi q.items.length cai) (.slice aop q.pairs.length cap)) w)
 case atStart=>exact⟨0,rfl,by omega,rfl,R0.out⟩
 case round=>
  obtain⟨k,rfl,hk,rfl,hr⟩:=hrel
  have HR:=Lib.hid hr
  clear hr R0 HP0
  have cs:=HR.out.lq.at_ 16 (.slice aop q.pairs.length cap) rfl
  by_cases hlt:k<q.pairs.length
  ·obtain⟨g,o,rfl,hcell⟩:=sees_at (l:=q.pairs) fPair (fun _=>rfl) ((HQS.out.rp).below HR.out.low) hlt
   obtain⟨y,hy⟩:∃y,q.pairs[k]=y:=⟨_,rfl⟩
   have hmem:y∈q.pairs:=by rw[←hy];exact List.getElem_mem hlt
   rw[hy] at hcell
   have p0:wr.cell? ⟨g,o+k*2,none⟩=some (.string y.key):=hcell 0 (by decide)
   have p1:wr.cell? ⟨g,o+k*2+1,none⟩=some (.int .i64 y.val):=hcell 1 (by decide)
   have hki:(k:Int)<(q.pairs.length:Int):=by omega
   have HNX:Hid (PairsText q (k+1)=PairsText q k++pairT (decide (k=0)) y):=by show _=_;unfold PairsText;rw[gatherT_next pairT hlt,hy];simp only[List.append_assoc]
   have hlen:(B (PairsText q k)).size≤8000000:=by rw[B_size];exact pairsText_len HS.out k
   have HSY:=Lib.hid (HS.out.pa y hmem)
   have hkz:y.key.size≤1048576:=HSY.out.1
   have hdz:=dec_size HSY.out.2
   obtain⟨os,hos⟩:∃os,B (PairsText q k)=os:=⟨_,rfl⟩
   rw[hos] at hlen⊢
   have HO:=Lib.hid hos
   clear hos hcell hy
   go_upto_if 65 with fail
   go_cut [3] (fun v w=>v=.string (os++B (leadP (decide (k=0))))∧w=wr)
   case first=>
    by_cases hk0:k=0
    ·subst hk0
     go_wp2_with fail
     go_meet
     exact⟨rfl,rfl⟩
    ·have hk1:((k:Int)==0)=false:=by simp;omega
     have HA:Hid (os++B (leadP (decide (k=0)))=os++⟨#[32,44,32]⟩):=by show _=_;rw[decide_eq_false hk0];rfl
     go_wp2_with fail
     go_meet
     exact⟨by rw[HA.out],rfl⟩
   case rest=>
    obtain⟨rfl,hw⟩:=hcut
    obtain rfl:=hw.symm
    have hl2:(os++B (leadP (decide (k=0)))).size≤8000010:=by
     rw[ByteArray.size_append,B_size]
     have:(leadP (decide (k=0))).length≤3:=by unfold leadP;split<;>simp
     omega
    have HPS:Hid (os++B (leadP (decide (k=0)))++y.key++⟨#[32,58,32]⟩++decB y.val=B (PairsText q (k+1))):=by
     show _=_
     rw[HNX.out,pairT_eq,←HO.out]
     simp only[←B_app,B_bl,ByteArray.append_assoc]
     rfl
    obtain⟨ls,hls⟩:∃ls,os++B (leadP (decide (k=0)))=ls:=⟨_,rfl⟩
    rw[hls] at hl2 HPS⊢
    clear hls hlen
    have k0:=cell_regrown p0
    have k1:=cell_regrown p1
    have k2:=cell_regrown cs
    have cL:∀d os,Calls Tryz.prog 118 #[.int .i64 y.val] (grow (redrawn wr d) os) fun e w''=>e=.returned (.string (decB y.val))∧∃p:Regrown,w''=grow (redrawn wr p.d) p.os:=fun d os=>Calls.regrown_of (decimal_ HSY.out.2)
    have n1:¬9223372036854775807<ls.size+y.key.size:=by omega
    have n2:¬9223372036854775807<ls.size+y.key.size+3:=by omega
    have n3:¬9223372036854775807<ls.size+y.key.size+3+(decB y.val).size:=by omega
    go_upto_region 16 with fail
    refine wp_region_quiet_below (by kernel_rfl) (by kernel_rfl) ?_
    repeat (quiet_step (exact cL _ _))
    refine wpQuiet_nil ?_
    intro W5 hw5
    have H5:Hid (RW W X (qC q (.slice aos q.spots.length cas) (.slice aoc q.conds.length cac) (.slice aoi q.items.length cai) (.slice (some ⟨g,o,none⟩) q.pairs.length cap)) W5):=by
     obtain⟨⟨dq,osq⟩,rfl⟩:=hw5
     exact HR.out.later (below_regrown wr dq osq)
    clear hw5 cL k0 k1 k2 p0 p1 cs
    go_wp2_with fail
    go_roundg (gk - 1)
    case measure=>omega
    case rel=>exact⟨k+1,by simp,by omega,by rw[←HPS.out],H5.out⟩
  ·have hki:¬(k:Int)<(q.pairs.length:Int):=by omega
   have hkk:k=q.pairs.length:=by omega
   have hlen:(B (PairsText q k)).size≤8000000:=by rw[B_size];exact pairsText_len HS.out k
   have HK:Hid (B (PairsText q q.pairs.length)=B (PairsText q k)):=by show _=_;rw[hkk]
   rw[HK.out] at HE
   clear hkk
   obtain⟨os,hos⟩:∃os,B (PairsText q k)=os:=⟨_,rfl⟩
   rw[hos] at hlen HE⊢
   clear hos HK
   by_cases hz:q.pairs.length=0
   ·have hnil:q.pairs.isEmpty=true:=by rw[List.isEmpty_iff];exact List.eq_nil_of_length_eq_zero hz
    have HA:Hid (os++⟨#[32,41]⟩=B (queryT q)):=by
     show _=_
     rw[←HE.out,if_pos hnil,ByteArray.append_assoc,B_app]
     rfl
    have hz1:¬0<(q.pairs.length:Int):=by omega
    clear HE hz hnil
    go_wp2_with fail
    go_ret
    exact⟨by rw[←HA.out];rfl,HR.out.low⟩
   ·have hnil:¬q.pairs.isEmpty=true:=by rw[List.isEmpty_iff];exact fun e=>hz (by rw[e];rfl)
    have HA:Hid (os++⟨#[32,125]⟩++⟨#[32,41]⟩=B (queryT q)):=by
     show _=_
     rw[←HE.out,if_neg hnil]
     rfl
    have hz1:0<(q.pairs.length:Int):=by omega
    clear HE hz hnil
    go_wp2_with fail
    go_ret
    exact⟨by rw[←HA.out];rfl,HR.out.low⟩
end Go.Proofs.YtobgbmfpicmpcaaGreatDoor

/- The reference's writer: a read. -/
namespace Go.Proofs.YtobgbmfpicmpcaaGreatDoor
open Go.RowKit Go.Sort
def ReadText (q:PQuery) (k:Nat):List UInt8:=matchT q++[32,82,69,84,85,82,78,32]++gather itemT true (q.items.take k)
def leadI (first:Bool):List UInt8:=if first then [] else [32,44,32]
theorem itemT_eq (b:Bool) (x:PItem):itemT b x=leadI b++oneT x:=rfl
theorem oneT_len {x:PItem} (h:ShortItem x):(oneT x).length≤2097160:=by
 obtain⟨h1,h2⟩:=h
 unfold Short at h1 h2
 unfold oneT
 split
 ·rw[bl_len];exact(by decide:kCOUNT.size≤2097160)
 ·split<;>simp only[List.length_append,bl_len,List.length_cons,List.length_nil]<;>omega
theorem itemT_len (b:Bool) {x:PItem} (h:ShortItem x):(itemT b x).length≤2097163:=by
 have:=oneT_len h
 have:(leadI b).length≤3:=by unfold leadI;split<;>simp
 rw[itemT_eq,List.length_append]
 omega
theorem readText_len {q:PQuery} (h:QShort q) (k:Nat):(ReadText q k).length≤70000000:=by
 have:=gatherT_len itemT 2097163 (q.items.take k) true (fun b x hx=>itemT_len b (h.it x (List.mem_of_mem_take hx)))
 have h2:(q.items.take k).length≤6:=by rw[List.length_take];have:=h.n3;omega
 have:=matchT_len h
 unfold ReadText
 simp only[List.length_append,List.length_cons,List.length_nil]
 omega
theorem orderT_len {q:PQuery} (h:QShort q):(orderT q).length≤40:=by
 have:=itoa_len h.od
 unfold orderT
 split
 ·simp
 ·split<;>simp only[List.length_append,List.length_cons,List.length_nil]<;>omega
theorem skipT_len {q:PQuery} (h:QShort q):(skipT q).length≤40:=by
 have:=itoa_len h.sk
 unfold skipT
 split
 ·simp
 ·simp only[List.length_append,List.length_cons,List.length_nil];omega
set_option maxRecDepth 100000 in
set_option maxHeartbeats 8000000 in
theorem written1 {W:World} {q:PQuery} {vs vc vi vp:Value} (hq:QSees W q vs vc vi vp) (hs:QShort q) (hk:q.kind≠2∧q.kind≠3∧q.kind≠4∧q.kind≠5∧q.kind≠6):
  Calls Tryz.prog 56 #[.agg (qC q vs vc vi vp)] W fun e W'=>e=.returned (.string (B (queryT q)))∧Below W.heap.size W W':=by
 obtain⟨aos,cas,rfl,ks⟩:=sees_slice (l:=q.spots) hq.rs
 obtain⟨aoc,cac,rfl,kc⟩:=sees_slice (l:=q.conds) hq.rc
 obtain⟨aoi,cai,rfl,ki⟩:=sees_slice (l:=q.items) hq.rt
 obtain⟨aop,cap,rfl,kp⟩:=sees_slice (l:=q.pairs) hq.rp
 clear ks kc ki kp
 have HQS:=Lib.hid hq
 have HS:=Lib.hid hs
 clear hq hs
 have R0:Hid (RW W W.heap.size (qC q (.slice aos q.spots.length cas) (.slice aoc q.conds.length cac) (.slice aoi q.items.length cai) (.slice aop q.pairs.length cap)) (W.alloc (.cells (qC q (.slice aos q.spots.length cas) (.slice aoc q.conds.length cac) (.slice aoi q.items.length cai) (.slice aop q.pairs.length cap)) 29))):=⟨(Below.refl _ _).alloc (Nat.le_refl _) _,Loc.new _ _ _⟩
 have HE:Hid (B (ReadText q q.items.length)++B (orderT q)++B (skipT q)++B (limitT q)=B (queryT q)):=by
  show _=_
  unfold queryT ReadText
  rw[if_neg hk.1,if_neg hk.2.1,if_neg hk.2.2.1,if_neg hk.2.2.2.1,if_neg hk.2.2.2.2,List.take_length]
  simp only[B_app]
 have b2:(q.kind==2)=false:=by simpa using hk.1
 have b3:(q.kind==3)=false:=by simpa using hk.2.1
 have b4:(q.kind==4)=false:=by simpa using hk.2.2.1
 have b5:(q.kind==5)=false:=by simpa using hk.2.2.2.1
 have b6:(q.kind==6)=false:=by simpa using hk.2.2.2.2
 have n3:=HS.out.n3
 have hms:(B (matchT q)).size≤50000000:=by rw[B_size];exact matchT_len HS.out
 have HP0:Hid (B (matchT q)++⟨#[32,82,69,84,85,82,78,32]⟩=B (ReadText q 0)):=by
  show _=_
  unfold ReadText
  simp only[List.take_zero,gather,List.append_nil]
  rw[←B_app]
  rfl
 clear hk
 go_enter Tryz.func56,Tryz.ntmps56
 go_upto_region 1 with fail
 obtain⟨X,hX⟩:∃X,X=W.heap.size:=⟨_,rfl⟩
 rw[←hX] at R0⊢
 clear hX
 generalize W.alloc (.cells (qC q (.slice aos q.spots.length cas) (.slice aoc q.conds.length cac) (.slice aoi q.items.length cai) (.slice aop q.pairs.length cap)) 29)=W1 at R0⊢
 have c0:=R0.out.lq.at_ 0 (.int .i64 q.kind) rfl
 go_upto_region 22 with fail
 clear c0
 refine wp_region_lit ?_
 refine wpList_load_mid rfl 29 _ rfl X 0 rfl (qC q (.slice aos q.spots.length cas) (.slice aoc q.conds.length cac) (.slice aoi q.items.length cai) (.slice aop q.pairs.length cap)).toList _ R0.out.lq.range Tryz.underlying29 rfl (by rw[Tryz.sizeQuery];rfl) ?_
 go_wp2_with fail
 refine(matchText_ (q:=q) (HQS.out.below R0.out.low) HS.out.sp HS.out.co HS.out.n1 HS.out.n2).mono ?_
 rintro e W2 ⟨rfl,hb2⟩
 have R1:=Lib.hid (R0.out.later hb2)
 clear hb2 R0
 go_upto_block 3 with fail
 rw[HP0.out]
 go_cut [5] (fun v w=>v=.string (B (ReadText q q.items.length))∧RW W X (qC q (.slice aos q.spots.length cas) (.slice aoc q.conds.length cac) (.slice aoi q.items.length cai) (.slice aop q.pairs.length cap)) w)
 case first=>
  go_wp2_with fail
  go_loopg [5,6] q.items.length (fun m sv iv w=>∃k:Nat,iv=.int .i64 (k:Int)∧k+m=q.items.length∧sv=.string (B (ReadText q k))∧RW W X (qC q (.slice aos q.spots.length cas) (.slice aoc q.conds.length cac) (.slice aoi q.items.length cai) (.slice aop q.pairs.length cap)) w)
  case atStart=>exact⟨0,rfl,by omega,rfl,R1.out⟩
  case round=>
   obtain⟨k,rfl,hk,rfl,hr⟩:=hrel
   have HR:=Lib.hid hr
   clear hr R1 HP0
   have cs:=HR.out.lq.at_ 3 (.slice aoi q.items.length cai) rfl
   by_cases hlt:k<q.items.length
   ·obtain⟨g,o,rfl,hcell⟩:=sees_at (l:=q.items) fItem (fun _=>rfl) ((HQS.out.rt).below HR.out.low) hlt
    obtain⟨y,hy⟩:∃y,q.items[k]=y:=⟨_,rfl⟩
    have hmem:y∈q.items:=by rw[←hy];exact List.getElem_mem hlt
    rw[hy] at hcell
    have p0:wr.cell? ⟨g,o+k*2,none⟩=some (.string y.name):=hcell 0 (by decide)
    have p1:wr.cell? ⟨g,o+k*2+1,none⟩=some (.string y.key):=hcell 1 (by decide)
    have hki:(k:Int)<(q.items.length:Int):=by omega
    have HNX:Hid (ReadText q (k+1)=ReadText q k++itemT (decide (k=0)) y):=by show _=_;unfold ReadText;rw[gatherT_next itemT hlt,hy];simp only[List.append_assoc]
    have hlen:(B (ReadText q k)).size≤70000000:=by rw[B_size];exact readText_len HS.out k
    have HSY:=Lib.hid (HS.out.it y hmem)
    have hnz:y.name.size≤1048576:=HSY.out.1
    have hkz:y.key.size≤1048576:=HSY.out.2
    obtain⟨os,hos⟩:∃os,B (ReadText q k)=os:=⟨_,rfl⟩
    rw[hos] at hlen⊢
    have HO:=Lib.hid hos
    have HZ0:=Lib.hid (Loc.new wr #[.string y.name,.string y.key] 89)
    have HR0:=Lib.hid (HR.out.alloc (.cells #[.string y.name,.string y.key] 89))
    clear hos hcell hy
    go_upto_if 116 with fail
    obtain⟨Z,hZ⟩:∃Z,Z=wr.heap.size:=⟨_,rfl⟩
    rw[←hZ] at HZ0⊢
    clear hZ
    generalize wr.alloc (.cells #[.string y.name,.string y.key] 89)=V0 at HZ0 HR0⊢
    clear p0 p1 cs HR
    go_cut [5] (fun v w=>v=.string (os++B (leadI (decide (k=0))))∧w=V0)
    case first=>
     by_cases hk0:k=0
     ·subst hk0
      have HA:Hid (os++B (leadI (decide (0=0)))=os):=by show _=_;apply ByteArray.ext;simp[B,leadI,ByteArray.data_append]
      go_wp2_with fail
      go_meet
      exact⟨by rw[HA.out],rfl⟩
     ·have hk1:0<(k:Int):=by omega
      have HA:Hid (os++B (leadI (decide (k=0)))=os++⟨#[32,44,32]⟩):=by show _=_;rw[decide_eq_false hk0];rfl
      go_wp2_with fail
      go_meet
      exact⟨by rw[HA.out],rfl⟩
    case rest=>
     obtain⟨rfl,hw⟩:=hcut
     obtain rfl:=hw.symm
     have hl2:(os++B (leadI (decide (k=0)))).size≤70000010:=by
      rw[ByteArray.size_append,B_size]
      have:(leadI (decide (k=0))).length≤3:=by unfold leadI;split<;>simp
      omega
     have HPS:Hid (os++B (leadI (decide (k=0)))++B (oneT y)=B (ReadText q (k+1))):=by
      show _=_
      rw[HNX.out,itemT_eq,←HO.out]
      simp only[B_app,List.append_assoc]
     obtain⟨ls,hls⟩:∃ls,os++B (leadI (decide (k=0)))=ls:=⟨_,rfl⟩
     rw[hls] at hl2 HPS⊢
     clear hls hlen
     have z0:=HZ0.out.at_ 0 (.string y.name) rfl
     have z1:=HZ0.out.at_ 1 (.string y.key) rfl
     cases hn:y.name.toList.isEmpty with
     | true=>
      have HA:Hid (ls++B (oneT y)=ls++⟨#[67,79,85,78,84]⟩):=by show _=_;unfold oneT;rw[if_pos hn,B_bl];rfl
      go_wp2_with fail
      go_roundg (gk - 1)
      case measure=>omega
      case rel=>exact⟨k+1,by simp,by omega,by rw[←HPS.out,HA.out],HR0.out⟩
     | false=>
      cases hky:y.key.toList.isEmpty with
      | true=>
       have HA:Hid (ls++B (oneT y)=ls++y.name):=by show _=_;unfold oneT;rw[if_neg (by rw[hn];simp),if_pos hky,B_bl]
       go_wp2_with fail
       go_roundg (gk - 1)
       case measure=>omega
       case rel=>exact⟨k+1,by simp,by omega,by rw[←HPS.out,HA.out],HR0.out⟩
      | false=>
       have HA:Hid (ls++B (oneT y)=ls++y.name++⟨#[32,46,32]⟩++y.key):=by
        show _=_
        unfold oneT
        rw[if_neg (by rw[hn];simp),if_neg (by rw[hky];simp)]
        simp only[←B_app,B_bl,ByteArray.append_assoc]
        rfl
       go_wp2_with fail
       go_roundg (gk - 1)
       case measure=>omega
       case rel=>exact⟨k+1,by simp,by omega,by rw[←HPS.out,HA.out],HR0.out⟩
   ·have hki:¬(k:Int)<(q.items.length:Int):=by omega
    have hkk:k=q.items.length:=by omega
    have HK:Hid (ReadText q k=ReadText q q.items.length):=by show _=_;rw[hkk]
    clear hkk
    go_wp2_with fail
    go_meet
    exact⟨by rw[HK.out],HR.out⟩
 case rest=>
  obtain⟨rfl,hr⟩:=hcut
  have R2:=Lib.hid hr
  clear hr R1 HP0
  have hlen:(B (ReadText q q.items.length)).size≤70000000:=by rw[B_size];exact readText_len HS.out _
  obtain⟨os,hos⟩:∃os,B (ReadText q q.items.length)=os:=⟨_,rfl⟩
  rw[hos] at hlen HE⊢
  clear hos
  have c4:=R2.out.lq.at_ 4 (.int .i64 q.order) rfl
  go_upto_if 143 with fail
  go_cut [5] (fun v w=>v=.string (os++B (orderT q))∧RW W X (qC q (.slice aos q.spots.length cas) (.slice aoc q.conds.length cac) (.slice aoi q.items.length cai) (.slice aop q.pairs.length cap)) w)
  case first=>
   by_cases ho:q.order=0
   ·have hb:(q.order != 0)=false:=by rw[ho];rfl
    have HA:Hid (os++B (orderT q)=os):=by show _=_;unfold orderT;rw[if_pos ho];apply ByteArray.ext;simp[B,ByteArray.data_append]
    clear ho
    go_wp2_with fail
    go_meet
    case rel=>exact⟨by rw[HA.out],R2.out⟩
   ·have hb:(q.order != 0)=true:=by simp only[bne_iff_ne];exact ho
    have HOD:=Lib.hid HS.out.od
    have hdz:=dec_size HOD.out
    cases hd:q.down with
    | false=>
     have HA:Hid (os++B (orderT q)=os++⟨#[32,79,82,68,69,82,32,66,89,32]⟩++decB q.order):=by
      show _=_
      unfold orderT
      rw[if_neg ho,hd,if_neg (by simp),List.append_nil,←B_app,←ByteArray.append_assoc]
      rfl
     have HD:=Lib.hid hd
     clear ho hd
     go_wp2_with fail
     refine(decimal_ HOD.out).mono ?_
     rintro e W3 ⟨rfl,hb3⟩
     have R3:=Lib.hid (R2.out.later hb3)
     clear hb3 c4
     have c5:W3.cell? ⟨X,5,none⟩=some (.bool false):=(R3.out.lq.cell 5).trans (show some (Value.bool q.down)=_ by rw[HD.out])
     go_wp2_with fail
     go_meet
     case rel=>exact⟨by rw[HA.out],R3.out⟩
    | true=>
     have HA:Hid (os++B (orderT q)=os++⟨#[32,79,82,68,69,82,32,66,89,32]⟩++decB q.order++⟨#[32,68,69,83,67]⟩):=by
      show _=_
      unfold orderT
      rw[if_neg ho,hd,if_pos rfl,←B_app,←B_app,←ByteArray.append_assoc,←ByteArray.append_assoc]
      rfl
     have HD:=Lib.hid hd
     clear ho hd
     go_wp2_with fail
     refine(decimal_ HOD.out).mono ?_
     rintro e W3 ⟨rfl,hb3⟩
     have R3:=Lib.hid (R2.out.later hb3)
     clear hb3 c4
     have c5:W3.cell? ⟨X,5,none⟩=some (.bool true):=(R3.out.lq.cell 5).trans (show some (Value.bool q.down)=_ by rw[HD.out])
     go_wp2_with fail
     go_meet
     case rel=>exact⟨by rw[HA.out],R3.out⟩
  case rest=>
   obtain⟨rfl,hr⟩:=hcut
   have R3:=Lib.hid hr
   clear hr R2 c4
   have hlen2:(os++B (orderT q)).size≤70000040:=by
    have:=orderT_len HS.out
    rw[ByteArray.size_append,B_size];omega
   obtain⟨us,hus⟩:∃us,os++B (orderT q)=us:=⟨_,rfl⟩
   rw[hus] at hlen2 HE⊢
   clear hus hlen
   have c6:=R3.out.lq.at_ 6 (.int .i64 q.skip) rfl
   go_upto_if 156 with fail
   go_cut [5] (fun v w=>v=.string (us++B (skipT q))∧RW W X (qC q (.slice aos q.spots.length cas) (.slice aoc q.conds.length cac) (.slice aoi q.items.length cai) (.slice aop q.pairs.length cap)) w)
   case first=>
    by_cases ho:q.skip=0
    ·have hb:(q.skip != 0)=false:=by rw[ho];rfl
     have HA:Hid (us++B (skipT q)=us):=by show _=_;unfold skipT;rw[if_pos ho];apply ByteArray.ext;simp[B,ByteArray.data_append]
     clear ho
     go_wp2_with fail
     go_meet
     case rel=>exact⟨by rw[HA.out],R3.out⟩
    ·have hb:(q.skip != 0)=true:=by simp only[bne_iff_ne];exact ho
     have HOD:=Lib.hid HS.out.sk
     have hdz:=dec_size HOD.out
     have HA:Hid (us++B (skipT q)=us++⟨#[32,83,75,73,80,32]⟩++decB q.skip):=by
      show _=_
      unfold skipT
      rw[if_neg ho,←B_app,←ByteArray.append_assoc]
      rfl
     clear ho
     go_wp2_with fail
     refine(decimal_ HOD.out).mono ?_
     rintro e W3 ⟨rfl,hb3⟩
     have R4:=Lib.hid (R3.out.later hb3)
     clear hb3 c6
     go_wp2_with fail
     go_meet
     case rel=>exact⟨by rw[HA.out],R4.out⟩
   case rest=>
    obtain⟨rfl,hr⟩:=hcut
    have R4:=Lib.hid hr
    clear hr R3 c6
    have hlen3:(us++B (skipT q)).size≤70000080:=by
     have:=skipT_len HS.out
     rw[ByteArray.size_append,B_size];omega
    obtain⟨ss,hss⟩:∃ss,us++B (skipT q)=ss:=⟨_,rfl⟩
    rw[hss] at hlen3 HE⊢
    clear hss hlen2
    have c7:=R4.out.lq.at_ 7 (.int .i64 q.limit) rfl
    by_cases ho:q.limit=-1
    ·have hb:(q.limit != -1)=false:=by rw[ho];rfl
     have HA:Hid (ss=B (queryT q)):=by show _=_;rw[←HE.out];unfold limitT;rw[if_pos ho];apply ByteArray.ext;simp[B,ByteArray.data_append]
     clear ho HE
     go_wp2_with fail
     go_ret
     exact⟨by rw[←HA.out];rfl,R4.out.low⟩
    ·have hb:(q.limit != -1)=true:=by simp only[bne_iff_ne];exact ho
     have HOD:=Lib.hid HS.out.li
     have hdz:=dec_size HOD.out
     have HA:Hid (ss++⟨#[32,76,73,77,73,84,32]⟩++decB q.limit=B (queryT q)):=by
      show _=_
      rw[←HE.out]
      unfold limitT
      rw[if_neg ho,←B_app,←ByteArray.append_assoc]
      rfl
     clear ho HE
     go_wp2_with fail
     refine(decimal_ HOD.out).mono ?_
     rintro e W3 ⟨rfl,hb3⟩
     have R5:=Lib.hid (R4.out.later hb3)
     clear hb3 c7
     go_wp2_with fail
     go_ret
     exact⟨by rw[←HA.out];rfl,R5.out.low⟩
theorem written_ {W:World} {q:PQuery} {vs vc vi vp:Value} (hq:QSees W q vs vc vi vp) (hs:QShort q):
  Calls Tryz.prog 56 #[.agg (qC q vs vc vi vp)] W fun e W'=>e=.returned (.string (B (queryT q)))∧Below W.heap.size W W':=by
 by_cases h2:q.kind=2
 ·exact written2 hq hs h2
 by_cases h3:q.kind=3
 ·exact written3 hq hs h3
 by_cases h4:q.kind=4
 ·exact written4 hq hs h4
 by_cases h5:q.kind=5
 ·exact written5 hq hs h5
 by_cases h6:q.kind=6
 ·exact written6 hq hs h6
 exact written1 hq hs ⟨h2,h3,h4,h5,h6⟩
end Go.Proofs.YtobgbmfpicmpcaaGreatDoor

/- The program's writer: a read, a make, a whole query. -/
namespace Go.Proofs.YtobgbmfpicmpcaaGreatDoor
open Go.RowKit
theorem oneW_len (x:PItem):(oneW x).length≤3:=by
 unfold oneW
 split
 ·simp
 ·split<;>simp
theorem itemW_len (b:Bool) (x:PItem):(itemW b x).length≤4:=by
 unfold itemW
 have:=oneW_len x
 rw[List.length_append]
 split<;>simp<;>omega
theorem pairW_len (b:Bool) (p:PPair):(pairW b p).length≤4:=by
 unfold pairW
 rw[List.length_append]
 split<;>simp
theorem orderW_len (q:PQuery):(orderW q).length≤4:=by
 unfold orderW
 split
 ·simp
 ·split<;>simp
theorem skipW_len (q:PQuery):(skipW q).length≤2:=by unfold skipW;split<;>simp
set_option maxRecDepth 100000 in
set_option maxHeartbeats 4000000 in
theorem wread {W0 W:World} {b:Nat} {ws:List ByteArray} {q:PQuery} {vs vc vi vp:Value} (h:WI W0 b ws W) (ht:Tab W0) (hq:QSees W0 q vs vc vi vp) (hf:QFits q) (n3:q.items.length≤6) (hl:ws.length≤2000):
  Calls Tryz.prog 107 #[.pointer (some ⟨b,0,none⟩),.agg (qC q vs vc vi vp)] W fun e W'=>e=.returned (.tuple #[])∧WI W0 b (ws++readW q) W'∧FrW W W':=by
 obtain⟨aos,cas,rfl,hcas⟩:=sees_slice (l:=q.spots) hq.rs
 obtain⟨aoc,cac,rfl,hcac⟩:=sees_slice (l:=q.conds) hq.rc
 obtain⟨aoi,cai,rfl,hcai⟩:=sees_slice (l:=q.items) hq.rt
 obtain⟨aop,cap,rfl,hcap⟩:=sees_slice (l:=q.pairs) hq.rp
 have HQS:=Lib.hid hq
 have HQF:=Lib.hid hf
 clear hq hf hcas hcac hcai hcap
 have HI0:=Lib.hid (h.alloc (.cells (qC q (.slice aos q.spots.length cas) (.slice aoc q.conds.length cac) (.slice aoi q.items.length cai) (.slice aop q.pairs.length cap)) 29))
 have HX0:=Lib.hid (Loc.new W (qC q (.slice aos q.spots.length cas) (.slice aoc q.conds.length cac) (.slice aoi q.items.length cai) (.slice aop q.pairs.length cap)) 29)
 have F0:Hid (FrW W (W.alloc (.cells (qC q (.slice aos q.spots.length cas) (.slice aoc q.conds.length cac) (.slice aoi q.items.length cai) (.slice aop q.pairs.length cap)) 29))):=(FrW.refl W).alloc _
 clear h
 go_enter Tryz.func107,Tryz.ntmps107
 go_upto_region 1 with fail
 obtain⟨X,hX⟩:∃X,X=W.heap.size:=⟨_,rfl⟩
 rw[←hX] at HX0⊢
 clear hX
 generalize W.alloc (.cells (qC q (.slice aos q.spots.length cas) (.slice aoc q.conds.length cac) (.slice aoi q.items.length cai) (.slice aop q.pairs.length cap)) 29)=W0_ at HI0 HX0 F0⊢
 have HA:=Lib.hid (HI0.out.alloc (.cells #[.string ⟨#[82,69,84,85,82,78]⟩] 9))
 have HG:=Lib.hid (Loc.new W0_ #[.string ⟨#[82,69,84,85,82,78]⟩] 9)
 go_wp2_with fail
 refine(add_ (m:=1) (new:=[⟨#[82,69,84,85,82,78]⟩]) HA.out HG.out rfl rfl (by omega) (by simp;omega)).mono ?_
 rintro e W1_ ⟨rfl,h1,f1⟩
 have HI1:=Lib.hid h1
 have HX1:=Lib.hid (f1 X _ _ (HX0.out.alloc _) (by decide) (by decide))
 have F1:=Lib.hid ((F0.out.alloc _).trans f1)
 clear h1 f1 HI0 HX0 F0 HA HG
 have cs:=HX1.out.at_ 3 (.slice aoi q.items.length cai) rfl
 go_upto_block 0 with fail
 clear cs
 go_cut [] (fun w=>WI W0 b (ws++[kRETURN]++gather itemW true q.items) w∧Loc w X (qC q (.slice aos q.spots.length cas) (.slice aoc q.conds.length cac) (.slice aoi q.items.length cai) (.slice aop q.pairs.length cap)) 29∧FrW W w)
 case first=>
  go_wp2_with fail
  go_loopg [12] q.items.length (fun m iv w=>∃k:Nat,iv=.int .i64 (k:Int)∧k+m=q.items.length∧WI W0 b (ws++[kRETURN]++gather itemW true (q.items.take k)) w∧Loc w X (qC q (.slice aos q.spots.length cas) (.slice aoc q.conds.length cac) (.slice aoi q.items.length cai) (.slice aop q.pairs.length cap)) 29∧FrW W w)
  case atStart=>exact⟨0,rfl,by omega,by rw[List.take_zero];simp only[gather,List.append_nil];exact HI1.out,HX1.out,F1.out⟩
  case round=>
   obtain⟨k,rfl,hk,hi,hx,hfr⟩:=hrel
   have HI:=Lib.hid hi
   have HX:=Lib.hid hx
   have HF:=Lib.hid hfr
   clear hi hx hfr HI1 HX1 F1
   by_cases hlt:k<q.items.length
   ·obtain⟨g,o,rfl,hcell⟩:=sees_at (l:=q.items) fItem (fun _=>rfl) ((HQS.out.rt).below HI.out.low) hlt
    obtain⟨y,hy⟩:∃y,q.items[k]=y:=⟨_,rfl⟩
    have hmem:y∈q.items:=by rw[←hy];exact List.getElem_mem hlt
    rw[hy] at hcell
    have p0:wr.cell? ⟨g,o+k*2,none⟩=some (.string y.name):=hcell 0 (by decide)
    have p1:wr.cell? ⟨g,o+k*2+1,none⟩=some (.string y.key):=hcell 1 (by decide)
    have hki:(k:Int)<(q.items.length:Int):=by omega
    have HNX:Hid ((ws++[kRETURN]++gather itemW true (q.items.take (k+1)))=(ws++[kRETURN]++gather itemW true (q.items.take k))++itemW (decide (k=0)) y):=by show _=_;rw[gather_next itemW hlt,hy];simp only[List.append_assoc]
    have hlen:(ws++[kRETURN]++gather itemW true (q.items.take k)).length≤2100:=by
     have:=gatherW_len itemW 4 itemW_len (q.items.take k) true
     rw[List.length_take_of_le (by omega)] at this
     simp only[List.length_append,List.length_singleton]
     omega
    obtain⟨us,hus⟩:∃us,(ws++[kRETURN]++gather itemW true (q.items.take k))=us:=⟨_,rfl⟩
    rw[hus] at HI HNX hlen
    have HZ0:=Lib.hid (Loc.new wr #[.string y.name,.string y.key] 89)
    have HI0:=Lib.hid (HI.out.alloc (.cells #[.string y.name,.string y.key] 89))
    have HX0:=Lib.hid (HX.out.alloc (.cells #[.string y.name,.string y.key] 89))
    have F0:=Lib.hid (HF.out.alloc (.cells #[.string y.name,.string y.key] 89))
    clear hus hcell hy HI HX HF
    go_upto_region 5 with fail
    obtain⟨Z,hZ⟩:∃Z,Z=wr.heap.size:=⟨_,rfl⟩
    rw[←hZ] at HZ0⊢
    clear hZ
    generalize wr.alloc (.cells #[.string y.name,.string y.key] 89)=V0 at HZ0 HI0 HX0 F0⊢
    clear p0 p1
    have HEQ:Hid (us++itemW (decide (k=0)) y=us++(if k=0 then [] else [mComma])++oneW y):=by show _=_;unfold itemW;by_cases hk0:k=0<;>simp[hk0]
    clear hmem
    go_wp2_with fail
    refine(between_ (k:=k) (s:=⟨#[44]⟩) HI0.out (by omega)).mono ?_
    rintro e V1 ⟨rfl,h1,f1⟩
    have HI1:=Lib.hid h1
    have HZ1:=Lib.hid (f1 Z _ _ HZ0.out (by decide) (by decide))
    have HX1:=Lib.hid (f1 X _ _ HX0.out (by decide) (by decide))
    have F1:=Lib.hid (F0.out.trans f1)
    clear h1 f1 HI0 HX0 HZ0 F0
    have hlen2:(us++(if k=0 then [] else [mComma])).length≤2101:=by rw[List.length_append];split<;>simp<;>omega
    obtain⟨us2,hus2⟩:∃us2,us++(if k=0 then [] else [mComma])=us2:=⟨_,rfl⟩
    have HI1b:Hid (WI W0 b us2 V1):=by show WI _ _ _ _;rw[←hus2];exact HI1.out
    rw[hus2] at HEQ hlen2
    clear hus2 HI1
    have HI1:=HI1b
    have z0:=HZ1.out.at_ 0 (.string y.name) rfl
    have z1:=HZ1.out.at_ 1 (.string y.key) rfl
    go_wp2_with fail
    refine(witem (x:=y) HI1.out (by omega)).mono ?_
    rintro e V2 ⟨rfl,h1,f1⟩
    have HI2:=Lib.hid h1
    have HZ2:=Lib.hid (f1 Z _ _ HZ1.out (by decide) (by decide))
    have HX2:=Lib.hid (f1 X _ _ HX1.out (by decide) (by decide))
    have F2:=Lib.hid (F1.out.trans f1)
    clear z0 z1
    clear h1 f1 HI1 HX1 HZ1 F1
    clear HI1b
    go_wp2_with fail
    go_roundg (gk - 1)
    case measure=>omega
    case rel=>exact⟨k+1,by simp,by omega,by rw[HNX.out];rw[HEQ.out];exact HI2.out,HX2.out,F2.out⟩
   ·have hki:¬(k:Int)<(q.items.length:Int):=by omega
    have hk2:k=q.items.length:=by omega
    have HK:=Lib.hid hk2
    clear hk2
    go_wp2_with fail
    go_meet
    case rel=>exact⟨by have h:=HI.out;rw[HK.out,List.take_length] at h;exact h,HX.out,HF.out⟩
 case rest=>
  obtain⟨hi,hx,hfr⟩:=hcut
  have hlen0:(ws++[kRETURN]++gather itemW true q.items).length≤2100:=by
   have:=gatherW_len itemW 4 itemW_len q.items true
   simp only[List.length_append,List.length_singleton]
   omega
  have HEM:Hid (ws++readW q=ws++[kRETURN]++gather itemW true q.items++orderW q++skipW q++limitW q):=by show _=_;unfold readW partW;simp
  obtain⟨ws1,hws1⟩:∃ws1,ws++[kRETURN]++gather itemW true q.items=ws1:=⟨_,rfl⟩
  rw[hws1] at hi hlen0 HEM
  have HI9:=Lib.hid hi
  have HX9:=Lib.hid hx
  have F9:=Lib.hid hfr
  clear hi hx hfr hws1 HI1 HX1 F1
  have c4:=HX9.out.at_ 4 (.int .i64 q.order) rfl
  go_upto_if 26 with fail
  clear c4
  go_cut [] (fun w=>WI W0 b (ws1++orderW q) w∧Loc w X (qC q (.slice aos q.spots.length cas) (.slice aoc q.conds.length cac) (.slice aoi q.items.length cai) (.slice aop q.pairs.length cap)) 29∧FrW W w)
  case first=>
   by_cases ho:q.order=0
   ·have HE:Hid (orderW q=[]):=by show _=_;unfold orderW;rw[if_pos ho]
    have hb:(q.order != 0)=false:=by rw[ho];rfl
    clear ho
    go_wp2_with fail
    go_meet
    case rel=>exact⟨by rw[HE.out,List.append_nil];exact HI9.out,HX9.out,F9.out⟩
   ·have hb:(q.order != 0)=true:=by simp only[bne_iff_ne];exact ho
    have HO:=Lib.hid HQF.out.od
    cases hd:q.down with
    | false=>
     have HE:Hid (ws1++orderW q=ws1++[kORDER,kBY,decB q.order]):=by show _=_;unfold orderW;rw[if_neg ho,hd];simp
     clear ho
     have c9_4:=HX9.out.at_ 4 (.int .i64 q.order) rfl
     go_wp2_with fail
     refine(itoa_ HO.out (HI9.out.tab ht)).mono ?_
     rintro e W10_ ⟨rfl,hb⟩
     have HI10:=Lib.hid (HI9.out.later hb)
     have HX10:=Lib.hid (HX9.out.grown (grown_below hb none) (by simp))
     have F10:=Lib.hid (F9.out.later hb)
     clear c9_4
     clear hb HI9 HX9 F9
     have HA:=Lib.hid (HI10.out.alloc (.cells #[.string ⟨#[79,82,68,69,82]⟩,.string ⟨#[66,89]⟩,.string (decB q.order)] 9))
     have HG:=Lib.hid (Loc.new W10_ #[.string ⟨#[79,82,68,69,82]⟩,.string ⟨#[66,89]⟩,.string (decB q.order)] 9)
     go_wp2_with fail
     refine(add_ (m:=3) (new:=[⟨#[79,82,68,69,82]⟩,⟨#[66,89]⟩,(decB q.order)]) HA.out HG.out rfl rfl (by omega) (by simp;omega)).mono ?_
     rintro e W11_ ⟨rfl,h1,f1⟩
     have HI11:=Lib.hid h1
     have HX11:=Lib.hid (f1 X _ _ (HX10.out.alloc _) (by decide) (by decide))
     have F11:=Lib.hid ((F10.out.alloc _).trans f1)
     clear h1 f1 HI10 HX10 F10 HA HG
     have c11_5:=HX11.out.at_ 5 (.bool q.down) rfl
     go_wp2_with fail
     go_meet
     case rel=>exact⟨by rw[HE.out];exact HI11.out,HX11.out,F11.out⟩
    | true=>
     have HE:Hid (ws1++orderW q=ws1++[kORDER,kBY,decB q.order]++[kDESC]):=by show _=_;unfold orderW;rw[if_neg ho,hd];simp
     clear ho
     have c9_4:=HX9.out.at_ 4 (.int .i64 q.order) rfl
     go_wp2_with fail
     refine(itoa_ HO.out (HI9.out.tab ht)).mono ?_
     rintro e W10_ ⟨rfl,hb⟩
     have HI10:=Lib.hid (HI9.out.later hb)
     have HX10:=Lib.hid (HX9.out.grown (grown_below hb none) (by simp))
     have F10:=Lib.hid (F9.out.later hb)
     clear c9_4
     clear hb HI9 HX9 F9
     have HA:=Lib.hid (HI10.out.alloc (.cells #[.string ⟨#[79,82,68,69,82]⟩,.string ⟨#[66,89]⟩,.string (decB q.order)] 9))
     have HG:=Lib.hid (Loc.new W10_ #[.string ⟨#[79,82,68,69,82]⟩,.string ⟨#[66,89]⟩,.string (decB q.order)] 9)
     go_wp2_with fail
     refine(add_ (m:=3) (new:=[⟨#[79,82,68,69,82]⟩,⟨#[66,89]⟩,(decB q.order)]) HA.out HG.out rfl rfl (by omega) (by simp;omega)).mono ?_
     rintro e W11_ ⟨rfl,h1,f1⟩
     have HI11:=Lib.hid h1
     have HX11:=Lib.hid (f1 X _ _ (HX10.out.alloc _) (by decide) (by decide))
     have F11:=Lib.hid ((F10.out.alloc _).trans f1)
     clear h1 f1 HI10 HX10 F10 HA HG
     have c11_5:=HX11.out.at_ 5 (.bool q.down) rfl
     have HA:=Lib.hid (HI11.out.alloc (.cells #[.string ⟨#[68,69,83,67]⟩] 9))
     have HG:=Lib.hid (Loc.new W11_ #[.string ⟨#[68,69,83,67]⟩] 9)
     go_wp2_with fail
     refine(add_ (m:=1) (new:=[⟨#[68,69,83,67]⟩]) HA.out HG.out rfl rfl (by omega) (by simp;omega)).mono ?_
     rintro e W12_ ⟨rfl,h1,f1⟩
     have HI12:=Lib.hid h1
     have HX12:=Lib.hid (f1 X _ _ (HX11.out.alloc _) (by decide) (by decide))
     have F12:=Lib.hid ((F11.out.alloc _).trans f1)
     clear c11_5
     clear h1 f1 HI11 HX11 F11 HA HG
     go_wp2_with fail
     go_meet
     case rel=>exact⟨by rw[HE.out];exact HI12.out,HX12.out,F12.out⟩
  case rest=>
   obtain⟨hi,hx,hfr⟩:=hcut
   have hlen1:(ws1++orderW q).length≤2104:=by have:=orderW_len q;rw[List.length_append];omega
   obtain⟨ws2,hws2⟩:∃ws2,ws1++orderW q=ws2:=⟨_,rfl⟩
   rw[hws2] at hi hlen1 HEM
   clear HI9 HX9 F9
   have HI9:=Lib.hid hi
   have HX9:=Lib.hid hx
   have F9:=Lib.hid hfr
   clear hi hx hfr hws2
   have c6:=HX9.out.at_ 6 (.int .i64 q.skip) rfl
   go_upto_if 40 with fail
   clear c6
   go_cut [] (fun w=>WI W0 b (ws2++skipW q) w∧Loc w X (qC q (.slice aos q.spots.length cas) (.slice aoc q.conds.length cac) (.slice aoi q.items.length cai) (.slice aop q.pairs.length cap)) 29∧FrW W w)
   case first=>
    by_cases ho:q.skip=0
    ·have HE:Hid (skipW q=[]):=by show _=_;unfold skipW;rw[if_pos ho]
     have hb:(q.skip != 0)=false:=by rw[ho];rfl
     clear ho
     go_wp2_with fail
     go_meet
     case rel=>exact⟨by rw[HE.out,List.append_nil];exact HI9.out,HX9.out,F9.out⟩
    ·have hb:(q.skip != 0)=true:=by simp only[bne_iff_ne];exact ho
     have HO:=Lib.hid HQF.out.sk
     have HE:Hid (skipW q=[kSKIP,decB q.skip]):=by show _=_;unfold skipW;rw[if_neg ho]
     clear ho
     have c9_6:=HX9.out.at_ 6 (.int .i64 q.skip) rfl
     go_wp2_with fail
     refine(itoa_ HO.out (HI9.out.tab ht)).mono ?_
     rintro e W10_ ⟨rfl,hb⟩
     have HI10:=Lib.hid (HI9.out.later hb)
     have HX10:=Lib.hid (HX9.out.grown (grown_below hb none) (by simp))
     have F10:=Lib.hid (F9.out.later hb)
     clear c9_6
     clear hb HI9 HX9 F9
     have HA:=Lib.hid (HI10.out.alloc (.cells #[.string ⟨#[83,75,73,80]⟩,.string (decB q.skip)] 9))
     have HG:=Lib.hid (Loc.new W10_ #[.string ⟨#[83,75,73,80]⟩,.string (decB q.skip)] 9)
     go_wp2_with fail
     refine(add_ (m:=2) (new:=[⟨#[83,75,73,80]⟩,(decB q.skip)]) HA.out HG.out rfl rfl (by omega) (by simp;omega)).mono ?_
     rintro e W11_ ⟨rfl,h1,f1⟩
     have HI11:=Lib.hid h1
     have HX11:=Lib.hid (f1 X _ _ (HX10.out.alloc _) (by decide) (by decide))
     have F11:=Lib.hid ((F10.out.alloc _).trans f1)
     clear h1 f1 HI10 HX10 F10 HA HG
     go_wp2_with fail
     go_meet
     case rel=>exact⟨by rw[HE.out];exact HI11.out,HX11.out,F11.out⟩
   case rest=>
    obtain⟨hi,hx,hfr⟩:=hcut
    have hlen2:(ws2++skipW q).length≤2106:=by have:=skipW_len q;rw[List.length_append];omega
    obtain⟨ws3,hws3⟩:∃ws3,ws2++skipW q=ws3:=⟨_,rfl⟩
    rw[hws3] at hi hlen2 HEM
    clear HI9 HX9 F9
    have HI9:=Lib.hid hi
    have HX9:=Lib.hid hx
    have F9:=Lib.hid hfr
    clear hi hx hfr hws3
    have c7:=HX9.out.at_ 7 (.int .i64 q.limit) rfl
    by_cases ho:q.limit=-1
    ·have HE:Hid (limitW q=[]):=by show _=_;unfold limitW;rw[if_pos ho]
     have hb:(q.limit != -1)=false:=by rw[ho];rfl
     clear ho
     go_wp2_with fail
     go_end0
     exact⟨rfl,by rw[HEM.out,HE.out,List.append_nil];exact HI9.out,F9.out⟩
    ·have hb:(q.limit != -1)=true:=by simp only[bne_iff_ne];exact ho
     clear c7
     have HO:=Lib.hid HQF.out.li
     have HE:Hid (limitW q=[kLIMIT,decB q.limit]):=by show _=_;unfold limitW;rw[if_neg ho]
     clear ho
     have c9_7:=HX9.out.at_ 7 (.int .i64 q.limit) rfl
     go_wp2_with fail
     refine(itoa_ HO.out (HI9.out.tab ht)).mono ?_
     rintro e W10_ ⟨rfl,hb⟩
     have HI10:=Lib.hid (HI9.out.later hb)
     have HX10:=Lib.hid (HX9.out.grown (grown_below hb none) (by simp))
     have F10:=Lib.hid (F9.out.later hb)
     clear c9_7
     clear hb HI9 HX9 F9
     have HA:=Lib.hid (HI10.out.alloc (.cells #[.string ⟨#[76,73,77,73,84]⟩,.string (decB q.limit)] 9))
     have HG:=Lib.hid (Loc.new W10_ #[.string ⟨#[76,73,77,73,84]⟩,.string (decB q.limit)] 9)
     go_wp2_with fail
     refine(add_ (m:=2) (new:=[⟨#[76,73,77,73,84]⟩,(decB q.limit)]) HA.out HG.out rfl rfl (by omega) (by simp;omega)).mono ?_
     rintro e W11_ ⟨rfl,h1,f1⟩
     have HI11:=Lib.hid h1
     have HX11:=Lib.hid (f1 X _ _ (HX10.out.alloc _) (by decide) (by decide))
     have F11:=Lib.hid ((F10.out.alloc _).trans f1)
     clear h1 f1 HI10 HX10 F10 HA HG
     go_wp2_with fail
     go_end0
     exact⟨rfl,by rw[HEM.out,HE.out];exact HI11.out,F11.out⟩
end Go.Proofs.YtobgbmfpicmpcaaGreatDoor

