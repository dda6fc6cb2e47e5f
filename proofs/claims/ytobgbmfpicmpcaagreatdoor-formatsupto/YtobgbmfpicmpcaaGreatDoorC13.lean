/- The reference's writer: a query that changes something, or calls. -/
import Derived.Test.YtobgbmfpicmpcaaGreatDoorC12
namespace Go.Proofs.YtobgbmfpicmpcaaGreatDoor
open Go.RowKit Go.Sort
structure QShort (q:PQuery):Prop where
 sp:∀s∈q.spots,ShortSpot s
 co:∀c∈q.conds,ShortCond c
 it:∀x∈q.items,ShortItem x
 pa:∀p∈q.pairs,ShortPair p
 na:Short q.name
 ke:Short q.key
 va:ShortTerm q.value
 ty:Short q.type
 tw:Short q.to
 la:Short q.label
 od:I64 q.order
 sk:I64 q.skip
 li:I64 q.limit
 n1:q.spots.length≤6
 n2:q.conds.length≤6
 n3:q.items.length≤6
 n4:q.pairs.length≤6
theorem matchT_len {q:PQuery} (h:QShort q):(matchT q).length≤50000000:=by
 rw[←matchT_eq]
 exact condsText_len h.sp h.n1 h.co h.n2 _
set_option maxRecDepth 100000 in
set_option maxHeartbeats 4000000 in
theorem written2 {W:World} {q:PQuery} {vs vc vi vp:Value} (hq:QSees W q vs vc vi vp) (hs:QShort q) (hk:q.kind=2):
  Calls Tryz.prog 56 #[.agg (qC q vs vc vi vp)] W fun e W'=>e=.returned (.string (B (queryT q)))∧Below W.heap.size W W':=by
 obtain⟨aos,cas,rfl,ks⟩:=sees_slice (l:=q.spots) hq.rs
 obtain⟨aoc,cac,rfl,kc⟩:=sees_slice (l:=q.conds) hq.rc
 obtain⟨aoi,cai,rfl,ki⟩:=sees_slice (l:=q.items) hq.rt
 obtain⟨aop,cap,rfl,kp⟩:=sees_slice (l:=q.pairs) hq.rp
 clear ks kc ki kp
 have HQS:=Lib.hid hq
 have HS:=Lib.hid hs
 clear hq hs
 have R0:Hid (RW W W.heap.size (qC q (.slice aos q.spots.length cas) (.slice aoc q.conds.length cac) (.slice aoi q.items.length cai) (.slice aop q.pairs.length cap)) (W.alloc (.cells (qC q (.slice aos q.spots.length cas) (.slice aoc q.conds.length cac) (.slice aoi q.items.length cai) (.slice aop q.pairs.length cap)) 29))):=⟨(Below.refl _ _).alloc (Nat.le_refl _) _,Loc.new _ _ _⟩
 have HE:Hid (B (matchT q)++⟨#[32,83,69,84,32]⟩++q.name++⟨#[32,46,32]⟩++q.key++⟨#[32,61,32]⟩++B (termT q.value)=B (queryT q)):=by
  show _=_
  unfold queryT
  rw[if_pos hk]
  simp only[←B_app,B_bl]
  rfl
 have hms:(B (matchT q)).size≤50000000:=by rw[B_size];exact matchT_len HS.out
 have hts:(B (termT q.value)).size≤2097155:=by rw[B_size];exact termT_len HS.out.va
 have cM0:Hid (∀w:World,Below W.heap.size W w→Calls Tryz.prog 116 #[.agg #[.int .i64 q.kind,.slice aos q.spots.length cas,.slice aoc q.conds.length cac,.slice aoi q.items.length cai,.int .i64 q.order,.bool q.down,.int .i64 q.skip,.int .i64 q.limit,.string q.name,.string q.key,.string q.value.name,.string q.value.key,.int .i64 q.value.val,.string q.type,.string q.to,.string q.label,.slice aop q.pairs.length cap]] w fun e W'=>e=.returned (.string (B (matchT q)))∧Below w.heap.size w W'):=fun w hb=>matchText_ (HQS.out.below hb) HS.out.sp HS.out.co HS.out.n1 HS.out.n2
 obtain⟨ms,hm⟩:∃ms,B (matchT q)=ms:=⟨_,rfl⟩
 rw[hm] at HE hms cM0
 have cT0:Hid (∀w:World,Calls Tryz.prog 117 #[.agg #[.string q.value.name,.string q.value.key,.int .i64 q.value.val]] w fun e W'=>e=.returned (.string (B (termT q.value)))∧Below w.heap.size w W'):=fun w=>termText_ HS.out.va.2.2 HS.out.va.1 HS.out.va.2.1
 obtain⟨ts,ht⟩:∃ts,B (termT q.value)=ts:=⟨_,rfl⟩
 rw[ht] at HE hts cT0
 clear ht
 clear hm
 have z_na:q.name.size≤1048576:=HS.out.na
 have z_ke:q.key.size≤1048576:=HS.out.ke
 have n1:¬9223372036854775807<ms.size+5:=by omega
 have n2:¬9223372036854775807<ms.size+5+q.name.size:=by omega
 have n3:¬9223372036854775807<ms.size+5+q.name.size+3:=by omega
 have n4:¬9223372036854775807<ms.size+5+q.name.size+3+q.key.size:=by omega
 have n5:¬9223372036854775807<ms.size+5+q.name.size+3+q.key.size+3:=by omega
 have n6:¬9223372036854775807<ms.size+5+q.name.size+3+q.key.size+3+ts.size:=by omega
 have b2:(q.kind==2)=true:=by rw[hk];rfl
 clear hk
 go_enter Tryz.func56,Tryz.ntmps56
 go_upto_region 1 with fail
 obtain⟨X,hX⟩:∃X,X=W.heap.size:=⟨_,rfl⟩
 rw[←hX] at R0⊢
 clear hX
 generalize W.alloc (.cells (qC q (.slice aos q.spots.length cas) (.slice aoc q.conds.length cac) (.slice aoi q.items.length cai) (.slice aop q.pairs.length cap)) 29)=W1 at R0⊢
 have c0:=R0.out.lq.at_ 0 (.int .i64 q.kind) rfl
 go_upto_region 3 with fail
 clear c0
 have d0:=cell_regrown (show W1.cell? ⟨X,0,none⟩=some (.int .i64 q.kind) from (R0.out.lq.cell 0).trans rfl)
 have d1:=cell_regrown (show W1.cell? ⟨X,1,none⟩=some (.slice aos q.spots.length cas) from (R0.out.lq.cell 1).trans rfl)
 have d2:=cell_regrown (show W1.cell? ⟨X,2,none⟩=some (.slice aoc q.conds.length cac) from (R0.out.lq.cell 2).trans rfl)
 have d3:=cell_regrown (show W1.cell? ⟨X,3,none⟩=some (.slice aoi q.items.length cai) from (R0.out.lq.cell 3).trans rfl)
 have d4:=cell_regrown (show W1.cell? ⟨X,4,none⟩=some (.int .i64 q.order) from (R0.out.lq.cell 4).trans rfl)
 have d5:=cell_regrown (show W1.cell? ⟨X,5,none⟩=some (.bool q.down) from (R0.out.lq.cell 5).trans rfl)
 have d6:=cell_regrown (show W1.cell? ⟨X,6,none⟩=some (.int .i64 q.skip) from (R0.out.lq.cell 6).trans rfl)
 have d7:=cell_regrown (show W1.cell? ⟨X,7,none⟩=some (.int .i64 q.limit) from (R0.out.lq.cell 7).trans rfl)
 have d8:=cell_regrown (show W1.cell? ⟨X,8,none⟩=some (.string q.name) from (R0.out.lq.cell 8).trans rfl)
 have d9:=cell_regrown (show W1.cell? ⟨X,9,none⟩=some (.string q.key) from (R0.out.lq.cell 9).trans rfl)
 have d10:=cell_regrown (show W1.cell? ⟨X,10,none⟩=some (.string q.value.name) from (R0.out.lq.cell 10).trans rfl)
 have d11:=cell_regrown (show W1.cell? ⟨X,11,none⟩=some (.string q.value.key) from (R0.out.lq.cell 11).trans rfl)
 have d12:=cell_regrown (show W1.cell? ⟨X,12,none⟩=some (.int .i64 q.value.val) from (R0.out.lq.cell 12).trans rfl)
 have d13:=cell_regrown (show W1.cell? ⟨X,13,none⟩=some (.string q.type) from (R0.out.lq.cell 13).trans rfl)
 have d14:=cell_regrown (show W1.cell? ⟨X,14,none⟩=some (.string q.to) from (R0.out.lq.cell 14).trans rfl)
 have d15:=cell_regrown (show W1.cell? ⟨X,15,none⟩=some (.string q.label) from (R0.out.lq.cell 15).trans rfl)
 have d16:=cell_regrown (show W1.cell? ⟨X,16,none⟩=some (.slice aop q.pairs.length cap) from (R0.out.lq.cell 16).trans rfl)
 have cM:∀d os,Calls Tryz.prog 116 #[.agg #[.int .i64 q.kind,.slice aos q.spots.length cas,.slice aoc q.conds.length cac,.slice aoi q.items.length cai,.int .i64 q.order,.bool q.down,.int .i64 q.skip,.int .i64 q.limit,.string q.name,.string q.key,.string q.value.name,.string q.value.key,.int .i64 q.value.val,.string q.type,.string q.to,.string q.label,.slice aop q.pairs.length cap]] (grow (redrawn W1 d) os) fun e w''=>e=.returned (.string ms)∧∃p:Regrown,w''=grow (redrawn W1 p.d) p.os:=fun d os=>Calls.regrown_of (cM0.out _ (R0.out.later (below_regrown W1 d os)).low)
 have cT:∀d os,Calls Tryz.prog 117 #[.agg #[.string q.value.name,.string q.value.key,.int .i64 q.value.val]] (grow (redrawn W1 d) os) fun e w''=>e=.returned (.string ts)∧∃p:Regrown,w''=grow (redrawn W1 p.d) p.os:=fun d os=>Calls.regrown_of (cT0.out _)
 refine wp_region_quiet_below (by kernel_rfl) (by kernel_rfl) ?_
 repeat (quiet_step (first|(go_at_call 116;exact cM _ _)|exact cT _ _))
 refine wpQuiet_nil ?_
 intro W5 hw5
 have H5:Hid (Below W.heap.size W W5):=by
  obtain⟨⟨dq,osq⟩,rfl⟩:=hw5
  exact(R0.out.later (below_regrown W1 dq osq)).low
 clear hw5 cM cT d0 d1 d2 d3 d4 d5 d6 d7 d8 d9 d10 d11 d12 d13 d14 d15 d16
 go_wp2_with fail
 go_ret
 exact⟨by rw[←HE.out];rfl,H5.out⟩
set_option maxRecDepth 100000 in
set_option maxHeartbeats 4000000 in
theorem written3 {W:World} {q:PQuery} {vs vc vi vp:Value} (hq:QSees W q vs vc vi vp) (hs:QShort q) (hk:q.kind=3):
  Calls Tryz.prog 56 #[.agg (qC q vs vc vi vp)] W fun e W'=>e=.returned (.string (B (queryT q)))∧Below W.heap.size W W':=by
 obtain⟨aos,cas,rfl,ks⟩:=sees_slice (l:=q.spots) hq.rs
 obtain⟨aoc,cac,rfl,kc⟩:=sees_slice (l:=q.conds) hq.rc
 obtain⟨aoi,cai,rfl,ki⟩:=sees_slice (l:=q.items) hq.rt
 obtain⟨aop,cap,rfl,kp⟩:=sees_slice (l:=q.pairs) hq.rp
 clear ks kc ki kp
 have HQS:=Lib.hid hq
 have HS:=Lib.hid hs
 clear hq hs
 have R0:Hid (RW W W.heap.size (qC q (.slice aos q.spots.length cas) (.slice aoc q.conds.length cac) (.slice aoi q.items.length cai) (.slice aop q.pairs.length cap)) (W.alloc (.cells (qC q (.slice aos q.spots.length cas) (.slice aoc q.conds.length cac) (.slice aoi q.items.length cai) (.slice aop q.pairs.length cap)) 29))):=⟨(Below.refl _ _).alloc (Nat.le_refl _) _,Loc.new _ _ _⟩
 have HE:Hid (B (matchT q)++⟨#[32,68,69,76,69,84,69,32]⟩++q.name=B (queryT q)):=by
  show _=_
  unfold queryT
  rw[if_neg (by omega),if_pos hk]
  simp only[←B_app,B_bl]
  rfl
 have hms:(B (matchT q)).size≤50000000:=by rw[B_size];exact matchT_len HS.out
 have cM0:Hid (∀w:World,Below W.heap.size W w→Calls Tryz.prog 116 #[.agg #[.int .i64 q.kind,.slice aos q.spots.length cas,.slice aoc q.conds.length cac,.slice aoi q.items.length cai,.int .i64 q.order,.bool q.down,.int .i64 q.skip,.int .i64 q.limit,.string q.name,.string q.key,.string q.value.name,.string q.value.key,.int .i64 q.value.val,.string q.type,.string q.to,.string q.label,.slice aop q.pairs.length cap]] w fun e W'=>e=.returned (.string (B (matchT q)))∧Below w.heap.size w W'):=fun w hb=>matchText_ (HQS.out.below hb) HS.out.sp HS.out.co HS.out.n1 HS.out.n2
 obtain⟨ms,hm⟩:∃ms,B (matchT q)=ms:=⟨_,rfl⟩
 rw[hm] at HE hms cM0
 clear hm
 have z_na:q.name.size≤1048576:=HS.out.na
 have n1:¬9223372036854775807<ms.size+8:=by omega
 have n2:¬9223372036854775807<ms.size+8+q.name.size:=by omega
 have b2:(q.kind==2)=false:=by rw[hk];rfl
 have b3:(q.kind==3)=true:=by rw[hk];rfl
 clear hk
 go_enter Tryz.func56,Tryz.ntmps56
 go_upto_region 1 with fail
 obtain⟨X,hX⟩:∃X,X=W.heap.size:=⟨_,rfl⟩
 rw[←hX] at R0⊢
 clear hX
 generalize W.alloc (.cells (qC q (.slice aos q.spots.length cas) (.slice aoc q.conds.length cac) (.slice aoi q.items.length cai) (.slice aop q.pairs.length cap)) 29)=W1 at R0⊢
 have c0:=R0.out.lq.at_ 0 (.int .i64 q.kind) rfl
 go_upto_region 5 with fail
 clear c0
 have d0:=cell_regrown (show W1.cell? ⟨X,0,none⟩=some (.int .i64 q.kind) from (R0.out.lq.cell 0).trans rfl)
 have d1:=cell_regrown (show W1.cell? ⟨X,1,none⟩=some (.slice aos q.spots.length cas) from (R0.out.lq.cell 1).trans rfl)
 have d2:=cell_regrown (show W1.cell? ⟨X,2,none⟩=some (.slice aoc q.conds.length cac) from (R0.out.lq.cell 2).trans rfl)
 have d3:=cell_regrown (show W1.cell? ⟨X,3,none⟩=some (.slice aoi q.items.length cai) from (R0.out.lq.cell 3).trans rfl)
 have d4:=cell_regrown (show W1.cell? ⟨X,4,none⟩=some (.int .i64 q.order) from (R0.out.lq.cell 4).trans rfl)
 have d5:=cell_regrown (show W1.cell? ⟨X,5,none⟩=some (.bool q.down) from (R0.out.lq.cell 5).trans rfl)
 have d6:=cell_regrown (show W1.cell? ⟨X,6,none⟩=some (.int .i64 q.skip) from (R0.out.lq.cell 6).trans rfl)
 have d7:=cell_regrown (show W1.cell? ⟨X,7,none⟩=some (.int .i64 q.limit) from (R0.out.lq.cell 7).trans rfl)
 have d8:=cell_regrown (show W1.cell? ⟨X,8,none⟩=some (.string q.name) from (R0.out.lq.cell 8).trans rfl)
 have d9:=cell_regrown (show W1.cell? ⟨X,9,none⟩=some (.string q.key) from (R0.out.lq.cell 9).trans rfl)
 have d10:=cell_regrown (show W1.cell? ⟨X,10,none⟩=some (.string q.value.name) from (R0.out.lq.cell 10).trans rfl)
 have d11:=cell_regrown (show W1.cell? ⟨X,11,none⟩=some (.string q.value.key) from (R0.out.lq.cell 11).trans rfl)
 have d12:=cell_regrown (show W1.cell? ⟨X,12,none⟩=some (.int .i64 q.value.val) from (R0.out.lq.cell 12).trans rfl)
 have d13:=cell_regrown (show W1.cell? ⟨X,13,none⟩=some (.string q.type) from (R0.out.lq.cell 13).trans rfl)
 have d14:=cell_regrown (show W1.cell? ⟨X,14,none⟩=some (.string q.to) from (R0.out.lq.cell 14).trans rfl)
 have d15:=cell_regrown (show W1.cell? ⟨X,15,none⟩=some (.string q.label) from (R0.out.lq.cell 15).trans rfl)
 have d16:=cell_regrown (show W1.cell? ⟨X,16,none⟩=some (.slice aop q.pairs.length cap) from (R0.out.lq.cell 16).trans rfl)
 have cM:∀d os,Calls Tryz.prog 116 #[.agg #[.int .i64 q.kind,.slice aos q.spots.length cas,.slice aoc q.conds.length cac,.slice aoi q.items.length cai,.int .i64 q.order,.bool q.down,.int .i64 q.skip,.int .i64 q.limit,.string q.name,.string q.key,.string q.value.name,.string q.value.key,.int .i64 q.value.val,.string q.type,.string q.to,.string q.label,.slice aop q.pairs.length cap]] (grow (redrawn W1 d) os) fun e w''=>e=.returned (.string ms)∧∃p:Regrown,w''=grow (redrawn W1 p.d) p.os:=fun d os=>Calls.regrown_of (cM0.out _ (R0.out.later (below_regrown W1 d os)).low)
 refine wp_region_quiet_below (by kernel_rfl) (by kernel_rfl) ?_
 repeat (quiet_step (exact cM _ _))
 refine wpQuiet_nil ?_
 intro W5 hw5
 have H5:Hid (Below W.heap.size W W5):=by
  obtain⟨⟨dq,osq⟩,rfl⟩:=hw5
  exact(R0.out.later (below_regrown W1 dq osq)).low
 clear hw5 cM d0 d1 d2 d3 d4 d5 d6 d7 d8 d9 d10 d11 d12 d13 d14 d15 d16
 go_wp2_with fail
 go_ret
 exact⟨by rw[←HE.out];rfl,H5.out⟩
set_option maxRecDepth 100000 in
set_option maxHeartbeats 4000000 in
theorem written4 {W:World} {q:PQuery} {vs vc vi vp:Value} (hq:QSees W q vs vc vi vp) (hs:QShort q) (hk:q.kind=4):
  Calls Tryz.prog 56 #[.agg (qC q vs vc vi vp)] W fun e W'=>e=.returned (.string (B (queryT q)))∧Below W.heap.size W W':=by
 obtain⟨aos,cas,rfl,ks⟩:=sees_slice (l:=q.spots) hq.rs
 obtain⟨aoc,cac,rfl,kc⟩:=sees_slice (l:=q.conds) hq.rc
 obtain⟨aoi,cai,rfl,ki⟩:=sees_slice (l:=q.items) hq.rt
 obtain⟨aop,cap,rfl,kp⟩:=sees_slice (l:=q.pairs) hq.rp
 clear ks kc ki kp
 have HQS:=Lib.hid hq
 have HS:=Lib.hid hs
 clear hq hs
 have R0:Hid (RW W W.heap.size (qC q (.slice aos q.spots.length cas) (.slice aoc q.conds.length cac) (.slice aoi q.items.length cai) (.slice aop q.pairs.length cap)) (W.alloc (.cells (qC q (.slice aos q.spots.length cas) (.slice aoc q.conds.length cac) (.slice aoi q.items.length cai) (.slice aop q.pairs.length cap)) 29))):=⟨(Below.refl _ _).alloc (Nat.le_refl _) _,Loc.new _ _ _⟩
 have HE:Hid (B (matchT q)++⟨#[32,67,82,69,65,84,69,32,40,32]⟩++q.name++⟨#[32,41,32,45,91,32]⟩++q.type++⟨#[32,93,45,62,32,40,32]⟩++q.to++⟨#[32,41]⟩=B (queryT q)):=by
  show _=_
  unfold queryT
  rw[if_neg (by omega),if_neg (by omega),if_pos hk]
  simp only[←B_app,B_bl]
  rfl
 have hms:(B (matchT q)).size≤50000000:=by rw[B_size];exact matchT_len HS.out
 have cM0:Hid (∀w:World,Below W.heap.size W w→Calls Tryz.prog 116 #[.agg #[.int .i64 q.kind,.slice aos q.spots.length cas,.slice aoc q.conds.length cac,.slice aoi q.items.length cai,.int .i64 q.order,.bool q.down,.int .i64 q.skip,.int .i64 q.limit,.string q.name,.string q.key,.string q.value.name,.string q.value.key,.int .i64 q.value.val,.string q.type,.string q.to,.string q.label,.slice aop q.pairs.length cap]] w fun e W'=>e=.returned (.string (B (matchT q)))∧Below w.heap.size w W'):=fun w hb=>matchText_ (HQS.out.below hb) HS.out.sp HS.out.co HS.out.n1 HS.out.n2
 obtain⟨ms,hm⟩:∃ms,B (matchT q)=ms:=⟨_,rfl⟩
 rw[hm] at HE hms cM0
 clear hm
 have z_na:q.name.size≤1048576:=HS.out.na
 have z_ty:q.type.size≤1048576:=HS.out.ty
 have z_tw:q.to.size≤1048576:=HS.out.tw
 have n1:¬9223372036854775807<ms.size+10:=by omega
 have n2:¬9223372036854775807<ms.size+10+q.name.size:=by omega
 have n3:¬9223372036854775807<ms.size+10+q.name.size+6:=by omega
 have n4:¬9223372036854775807<ms.size+10+q.name.size+6+q.type.size:=by omega
 have n5:¬9223372036854775807<ms.size+10+q.name.size+6+q.type.size+7:=by omega
 have n6:¬9223372036854775807<ms.size+10+q.name.size+6+q.type.size+7+q.to.size:=by omega
 have n7:¬9223372036854775807<ms.size+10+q.name.size+6+q.type.size+7+q.to.size+2:=by omega
 have b2:(q.kind==2)=false:=by rw[hk];rfl
 have b3:(q.kind==3)=false:=by rw[hk];rfl
 have b4:(q.kind==4)=true:=by rw[hk];rfl
 clear hk
 go_enter Tryz.func56,Tryz.ntmps56
 go_upto_region 1 with fail
 obtain⟨X,hX⟩:∃X,X=W.heap.size:=⟨_,rfl⟩
 rw[←hX] at R0⊢
 clear hX
 generalize W.alloc (.cells (qC q (.slice aos q.spots.length cas) (.slice aoc q.conds.length cac) (.slice aoi q.items.length cai) (.slice aop q.pairs.length cap)) 29)=W1 at R0⊢
 have c0:=R0.out.lq.at_ 0 (.int .i64 q.kind) rfl
 go_upto_region 7 with fail
 clear c0
 have d0:=cell_regrown (show W1.cell? ⟨X,0,none⟩=some (.int .i64 q.kind) from (R0.out.lq.cell 0).trans rfl)
 have d1:=cell_regrown (show W1.cell? ⟨X,1,none⟩=some (.slice aos q.spots.length cas) from (R0.out.lq.cell 1).trans rfl)
 have d2:=cell_regrown (show W1.cell? ⟨X,2,none⟩=some (.slice aoc q.conds.length cac) from (R0.out.lq.cell 2).trans rfl)
 have d3:=cell_regrown (show W1.cell? ⟨X,3,none⟩=some (.slice aoi q.items.length cai) from (R0.out.lq.cell 3).trans rfl)
 have d4:=cell_regrown (show W1.cell? ⟨X,4,none⟩=some (.int .i64 q.order) from (R0.out.lq.cell 4).trans rfl)
 have d5:=cell_regrown (show W1.cell? ⟨X,5,none⟩=some (.bool q.down) from (R0.out.lq.cell 5).trans rfl)
 have d6:=cell_regrown (show W1.cell? ⟨X,6,none⟩=some (.int .i64 q.skip) from (R0.out.lq.cell 6).trans rfl)
 have d7:=cell_regrown (show W1.cell? ⟨X,7,none⟩=some (.int .i64 q.limit) from (R0.out.lq.cell 7).trans rfl)
 have d8:=cell_regrown (show W1.cell? ⟨X,8,none⟩=some (.string q.name) from (R0.out.lq.cell 8).trans rfl)
 have d9:=cell_regrown (show W1.cell? ⟨X,9,none⟩=some (.string q.key) from (R0.out.lq.cell 9).trans rfl)
 have d10:=cell_regrown (show W1.cell? ⟨X,10,none⟩=some (.string q.value.name) from (R0.out.lq.cell 10).trans rfl)
 have d11:=cell_regrown (show W1.cell? ⟨X,11,none⟩=some (.string q.value.key) from (R0.out.lq.cell 11).trans rfl)
 have d12:=cell_regrown (show W1.cell? ⟨X,12,none⟩=some (.int .i64 q.value.val) from (R0.out.lq.cell 12).trans rfl)
 have d13:=cell_regrown (show W1.cell? ⟨X,13,none⟩=some (.string q.type) from (R0.out.lq.cell 13).trans rfl)
 have d14:=cell_regrown (show W1.cell? ⟨X,14,none⟩=some (.string q.to) from (R0.out.lq.cell 14).trans rfl)
 have d15:=cell_regrown (show W1.cell? ⟨X,15,none⟩=some (.string q.label) from (R0.out.lq.cell 15).trans rfl)
 have d16:=cell_regrown (show W1.cell? ⟨X,16,none⟩=some (.slice aop q.pairs.length cap) from (R0.out.lq.cell 16).trans rfl)
 have cM:∀d os,Calls Tryz.prog 116 #[.agg #[.int .i64 q.kind,.slice aos q.spots.length cas,.slice aoc q.conds.length cac,.slice aoi q.items.length cai,.int .i64 q.order,.bool q.down,.int .i64 q.skip,.int .i64 q.limit,.string q.name,.string q.key,.string q.value.name,.string q.value.key,.int .i64 q.value.val,.string q.type,.string q.to,.string q.label,.slice aop q.pairs.length cap]] (grow (redrawn W1 d) os) fun e w''=>e=.returned (.string ms)∧∃p:Regrown,w''=grow (redrawn W1 p.d) p.os:=fun d os=>Calls.regrown_of (cM0.out _ (R0.out.later (below_regrown W1 d os)).low)
 refine wp_region_quiet_below (by kernel_rfl) (by kernel_rfl) ?_
 repeat (quiet_step (exact cM _ _))
 refine wpQuiet_nil ?_
 intro W5 hw5
 have H5:Hid (Below W.heap.size W W5):=by
  obtain⟨⟨dq,osq⟩,rfl⟩:=hw5
  exact(R0.out.later (below_regrown W1 dq osq)).low
 clear hw5 cM d0 d1 d2 d3 d4 d5 d6 d7 d8 d9 d10 d11 d12 d13 d14 d15 d16
 go_wp2_with fail
 go_ret
 exact⟨by rw[←HE.out];rfl,H5.out⟩
set_option maxRecDepth 100000 in
set_option maxHeartbeats 4000000 in
theorem written6 {W:World} {q:PQuery} {vs vc vi vp:Value} (hq:QSees W q vs vc vi vp) (hs:QShort q) (hk:q.kind=6):
  Calls Tryz.prog 56 #[.agg (qC q vs vc vi vp)] W fun e W'=>e=.returned (.string (B (queryT q)))∧Below W.heap.size W W':=by
 obtain⟨aos,cas,rfl,ks⟩:=sees_slice (l:=q.spots) hq.rs
 obtain⟨aoc,cac,rfl,kc⟩:=sees_slice (l:=q.conds) hq.rc
 obtain⟨aoi,cai,rfl,ki⟩:=sees_slice (l:=q.items) hq.rt
 obtain⟨aop,cap,rfl,kp⟩:=sees_slice (l:=q.pairs) hq.rp
 clear ks kc ki kp
 have HQS:=Lib.hid hq
 have HS:=Lib.hid hs
 clear hq hs
 have R0:Hid (RW W W.heap.size (qC q (.slice aos q.spots.length cas) (.slice aoc q.conds.length cac) (.slice aoi q.items.length cai) (.slice aop q.pairs.length cap)) (W.alloc (.cells (qC q (.slice aos q.spots.length cas) (.slice aoc q.conds.length cac) (.slice aoi q.items.length cai) (.slice aop q.pairs.length cap)) 29))):=⟨(Below.refl _ _).alloc (Nat.le_refl _) _,Loc.new _ _ _⟩
 have HE:Hid ((⟨#[67,65,76,76,32]⟩:ByteArray)++q.name=B (queryT q)):=by
  show _=_
  unfold queryT
  rw[if_neg (by omega),if_neg (by omega),if_neg (by omega),if_neg (by omega),if_pos hk]
  simp only[←B_app,B_bl]
  rfl
 have z_na:q.name.size≤1048576:=HS.out.na
 have b2:(q.kind==2)=false:=by rw[hk];rfl
 have b3:(q.kind==3)=false:=by rw[hk];rfl
 have b4:(q.kind==4)=false:=by rw[hk];rfl
 have b5:(q.kind==5)=false:=by rw[hk];rfl
 have b6:(q.kind==6)=true:=by rw[hk];rfl
 clear hk
 go_enter Tryz.func56,Tryz.ntmps56
 go_upto_region 1 with fail
 obtain⟨X,hX⟩:∃X,X=W.heap.size:=⟨_,rfl⟩
 rw[←hX] at R0⊢
 clear hX
 generalize W.alloc (.cells (qC q (.slice aos q.spots.length cas) (.slice aoc q.conds.length cac) (.slice aoi q.items.length cai) (.slice aop q.pairs.length cap)) 29)=W1 at R0⊢
 have c0:=R0.out.lq.at_ 0 (.int .i64 q.kind) rfl
 have c8:=R0.out.lq.at_ 8 (.string q.name) rfl
 go_wp2_with fail
 go_ret
 exact⟨by rw[←HE.out];rfl,R0.out.low⟩
end Go.Proofs.YtobgbmfpicmpcaaGreatDoor

