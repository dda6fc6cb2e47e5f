/- The program's writer: a make, a whole query. -/
import Derived.Test.YtobgbmfpicmpcaaGreatDoorC14
import Derived.Test.YtobgbmfpicmpcaaGreatDoorC07
import Derived.Test.YtobgbmfpicmpcaaGreatDoorC11
namespace Go.Proofs.YtobgbmfpicmpcaaGreatDoor
open Go.RowKit
set_option maxRecDepth 100000 in
set_option maxHeartbeats 4000000 in
theorem wmakeNo {W0 W:World} {b:Nat} {ws:List ByteArray} {q:PQuery} {vs vc vi vp:Value} (h:WI W0 b ws W) (ht:Tab W0) (hq:QSees W0 q vs vc vi vp) (hf:QFits q) (n0:q.pairs.length=0) (hl:ws.length≤2000):
  Calls Tryz.prog 105 #[.pointer (some ⟨b,0,none⟩),.agg (qC q vs vc vi vp)] W fun e W'=>e=.returned (.tuple #[])∧WI W0 b (ws++makeW q) W'∧FrW W W':=by
 have hu:=ht
 clear hu
 obtain⟨aos,cas,rfl,hcas⟩:=sees_slice (l:=q.spots) hq.rs
 obtain⟨aoc,cac,rfl,hcac⟩:=sees_slice (l:=q.conds) hq.rc
 obtain⟨aoi,cai,rfl,hcai⟩:=sees_slice (l:=q.items) hq.rt
 obtain⟨aop,cap,rfl,hcap⟩:=sees_slice (l:=q.pairs) hq.rp
 have HQS:=Lib.hid hq
 have HQF:=Lib.hid hf
 clear hq hf hcas hcac hcai hcap
 have HE:Hid (ws++makeW q=ws++[kCREATE,mOpen,q.label]++[mClose]):=by show _=_;unfold makeW;rw[List.length_eq_zero_iff.1 n0];simp
 have HN0:=Lib.hid n0
 have hz:¬0<(q.pairs.length:Int):=by omega
 clear n0
 have HI0:=Lib.hid (h.alloc (.cells (qC q (.slice aos q.spots.length cas) (.slice aoc q.conds.length cac) (.slice aoi q.items.length cai) (.slice aop q.pairs.length cap)) 29))
 have HX0:=Lib.hid (Loc.new W (qC q (.slice aos q.spots.length cas) (.slice aoc q.conds.length cac) (.slice aoi q.items.length cai) (.slice aop q.pairs.length cap)) 29)
 have F0:Hid (FrW W (W.alloc (.cells (qC q (.slice aos q.spots.length cas) (.slice aoc q.conds.length cac) (.slice aoi q.items.length cai) (.slice aop q.pairs.length cap)) 29))):=(FrW.refl W).alloc _
 clear h
 go_enter Tryz.func105,Tryz.ntmps105
 go_upto_region 1 with fail
 obtain⟨X,hX⟩:∃X,X=W.heap.size:=⟨_,rfl⟩
 rw[←hX] at HX0⊢
 clear hX
 generalize W.alloc (.cells (qC q (.slice aos q.spots.length cas) (.slice aoc q.conds.length cac) (.slice aoi q.items.length cai) (.slice aop q.pairs.length cap)) 29)=W0_ at HI0 HX0 F0⊢
 have c0_15:=HX0.out.at_ 15 (.string q.label) rfl
 have HA:=Lib.hid (HI0.out.alloc (.cells #[.string ⟨#[67,82,69,65,84,69]⟩,.string ⟨#[40]⟩,.string q.label] 9))
 have HG:=Lib.hid (Loc.new W0_ #[.string ⟨#[67,82,69,65,84,69]⟩,.string ⟨#[40]⟩,.string q.label] 9)
 go_wp2_with fail
 refine(add_ (m:=3) (new:=[⟨#[67,82,69,65,84,69]⟩,⟨#[40]⟩,q.label]) HA.out HG.out rfl rfl (by omega) (by simp;omega)).mono ?_
 rintro e W1_ ⟨rfl,h1,f1⟩
 have HI1:=Lib.hid h1
 have HX1:=Lib.hid (f1 X _ _ (HX0.out.alloc _) (by decide) (by decide))
 have F1:=Lib.hid ((F0.out.alloc _).trans f1)
 clear c0_15
 clear h1 f1 HI0 HX0 F0 HA HG
 have c1_16:=HX1.out.at_ 16 (.slice aop q.pairs.length cap) rfl
 have HA:=Lib.hid (HI1.out.alloc (.cells #[.string ⟨#[41]⟩] 9))
 have HG:=Lib.hid (Loc.new W1_ #[.string ⟨#[41]⟩] 9)
 go_wp2_with fail
 refine(add_ (m:=1) (new:=[⟨#[41]⟩]) HA.out HG.out rfl rfl (by omega) (by simp;omega)).mono ?_
 rintro e W2_ ⟨rfl,h1,f1⟩
 have HI2:=Lib.hid h1
 have HX2:=Lib.hid (f1 X _ _ (HX1.out.alloc _) (by decide) (by decide))
 have F2:=Lib.hid ((F1.out.alloc _).trans f1)
 clear c1_16
 clear h1 f1 HI1 HX1 F1 HA HG
 go_wp2_with fail
 go_end0
 exact⟨rfl,by rw[HE.out];exact HI2.out,F2.out⟩
set_option maxRecDepth 100000 in
set_option maxHeartbeats 4000000 in
theorem wmakeYes {W0 W:World} {b:Nat} {ws:List ByteArray} {q:PQuery} {vs vc vi vp:Value} (h:WI W0 b ws W) (ht:Tab W0) (hq:QSees W0 q vs vc vi vp) (hf:QFits q) (n0:0<q.pairs.length) (n4:q.pairs.length≤6) (hl:ws.length≤2000):
  Calls Tryz.prog 105 #[.pointer (some ⟨b,0,none⟩),.agg (qC q vs vc vi vp)] W fun e W'=>e=.returned (.tuple #[])∧WI W0 b (ws++makeW q) W'∧FrW W W':=by
 obtain⟨aos,cas,rfl,hcas⟩:=sees_slice (l:=q.spots) hq.rs
 obtain⟨aoc,cac,rfl,hcac⟩:=sees_slice (l:=q.conds) hq.rc
 obtain⟨aoi,cai,rfl,hcai⟩:=sees_slice (l:=q.items) hq.rt
 obtain⟨aop,cap,rfl,hcap⟩:=sees_slice (l:=q.pairs) hq.rp
 have HQS:=Lib.hid hq
 have HQF:=Lib.hid hf
 clear hq hf hcas hcac hcai hcap
 have HE:Hid (ws++makeW q=ws++[kCREATE,mOpen,q.label]++[mBrace]++gather pairW true q.pairs++[mUnbrace]++[mClose]):=by
  show _=_
  unfold makeW
  cases hp:q.pairs with
  | nil=>rw[hp] at n0;simp at n0
  | cons x l=>simp
 have hz:0<(q.pairs.length:Int):=by omega
 have HI0:=Lib.hid (h.alloc (.cells (qC q (.slice aos q.spots.length cas) (.slice aoc q.conds.length cac) (.slice aoi q.items.length cai) (.slice aop q.pairs.length cap)) 29))
 have HX0:=Lib.hid (Loc.new W (qC q (.slice aos q.spots.length cas) (.slice aoc q.conds.length cac) (.slice aoi q.items.length cai) (.slice aop q.pairs.length cap)) 29)
 have F0:Hid (FrW W (W.alloc (.cells (qC q (.slice aos q.spots.length cas) (.slice aoc q.conds.length cac) (.slice aoi q.items.length cai) (.slice aop q.pairs.length cap)) 29))):=(FrW.refl W).alloc _
 clear h
 go_enter Tryz.func105,Tryz.ntmps105
 go_upto_region 1 with fail
 obtain⟨X,hX⟩:∃X,X=W.heap.size:=⟨_,rfl⟩
 rw[←hX] at HX0⊢
 clear hX
 generalize W.alloc (.cells (qC q (.slice aos q.spots.length cas) (.slice aoc q.conds.length cac) (.slice aoi q.items.length cai) (.slice aop q.pairs.length cap)) 29)=W0_ at HI0 HX0 F0⊢
 have c0_15:=HX0.out.at_ 15 (.string q.label) rfl
 have HA:=Lib.hid (HI0.out.alloc (.cells #[.string ⟨#[67,82,69,65,84,69]⟩,.string ⟨#[40]⟩,.string q.label] 9))
 have HG:=Lib.hid (Loc.new W0_ #[.string ⟨#[67,82,69,65,84,69]⟩,.string ⟨#[40]⟩,.string q.label] 9)
 go_wp2_with fail
 refine(add_ (m:=3) (new:=[⟨#[67,82,69,65,84,69]⟩,⟨#[40]⟩,q.label]) HA.out HG.out rfl rfl (by omega) (by simp;omega)).mono ?_
 rintro e W1_ ⟨rfl,h1,f1⟩
 have HI1:=Lib.hid h1
 have HX1:=Lib.hid (f1 X _ _ (HX0.out.alloc _) (by decide) (by decide))
 have F1:=Lib.hid ((F0.out.alloc _).trans f1)
 clear c0_15
 clear h1 f1 HI0 HX0 F0 HA HG
 have c1_16:=HX1.out.at_ 16 (.slice aop q.pairs.length cap) rfl
 have HA:=Lib.hid (HI1.out.alloc (.cells #[.string ⟨#[123]⟩] 9))
 have HG:=Lib.hid (Loc.new W1_ #[.string ⟨#[123]⟩] 9)
 go_wp2_with fail
 refine(add_ (m:=1) (new:=[⟨#[123]⟩]) HA.out HG.out rfl rfl (by omega) (by simp;omega)).mono ?_
 rintro e W2_ ⟨rfl,h1,f1⟩
 have HI2:=Lib.hid h1
 have HX2:=Lib.hid (f1 X _ _ (HX1.out.alloc _) (by decide) (by decide))
 have F2:=Lib.hid ((F1.out.alloc _).trans f1)
 clear c1_16
 clear h1 f1 HI1 HX1 F1 HA HG
 have cs:=HX2.out.at_ 16 (.slice aop q.pairs.length cap) rfl
 go_upto_block 0 with fail
 clear cs
 go_cut [] (fun w=>WI W0 b (ws++[kCREATE,mOpen,q.label]++[mBrace]++gather pairW true q.pairs) w∧Loc w X (qC q (.slice aos q.spots.length cas) (.slice aoc q.conds.length cac) (.slice aoi q.items.length cai) (.slice aop q.pairs.length cap)) 29∧FrW W w)
 case first=>
  go_wp2_with fail
  go_loopg [21] q.pairs.length (fun m iv w=>∃k:Nat,iv=.int .i64 (k:Int)∧k+m=q.pairs.length∧WI W0 b (ws++[kCREATE,mOpen,q.label]++[mBrace]++gather pairW true (q.pairs.take k)) w∧Loc w X (qC q (.slice aos q.spots.length cas) (.slice aoc q.conds.length cac) (.slice aoi q.items.length cai) (.slice aop q.pairs.length cap)) 29∧FrW W w)
  case atStart=>exact⟨0,rfl,by omega,by rw[List.take_zero];simp only[gather,List.append_nil];exact HI2.out,HX2.out,F2.out⟩
  case round=>
   obtain⟨k,rfl,hk,hi,hx,hfr⟩:=hrel
   have HI:=Lib.hid hi
   have HX:=Lib.hid hx
   have HF:=Lib.hid hfr
   clear hi hx hfr HI2 HX2 F2
   by_cases hlt:k<q.pairs.length
   ·obtain⟨g,o,rfl,hcell⟩:=sees_at (l:=q.pairs) fPair (fun _=>rfl) ((HQS.out.rp).below HI.out.low) hlt
    obtain⟨y,hy⟩:∃y,q.pairs[k]=y:=⟨_,rfl⟩
    have hmem:y∈q.pairs:=by rw[←hy];exact List.getElem_mem hlt
    rw[hy] at hcell
    have p0:wr.cell? ⟨g,o+k*2,none⟩=some (.string y.key):=hcell 0 (by decide)
    have p1:wr.cell? ⟨g,o+k*2+1,none⟩=some (.int .i64 y.val):=hcell 1 (by decide)
    have hki:(k:Int)<(q.pairs.length:Int):=by omega
    have HNX:Hid ((ws++[kCREATE,mOpen,q.label]++[mBrace]++gather pairW true (q.pairs.take (k+1)))=(ws++[kCREATE,mOpen,q.label]++[mBrace]++gather pairW true (q.pairs.take k))++pairW (decide (k=0)) y):=by show _=_;rw[gather_next pairW hlt,hy];simp only[List.append_assoc]
    have hlen:(ws++[kCREATE,mOpen,q.label]++[mBrace]++gather pairW true (q.pairs.take k)).length≤2100:=by
     have:=gatherW_len pairW 4 pairW_len (q.pairs.take k) true
     rw[List.length_take_of_le (by omega)] at this
     simp only[List.length_append,List.length_cons,List.length_nil]
     omega
    obtain⟨us,hus⟩:∃us,(ws++[kCREATE,mOpen,q.label]++[mBrace]++gather pairW true (q.pairs.take k))=us:=⟨_,rfl⟩
    rw[hus] at HI HNX hlen
    have HZ0:=Lib.hid (Loc.new wr #[.string y.key,.int .i64 y.val] 91)
    have HI0:=Lib.hid (HI.out.alloc (.cells #[.string y.key,.int .i64 y.val] 91))
    have HX0:=Lib.hid (HX.out.alloc (.cells #[.string y.key,.int .i64 y.val] 91))
    have F0:=Lib.hid (HF.out.alloc (.cells #[.string y.key,.int .i64 y.val] 91))
    clear hus hcell hy HI HX HF
    go_upto_region 7 with fail
    obtain⟨Z,hZ⟩:∃Z,Z=wr.heap.size:=⟨_,rfl⟩
    rw[←hZ] at HZ0⊢
    clear hZ
    generalize wr.alloc (.cells #[.string y.key,.int .i64 y.val] 91)=V0 at HZ0 HI0 HX0 F0⊢
    clear p0 p1
    have HEQ:Hid (us++pairW (decide (k=0)) y=us++(if k=0 then [] else [mComma])++[y.key,mColon,decB y.val]):=by show _=_;unfold pairW;by_cases hk0:k=0<;>simp[hk0]
    have HF0:=Lib.hid (HQF.out.pa y hmem)
    clear hmem
    go_wp2_with fail
    refine(between_ (k:=k) (s:=⟨#[44]⟩) HI0.out (by omega)).mono ?_
    rintro e V1 ⟨rfl,h1,f1⟩
    have HI1:=Lib.hid h1
    have HZ1:=Lib.hid (f1 Z _ _ HZ0.out (by decide) (by decide))
    have HX1:=Lib.hid (f1 X _ _ HX0.out (by decide) (by decide))
    have F1:=Lib.hid (F0.out.trans f1)
    clear h1 f1 HI0 HX0 HZ0 F0
    have hlen2:(us++(if k=0 then [] else [mComma])).length≤2101:=by rw[List.length_append];split<;>simp<;>omega
    obtain⟨us2,hus2⟩:∃us2,us++(if k=0 then [] else [mComma])=us2:=⟨_,rfl⟩
    have HI1b:Hid (WI W0 b us2 V1):=by show WI _ _ _ _;rw[←hus2];exact HI1.out
    rw[hus2] at HEQ hlen2
    clear hus2 HI1
    have HD:=Lib.hid (HI1b.out.drew 1)
    have HZD:Hid (Loc V1.drew Z #[.string y.key,.int .i64 y.val] 91):=HZ1.out.drew 1
    have HXD:Hid (Loc V1.drew X (qC q (.slice aos q.spots.length cas) (.slice aoc q.conds.length cac) (.slice aoi q.items.length cai) (.slice (some ⟨g,o,none⟩) q.pairs.length cap)) 29):=HX1.out.drew 1
    have FD:Hid (FrW W V1.drew):=F1.out.trans (FrW.quiet (grown_drew _ 1 none))
    have z0:=HZ1.out.at_ 0 (.string y.key) rfl
    have z1:=HZ1.out.at_ 1 (.int .i64 y.val) rfl
    have d0:V1.drew.cell? ⟨Z,0,none⟩=some (.string y.key):=z0
    have d1:V1.drew.cell? ⟨Z,1,none⟩=some (.int .i64 y.val):=z1
    go_upto_region 8 with fail
    clear z0 z1
    go_region_with (first
     | (go_at_call 36;refine(itoa_ HF0.out ?_).mono ?_;exact HD.out.tab ht;rintro e w5 ⟨rfl,hb5⟩;have HA:=Lib.hid ((HD.out.later hb5).alloc (.cells #[.string y.key,.string ⟨#[58]⟩,.string (decB y.val)] 9));have HG:=Lib.hid (Loc.new w5 #[.string y.key,.string ⟨#[58]⟩,.string (decB y.val)] 9);have HX5:=Lib.hid (HXD.out.grown (grown_below hb5 none) (by simp));have HZ5:=Lib.hid (HZD.out.grown (grown_below hb5 none) (by simp));have F5:=Lib.hid (FD.out.later hb5);have c5:w5.cell? ⟨Z,0,none⟩=some (.string y.key):=(HZ5.out.cell 0).trans rfl;clear hb5)
     | (go_at_call 104;refine(add_ (m:=3) (new:=[y.key,mColon,decB y.val]) HA.out HG.out rfl rfl (by omega) (by omega)).mono ?_;rintro e w7 ⟨rfl,h7,f7⟩;have HI7:=Lib.hid h7;have HX7:=Lib.hid (f7 X _ _ (HX5.out.alloc _) (by decide) (by decide));have F7:=Lib.hid ((F5.out.alloc _).trans f7);clear h7 f7))
    all_goals
     clear d0 d1 c5 HD HXD HZD FD HX5 HZ5 F5 HA HG HI1b
     go_wp2_with fail
     go_roundg (gk - 1)
     case measure=>omega
     case rel=>exact⟨k+1,by simp,by omega,by rw[HNX.out];rw[HEQ.out];exact HI7.out,HX7.out,F7.out⟩
   ·have hki:¬(k:Int)<(q.pairs.length:Int):=by omega
    have hk2:k=q.pairs.length:=by omega
    have HK:=Lib.hid hk2
    clear hk2
    go_wp2_with fail
    go_meet
    case rel=>exact⟨by have h:=HI.out;rw[HK.out,List.take_length] at h;exact h,HX.out,HF.out⟩
 case rest=>
  obtain⟨hi,hx,hfr⟩:=hcut
  have hlen0:(ws++[kCREATE,mOpen,q.label]++[mBrace]++gather pairW true q.pairs).length≤2100:=by
   have:=gatherW_len pairW 4 pairW_len q.pairs true
   simp only[List.length_append,List.length_cons,List.length_nil]
   omega
  obtain⟨ws1,hws1⟩:∃ws1,ws++[kCREATE,mOpen,q.label]++[mBrace]++gather pairW true q.pairs=ws1:=⟨_,rfl⟩
  rw[hws1] at hi hlen0 HE
  have HI9:=Lib.hid hi
  have HX9:=Lib.hid hx
  have F9:=Lib.hid hfr
  clear hi hx hfr hws1
  have HA:=Lib.hid (HI9.out.alloc (.cells #[.string ⟨#[125]⟩] 9))
  have HG:=Lib.hid (Loc.new wc #[.string ⟨#[125]⟩] 9)
  go_wp2_with fail
  refine(add_ (m:=1) (new:=[⟨#[125]⟩]) HA.out HG.out rfl rfl (by omega) (by simp;omega)).mono ?_
  rintro e W10_ ⟨rfl,h1,f1⟩
  have HI10:=Lib.hid h1
  have HX10:=Lib.hid (f1 X _ _ (HX9.out.alloc _) (by decide) (by decide))
  have F10:=Lib.hid ((F9.out.alloc _).trans f1)
  clear h1 f1 HI9 HX9 F9 HA HG
  have HA:=Lib.hid (HI10.out.alloc (.cells #[.string ⟨#[41]⟩] 9))
  have HG:=Lib.hid (Loc.new W10_ #[.string ⟨#[41]⟩] 9)
  go_wp2_with fail
  refine(add_ (m:=1) (new:=[⟨#[41]⟩]) HA.out HG.out rfl rfl (by omega) (by simp;omega)).mono ?_
  rintro e W11_ ⟨rfl,h1,f1⟩
  have HI11:=Lib.hid h1
  have HX11:=Lib.hid (f1 X _ _ (HX10.out.alloc _) (by decide) (by decide))
  have F11:=Lib.hid ((F10.out.alloc _).trans f1)
  clear h1 f1 HI10 HX10 F10 HA HG
  go_wp2_with fail
  go_end0
  exact⟨rfl,by rw[HE.out];exact HI11.out,F11.out⟩
theorem wmake {W0 W:World} {b:Nat} {ws:List ByteArray} {q:PQuery} {vs vc vi vp:Value} (h:WI W0 b ws W) (ht:Tab W0) (hq:QSees W0 q vs vc vi vp) (hf:QFits q) (n4:q.pairs.length≤6) (hl:ws.length≤2000):
  Calls Tryz.prog 105 #[.pointer (some ⟨b,0,none⟩),.agg (qC q vs vc vi vp)] W fun e W'=>e=.returned (.tuple #[])∧WI W0 b (ws++makeW q) W'∧FrW W W':=by
 by_cases h0:q.pairs.length=0
 ·exact wmakeNo h ht hq hf h0 hl
 ·exact wmakeYes h ht hq hf (by omega) n4 hl
set_option maxRecDepth 100000 in
set_option maxHeartbeats 4000000 in
theorem wq6 {W0 W:World} {b:Nat} {ws:List ByteArray} {q:PQuery} {vs vc vi vp:Value} (h:WI W0 b ws W) (ht:Tab W0) (hq:QSees W0 q vs vc vi vp) (hf:QFits q) (n1:q.spots.length≤6) (n2:q.conds.length≤6) (n3:q.items.length≤6) (n4:q.pairs.length≤6) (hl:ws.length≤100) (hk:q.kind=6):
  Calls Tryz.prog 53 #[.pointer (some ⟨b,0,none⟩),.agg (qC q vs vc vi vp)] W fun e W'=>e=.returned (.tuple #[])∧WI W0 b (ws++queryW q) W'∧FrW W W':=by
 have hu:=And.intro ht (And.intro n1 (And.intro n2 (And.intro n3 n4)))
 clear hu
 obtain⟨aos,cas,rfl,hcas⟩:=sees_slice (l:=q.spots) hq.rs
 obtain⟨aoc,cac,rfl,hcac⟩:=sees_slice (l:=q.conds) hq.rc
 obtain⟨aoi,cai,rfl,hcai⟩:=sees_slice (l:=q.items) hq.rt
 obtain⟨aop,cap,rfl,hcap⟩:=sees_slice (l:=q.pairs) hq.rp
 have HQS:=Lib.hid hq
 have HQF:=Lib.hid hf
 clear hq hf hcas hcac hcai hcap
 have HE:Hid (queryW q=[kCALL,q.name]):=by show _=_;unfold queryW;rw[if_pos hk]
 have hk6:(q.kind==6)=true:=by rw[hk];rfl
 clear hk
 have HI0:=Lib.hid (h.alloc (.cells (qC q (.slice aos q.spots.length cas) (.slice aoc q.conds.length cac) (.slice aoi q.items.length cai) (.slice aop q.pairs.length cap)) 29))
 have HX0:=Lib.hid (Loc.new W (qC q (.slice aos q.spots.length cas) (.slice aoc q.conds.length cac) (.slice aoi q.items.length cai) (.slice aop q.pairs.length cap)) 29)
 have F0:Hid (FrW W (W.alloc (.cells (qC q (.slice aos q.spots.length cas) (.slice aoc q.conds.length cac) (.slice aoi q.items.length cai) (.slice aop q.pairs.length cap)) 29))):=(FrW.refl W).alloc _
 clear h
 go_enter Tryz.func53,Tryz.ntmps53
 go_upto_region 1 with fail
 obtain⟨X,hX⟩:∃X,X=W.heap.size:=⟨_,rfl⟩
 rw[←hX] at HX0⊢
 clear hX
 generalize W.alloc (.cells (qC q (.slice aos q.spots.length cas) (.slice aoc q.conds.length cac) (.slice aoi q.items.length cai) (.slice aop q.pairs.length cap)) 29)=W0_ at HI0 HX0 F0⊢
 have c0_0:=HX0.out.at_ 0 (.int .i64 q.kind) rfl
 have c0_8:=HX0.out.at_ 8 (.string q.name) rfl
 have HA:=Lib.hid (HI0.out.alloc (.cells #[.string ⟨#[67,65,76,76]⟩,.string q.name] 9))
 have HG:=Lib.hid (Loc.new W0_ #[.string ⟨#[67,65,76,76]⟩,.string q.name] 9)
 go_wp2_with fail
 refine(add_ (m:=2) (new:=[⟨#[67,65,76,76]⟩,q.name]) HA.out HG.out rfl rfl (by omega) (by simp;omega)).mono ?_
 rintro e W1_ ⟨rfl,h1,f1⟩
 have HI1:=Lib.hid h1
 have HX1:=Lib.hid (f1 X _ _ (HX0.out.alloc _) (by decide) (by decide))
 have F1:=Lib.hid ((F0.out.alloc _).trans f1)
 clear c0_0 c0_8
 clear h1 f1 HI0 HX0 F0 HA HG
 go_wp2_with fail
 (try simp only[Exit.inBlock,Exit.then]);refine bodyPost_ret (results_none rfl _ _ _) rfl ?_
 exact⟨rfl,by rw[HE.out];exact HI1.out,F1.out⟩
set_option maxRecDepth 100000 in
set_option maxHeartbeats 4000000 in
theorem wq5 {W0 W:World} {b:Nat} {ws:List ByteArray} {q:PQuery} {vs vc vi vp:Value} (h:WI W0 b ws W) (ht:Tab W0) (hq:QSees W0 q vs vc vi vp) (hf:QFits q) (n1:q.spots.length≤6) (n2:q.conds.length≤6) (n3:q.items.length≤6) (n4:q.pairs.length≤6) (hl:ws.length≤100) (hk:q.kind=5):
  Calls Tryz.prog 53 #[.pointer (some ⟨b,0,none⟩),.agg (qC q vs vc vi vp)] W fun e W'=>e=.returned (.tuple #[])∧WI W0 b (ws++queryW q) W'∧FrW W W':=by
 have hu:=And.intro ht (And.intro n1 (And.intro n2 (And.intro n3 n4)))
 clear hu
 obtain⟨aos,cas,rfl,hcas⟩:=sees_slice (l:=q.spots) hq.rs
 obtain⟨aoc,cac,rfl,hcac⟩:=sees_slice (l:=q.conds) hq.rc
 obtain⟨aoi,cai,rfl,hcai⟩:=sees_slice (l:=q.items) hq.rt
 obtain⟨aop,cap,rfl,hcap⟩:=sees_slice (l:=q.pairs) hq.rp
 have HQS:=Lib.hid hq
 have HQF:=Lib.hid hf
 clear hq hf hcas hcac hcai hcap
 have HE:Hid (queryW q=makeW q):=by show _=_;unfold queryW;rw[if_neg (by omega),if_pos hk]
 have hk6:(q.kind==6)=false:=by rw[hk];rfl
 have hk5:(q.kind==5)=true:=by rw[hk];rfl
 clear hk
 have HI0:=Lib.hid (h.alloc (.cells (qC q (.slice aos q.spots.length cas) (.slice aoc q.conds.length cac) (.slice aoi q.items.length cai) (.slice aop q.pairs.length cap)) 29))
 have HX0:=Lib.hid (Loc.new W (qC q (.slice aos q.spots.length cas) (.slice aoc q.conds.length cac) (.slice aoi q.items.length cai) (.slice aop q.pairs.length cap)) 29)
 have F0:Hid (FrW W (W.alloc (.cells (qC q (.slice aos q.spots.length cas) (.slice aoc q.conds.length cac) (.slice aoi q.items.length cai) (.slice aop q.pairs.length cap)) 29))):=(FrW.refl W).alloc _
 clear h
 go_enter Tryz.func53,Tryz.ntmps53
 go_upto_region 1 with fail
 obtain⟨X,hX⟩:∃X,X=W.heap.size:=⟨_,rfl⟩
 rw[←hX] at HX0⊢
 clear hX
 generalize W.alloc (.cells (qC q (.slice aos q.spots.length cas) (.slice aoc q.conds.length cac) (.slice aoi q.items.length cai) (.slice aop q.pairs.length cap)) 29)=W0_ at HI0 HX0 F0⊢
 have c0_0:=HX0.out.at_ 0 (.int .i64 q.kind) rfl
 go_upto_region 5 with fail
 refine wp_region_lit ?_
 refine wpList_move rfl rfl ?_
 refine wpList_load_mid rfl 29 _ rfl X 0 rfl (qC q (.slice aos q.spots.length cas) (.slice aoc q.conds.length cac) (.slice aoi q.items.length cai) (.slice aop q.pairs.length cap)).toList _ HX0.out.range Tryz.underlying29 rfl (by rw[Tryz.sizeQuery];rfl) ?_
 go_wp2_with fail
 refine(wmake (q:=q) HI0.out ht HQS.out HQF.out n4 (by omega)).mono ?_
 rintro e W1_ ⟨rfl,h1,f1⟩
 have HI1:=Lib.hid h1
 have HX1:=Lib.hid (f1 X _ _ HX0.out (by decide) (by decide))
 have F1:=Lib.hid (F0.out.trans f1)
 clear h1 f1 HI0 HX0 F0
 clear c0_0
 go_wp2_with fail
 (try simp only[Exit.inBlock,Exit.then]);refine bodyPost_ret (results_none rfl _ _ _) rfl ?_
 exact⟨rfl,by rw[HE.out];exact HI1.out,F1.out⟩
set_option maxRecDepth 100000 in
set_option maxHeartbeats 4000000 in
theorem wq1 {W0 W:World} {b:Nat} {ws:List ByteArray} {q:PQuery} {vs vc vi vp:Value} (h:WI W0 b ws W) (ht:Tab W0) (hq:QSees W0 q vs vc vi vp) (hf:QFits q) (n1:q.spots.length≤6) (n2:q.conds.length≤6) (n3:q.items.length≤6) (n4:q.pairs.length≤6) (hl:ws.length≤100) (hk:q.kind=1):
  Calls Tryz.prog 53 #[.pointer (some ⟨b,0,none⟩),.agg (qC q vs vc vi vp)] W fun e W'=>e=.returned (.tuple #[])∧WI W0 b (ws++queryW q) W'∧FrW W W':=by
 have hu:=And.intro ht (And.intro n1 (And.intro n2 (And.intro n3 n4)))
 clear hu
 obtain⟨aos,cas,rfl,hcas⟩:=sees_slice (l:=q.spots) hq.rs
 obtain⟨aoc,cac,rfl,hcac⟩:=sees_slice (l:=q.conds) hq.rc
 obtain⟨aoi,cai,rfl,hcai⟩:=sees_slice (l:=q.items) hq.rt
 obtain⟨aop,cap,rfl,hcap⟩:=sees_slice (l:=q.pairs) hq.rp
 have HQS:=Lib.hid hq
 have HQF:=Lib.hid hf
 clear hq hf hcas hcac hcai hcap
 have HE:Hid (queryW q=matchW q++readW q):=by show _=_;unfold queryW actW;rw[if_neg (by omega),if_neg (by omega),if_pos hk]
 have hml:(matchW q).length≤121:=by
  unfold matchW
  have:=gatherW_len spotW 12 spotW_len q.spots true
  have:=gatherW_len condW 8 condW_len q.conds true
  simp only[List.length_append,List.length_cons]
  omega
 have hk6:(q.kind==6)=false:=by rw[hk];rfl
 have hk5:(q.kind==5)=false:=by rw[hk];rfl
 have hk1:(q.kind==1)=true:=by rw[hk];rfl
 clear hk
 have HI0:=Lib.hid (h.alloc (.cells (qC q (.slice aos q.spots.length cas) (.slice aoc q.conds.length cac) (.slice aoi q.items.length cai) (.slice aop q.pairs.length cap)) 29))
 have HX0:=Lib.hid (Loc.new W (qC q (.slice aos q.spots.length cas) (.slice aoc q.conds.length cac) (.slice aoi q.items.length cai) (.slice aop q.pairs.length cap)) 29)
 have F0:Hid (FrW W (W.alloc (.cells (qC q (.slice aos q.spots.length cas) (.slice aoc q.conds.length cac) (.slice aoi q.items.length cai) (.slice aop q.pairs.length cap)) 29))):=(FrW.refl W).alloc _
 clear h
 go_enter Tryz.func53,Tryz.ntmps53
 go_upto_region 1 with fail
 obtain⟨X,hX⟩:∃X,X=W.heap.size:=⟨_,rfl⟩
 rw[←hX] at HX0⊢
 clear hX
 generalize W.alloc (.cells (qC q (.slice aos q.spots.length cas) (.slice aoc q.conds.length cac) (.slice aoi q.items.length cai) (.slice aop q.pairs.length cap)) 29)=W0_ at HI0 HX0 F0⊢
 have c0_0:=HX0.out.at_ 0 (.int .i64 q.kind) rfl
 go_upto_region 6 with fail
 refine wp_region_lit ?_
 refine wpList_move rfl rfl ?_
 refine wpList_load_mid rfl 29 _ rfl X 0 rfl (qC q (.slice aos q.spots.length cas) (.slice aoc q.conds.length cac) (.slice aoi q.items.length cai) (.slice aop q.pairs.length cap)).toList _ HX0.out.range Tryz.underlying29 rfl (by rw[Tryz.sizeQuery];rfl) ?_
 go_wp2_with fail
 refine(wmatch (q:=q) HI0.out ht HQS.out HQF.out n1 n2 (by omega)).mono ?_
 rintro e W1_ ⟨rfl,h1,f1⟩
 have HI1:=Lib.hid h1
 have HX1:=Lib.hid (f1 X _ _ HX0.out (by decide) (by decide))
 have F1:=Lib.hid (F0.out.trans f1)
 clear h1 f1 HI0 HX0 F0
 clear c0_0
 have c1_0:=HX1.out.at_ 0 (.int .i64 q.kind) rfl
 go_upto_region 9 with fail
 refine wp_region_lit ?_
 refine wpList_move rfl rfl ?_
 refine wpList_load_mid rfl 29 _ rfl X 0 rfl (qC q (.slice aos q.spots.length cas) (.slice aoc q.conds.length cac) (.slice aoi q.items.length cai) (.slice aop q.pairs.length cap)).toList _ HX1.out.range Tryz.underlying29 rfl (by rw[Tryz.sizeQuery];rfl) ?_
 go_wp2_with fail
 refine(wread (q:=q) HI1.out ht HQS.out HQF.out n3 (by rw[List.length_append];omega)).mono ?_
 rintro e W2_ ⟨rfl,h1,f1⟩
 have HI2:=Lib.hid h1
 have HX2:=Lib.hid (f1 X _ _ HX1.out (by decide) (by decide))
 have F2:=Lib.hid (F1.out.trans f1)
 clear h1 f1 HI1 HX1 F1
 clear c1_0
 go_wp2_with fail
 go_end0
 exact⟨rfl,by rw[HE.out,←List.append_assoc];exact HI2.out,F2.out⟩
set_option maxRecDepth 100000 in
set_option maxHeartbeats 4000000 in
theorem wq2 {W0 W:World} {b:Nat} {ws:List ByteArray} {q:PQuery} {vs vc vi vp:Value} (h:WI W0 b ws W) (ht:Tab W0) (hq:QSees W0 q vs vc vi vp) (hf:QFits q) (n1:q.spots.length≤6) (n2:q.conds.length≤6) (n3:q.items.length≤6) (n4:q.pairs.length≤6) (hl:ws.length≤100) (hk:q.kind=2):
  Calls Tryz.prog 53 #[.pointer (some ⟨b,0,none⟩),.agg (qC q vs vc vi vp)] W fun e W'=>e=.returned (.tuple #[])∧WI W0 b (ws++queryW q) W'∧FrW W W':=by
 have hu:=And.intro ht (And.intro n1 (And.intro n2 (And.intro n3 n4)))
 clear hu
 obtain⟨aos,cas,rfl,hcas⟩:=sees_slice (l:=q.spots) hq.rs
 obtain⟨aoc,cac,rfl,hcac⟩:=sees_slice (l:=q.conds) hq.rc
 obtain⟨aoi,cai,rfl,hcai⟩:=sees_slice (l:=q.items) hq.rt
 obtain⟨aop,cap,rfl,hcap⟩:=sees_slice (l:=q.pairs) hq.rp
 have HQS:=Lib.hid hq
 have HQF:=Lib.hid hf
 clear hq hf hcas hcac hcai hcap
 have HE:Hid (queryW q=matchW q++([kSET,q.name,mDot,q.key,mEq]++termW q.value)):=by show _=_;unfold queryW actW;rw[if_neg (by omega),if_neg (by omega),if_neg (by omega),if_pos hk]
 have hml:(matchW q).length≤121:=by
  unfold matchW
  have:=gatherW_len spotW 12 spotW_len q.spots true
  have:=gatherW_len condW 8 condW_len q.conds true
  simp only[List.length_append,List.length_cons]
  omega
 have hk6:(q.kind==6)=false:=by rw[hk];rfl
 have hk5:(q.kind==5)=false:=by rw[hk];rfl
 have hk1:(q.kind==1)=false:=by rw[hk];rfl
 have hk2:(q.kind==2)=true:=by rw[hk];rfl
 clear hk
 have HI0:=Lib.hid (h.alloc (.cells (qC q (.slice aos q.spots.length cas) (.slice aoc q.conds.length cac) (.slice aoi q.items.length cai) (.slice aop q.pairs.length cap)) 29))
 have HX0:=Lib.hid (Loc.new W (qC q (.slice aos q.spots.length cas) (.slice aoc q.conds.length cac) (.slice aoi q.items.length cai) (.slice aop q.pairs.length cap)) 29)
 have F0:Hid (FrW W (W.alloc (.cells (qC q (.slice aos q.spots.length cas) (.slice aoc q.conds.length cac) (.slice aoi q.items.length cai) (.slice aop q.pairs.length cap)) 29))):=(FrW.refl W).alloc _
 clear h
 go_enter Tryz.func53,Tryz.ntmps53
 go_upto_region 1 with fail
 obtain⟨X,hX⟩:∃X,X=W.heap.size:=⟨_,rfl⟩
 rw[←hX] at HX0⊢
 clear hX
 generalize W.alloc (.cells (qC q (.slice aos q.spots.length cas) (.slice aoc q.conds.length cac) (.slice aoi q.items.length cai) (.slice aop q.pairs.length cap)) 29)=W0_ at HI0 HX0 F0⊢
 have c0_0:=HX0.out.at_ 0 (.int .i64 q.kind) rfl
 go_upto_region 6 with fail
 refine wp_region_lit ?_
 refine wpList_move rfl rfl ?_
 refine wpList_load_mid rfl 29 _ rfl X 0 rfl (qC q (.slice aos q.spots.length cas) (.slice aoc q.conds.length cac) (.slice aoi q.items.length cai) (.slice aop q.pairs.length cap)).toList _ HX0.out.range Tryz.underlying29 rfl (by rw[Tryz.sizeQuery];rfl) ?_
 go_wp2_with fail
 refine(wmatch (q:=q) HI0.out ht HQS.out HQF.out n1 n2 (by omega)).mono ?_
 rintro e W1_ ⟨rfl,h1,f1⟩
 have HI1:=Lib.hid h1
 have HX1:=Lib.hid (f1 X _ _ HX0.out (by decide) (by decide))
 have F1:=Lib.hid (F0.out.trans f1)
 clear h1 f1 HI0 HX0 F0
 clear c0_0
 have c1_0:=HX1.out.at_ 0 (.int .i64 q.kind) rfl
 have c1_8:=HX1.out.at_ 8 (.string q.name) rfl
 have c1_9:=HX1.out.at_ 9 (.string q.key) rfl
 have HA:=Lib.hid (HI1.out.alloc (.cells #[.string ⟨#[83,69,84]⟩,.string q.name,.string ⟨#[46]⟩,.string q.key,.string ⟨#[61]⟩] 9))
 have HG:=Lib.hid (Loc.new W1_ #[.string ⟨#[83,69,84]⟩,.string q.name,.string ⟨#[46]⟩,.string q.key,.string ⟨#[61]⟩] 9)
 go_wp2_with fail
 refine(add_ (m:=5) (new:=[⟨#[83,69,84]⟩,q.name,⟨#[46]⟩,q.key,⟨#[61]⟩]) HA.out HG.out rfl rfl (by omega) (by simp only[List.length_append];omega)).mono ?_
 rintro e W2_ ⟨rfl,h1,f1⟩
 have HI2:=Lib.hid h1
 have HX2:=Lib.hid (f1 X _ _ (HX1.out.alloc _) (by decide) (by decide))
 have F2:=Lib.hid ((F1.out.alloc _).trans f1)
 clear c1_0 c1_8 c1_9
 clear h1 f1 HI1 HX1 F1 HA HG
 have c2_10:=HX2.out.at_ 10 (.string q.value.name) rfl
 have c2_11:=HX2.out.at_ 11 (.string q.value.key) rfl
 have c2_12:=HX2.out.at_ 12 (.int .i64 q.value.val) rfl
 go_wp2_with fail
 refine(wterm (t:=q.value) HI2.out ht HQF.out.va (by simp only[List.length_append,List.length_cons,List.length_nil];omega)).mono ?_
 rintro e W3_ ⟨rfl,h1,f1⟩
 have HI3:=Lib.hid h1
 have HX3:=Lib.hid (f1 X _ _ HX2.out (by decide) (by decide))
 have F3:=Lib.hid (F2.out.trans f1)
 clear c2_10 c2_11 c2_12
 clear h1 f1 HI2 HX2 F2
 go_wp2_with fail
 go_end0
 exact⟨rfl,by rw[HE.out];simp only[←List.append_assoc];exact HI3.out,F3.out⟩
set_option maxRecDepth 100000 in
set_option maxHeartbeats 4000000 in
theorem wq3 {W0 W:World} {b:Nat} {ws:List ByteArray} {q:PQuery} {vs vc vi vp:Value} (h:WI W0 b ws W) (ht:Tab W0) (hq:QSees W0 q vs vc vi vp) (hf:QFits q) (n1:q.spots.length≤6) (n2:q.conds.length≤6) (n3:q.items.length≤6) (n4:q.pairs.length≤6) (hl:ws.length≤100) (hk:q.kind=3):
  Calls Tryz.prog 53 #[.pointer (some ⟨b,0,none⟩),.agg (qC q vs vc vi vp)] W fun e W'=>e=.returned (.tuple #[])∧WI W0 b (ws++queryW q) W'∧FrW W W':=by
 have hu:=And.intro ht (And.intro n1 (And.intro n2 (And.intro n3 n4)))
 clear hu
 obtain⟨aos,cas,rfl,hcas⟩:=sees_slice (l:=q.spots) hq.rs
 obtain⟨aoc,cac,rfl,hcac⟩:=sees_slice (l:=q.conds) hq.rc
 obtain⟨aoi,cai,rfl,hcai⟩:=sees_slice (l:=q.items) hq.rt
 obtain⟨aop,cap,rfl,hcap⟩:=sees_slice (l:=q.pairs) hq.rp
 have HQS:=Lib.hid hq
 have HQF:=Lib.hid hf
 clear hq hf hcas hcac hcai hcap
 have HE:Hid (queryW q=matchW q++[kDELETE,q.name]):=by show _=_;unfold queryW actW;rw[if_neg (by omega),if_neg (by omega),if_neg (by omega),if_neg (by omega),if_pos hk]
 have hml:(matchW q).length≤121:=by
  unfold matchW
  have:=gatherW_len spotW 12 spotW_len q.spots true
  have:=gatherW_len condW 8 condW_len q.conds true
  simp only[List.length_append,List.length_cons]
  omega
 have hk6:(q.kind==6)=false:=by rw[hk];rfl
 have hk5:(q.kind==5)=false:=by rw[hk];rfl
 have hk1:(q.kind==1)=false:=by rw[hk];rfl
 have hk2:(q.kind==2)=false:=by rw[hk];rfl
 have hk3:(q.kind==3)=true:=by rw[hk];rfl
 clear hk
 have HI0:=Lib.hid (h.alloc (.cells (qC q (.slice aos q.spots.length cas) (.slice aoc q.conds.length cac) (.slice aoi q.items.length cai) (.slice aop q.pairs.length cap)) 29))
 have HX0:=Lib.hid (Loc.new W (qC q (.slice aos q.spots.length cas) (.slice aoc q.conds.length cac) (.slice aoi q.items.length cai) (.slice aop q.pairs.length cap)) 29)
 have F0:Hid (FrW W (W.alloc (.cells (qC q (.slice aos q.spots.length cas) (.slice aoc q.conds.length cac) (.slice aoi q.items.length cai) (.slice aop q.pairs.length cap)) 29))):=(FrW.refl W).alloc _
 clear h
 go_enter Tryz.func53,Tryz.ntmps53
 go_upto_region 1 with fail
 obtain⟨X,hX⟩:∃X,X=W.heap.size:=⟨_,rfl⟩
 rw[←hX] at HX0⊢
 clear hX
 generalize W.alloc (.cells (qC q (.slice aos q.spots.length cas) (.slice aoc q.conds.length cac) (.slice aoi q.items.length cai) (.slice aop q.pairs.length cap)) 29)=W0_ at HI0 HX0 F0⊢
 have c0_0:=HX0.out.at_ 0 (.int .i64 q.kind) rfl
 go_upto_region 6 with fail
 refine wp_region_lit ?_
 refine wpList_move rfl rfl ?_
 refine wpList_load_mid rfl 29 _ rfl X 0 rfl (qC q (.slice aos q.spots.length cas) (.slice aoc q.conds.length cac) (.slice aoi q.items.length cai) (.slice aop q.pairs.length cap)).toList _ HX0.out.range Tryz.underlying29 rfl (by rw[Tryz.sizeQuery];rfl) ?_
 go_wp2_with fail
 refine(wmatch (q:=q) HI0.out ht HQS.out HQF.out n1 n2 (by omega)).mono ?_
 rintro e W1_ ⟨rfl,h1,f1⟩
 have HI1:=Lib.hid h1
 have HX1:=Lib.hid (f1 X _ _ HX0.out (by decide) (by decide))
 have F1:=Lib.hid (F0.out.trans f1)
 clear h1 f1 HI0 HX0 F0
 clear c0_0
 have c1_0:=HX1.out.at_ 0 (.int .i64 q.kind) rfl
 have c1_8:=HX1.out.at_ 8 (.string q.name) rfl
 have HA:=Lib.hid (HI1.out.alloc (.cells #[.string ⟨#[68,69,76,69,84,69]⟩,.string q.name] 9))
 have HG:=Lib.hid (Loc.new W1_ #[.string ⟨#[68,69,76,69,84,69]⟩,.string q.name] 9)
 go_wp2_with fail
 refine(add_ (m:=2) (new:=[⟨#[68,69,76,69,84,69]⟩,q.name]) HA.out HG.out rfl rfl (by omega) (by simp only[List.length_append];omega)).mono ?_
 rintro e W2_ ⟨rfl,h1,f1⟩
 have HI2:=Lib.hid h1
 have HX2:=Lib.hid (f1 X _ _ (HX1.out.alloc _) (by decide) (by decide))
 have F2:=Lib.hid ((F1.out.alloc _).trans f1)
 clear c1_0 c1_8
 clear h1 f1 HI1 HX1 F1 HA HG
 go_wp2_with fail
 go_end0
 exact⟨rfl,by rw[HE.out,←List.append_assoc];exact HI2.out,F2.out⟩
set_option maxRecDepth 100000 in
set_option maxHeartbeats 4000000 in
theorem wq4 {W0 W:World} {b:Nat} {ws:List ByteArray} {q:PQuery} {vs vc vi vp:Value} (h:WI W0 b ws W) (ht:Tab W0) (hq:QSees W0 q vs vc vi vp) (hf:QFits q) (n1:q.spots.length≤6) (n2:q.conds.length≤6) (n3:q.items.length≤6) (n4:q.pairs.length≤6) (hl:ws.length≤100) (hk:q.kind=4):
  Calls Tryz.prog 53 #[.pointer (some ⟨b,0,none⟩),.agg (qC q vs vc vi vp)] W fun e W'=>e=.returned (.tuple #[])∧WI W0 b (ws++queryW q) W'∧FrW W W':=by
 have hu:=And.intro ht (And.intro n1 (And.intro n2 (And.intro n3 n4)))
 clear hu
 obtain⟨aos,cas,rfl,hcas⟩:=sees_slice (l:=q.spots) hq.rs
 obtain⟨aoc,cac,rfl,hcac⟩:=sees_slice (l:=q.conds) hq.rc
 obtain⟨aoi,cai,rfl,hcai⟩:=sees_slice (l:=q.items) hq.rt
 obtain⟨aop,cap,rfl,hcap⟩:=sees_slice (l:=q.pairs) hq.rp
 have HQS:=Lib.hid hq
 have HQF:=Lib.hid hf
 clear hq hf hcas hcac hcai hcap
 have HE:Hid (queryW q=matchW q++[kCREATE,mOpen,q.name,mClose,mTo,q.type,mArrow,mOpen,q.to,mClose]):=by show _=_;unfold queryW actW;rw[if_neg (by omega),if_neg (by omega),if_neg (by omega),if_neg (by omega),if_neg (by omega),if_pos hk]
 have hml:(matchW q).length≤121:=by
  unfold matchW
  have:=gatherW_len spotW 12 spotW_len q.spots true
  have:=gatherW_len condW 8 condW_len q.conds true
  simp only[List.length_append,List.length_cons]
  omega
 have hk6:(q.kind==6)=false:=by rw[hk];rfl
 have hk5:(q.kind==5)=false:=by rw[hk];rfl
 have hk1:(q.kind==1)=false:=by rw[hk];rfl
 have hk2:(q.kind==2)=false:=by rw[hk];rfl
 have hk3:(q.kind==3)=false:=by rw[hk];rfl
 have hk4:(q.kind==4)=true:=by rw[hk];rfl
 clear hk
 have HI0:=Lib.hid (h.alloc (.cells (qC q (.slice aos q.spots.length cas) (.slice aoc q.conds.length cac) (.slice aoi q.items.length cai) (.slice aop q.pairs.length cap)) 29))
 have HX0:=Lib.hid (Loc.new W (qC q (.slice aos q.spots.length cas) (.slice aoc q.conds.length cac) (.slice aoi q.items.length cai) (.slice aop q.pairs.length cap)) 29)
 have F0:Hid (FrW W (W.alloc (.cells (qC q (.slice aos q.spots.length cas) (.slice aoc q.conds.length cac) (.slice aoi q.items.length cai) (.slice aop q.pairs.length cap)) 29))):=(FrW.refl W).alloc _
 clear h
 go_enter Tryz.func53,Tryz.ntmps53
 go_upto_region 1 with fail
 obtain⟨X,hX⟩:∃X,X=W.heap.size:=⟨_,rfl⟩
 rw[←hX] at HX0⊢
 clear hX
 generalize W.alloc (.cells (qC q (.slice aos q.spots.length cas) (.slice aoc q.conds.length cac) (.slice aoi q.items.length cai) (.slice aop q.pairs.length cap)) 29)=W0_ at HI0 HX0 F0⊢
 have c0_0:=HX0.out.at_ 0 (.int .i64 q.kind) rfl
 go_upto_region 6 with fail
 refine wp_region_lit ?_
 refine wpList_move rfl rfl ?_
 refine wpList_load_mid rfl 29 _ rfl X 0 rfl (qC q (.slice aos q.spots.length cas) (.slice aoc q.conds.length cac) (.slice aoi q.items.length cai) (.slice aop q.pairs.length cap)).toList _ HX0.out.range Tryz.underlying29 rfl (by rw[Tryz.sizeQuery];rfl) ?_
 go_wp2_with fail
 refine(wmatch (q:=q) HI0.out ht HQS.out HQF.out n1 n2 (by omega)).mono ?_
 rintro e W1_ ⟨rfl,h1,f1⟩
 have HI1:=Lib.hid h1
 have HX1:=Lib.hid (f1 X _ _ HX0.out (by decide) (by decide))
 have F1:=Lib.hid (F0.out.trans f1)
 clear h1 f1 HI0 HX0 F0
 clear c0_0
 have c1_0:=HX1.out.at_ 0 (.int .i64 q.kind) rfl
 have c1_8:=HX1.out.at_ 8 (.string q.name) rfl
 have c1_13:=HX1.out.at_ 13 (.string q.type) rfl
 have c1_14:=HX1.out.at_ 14 (.string q.to) rfl
 have HA:=Lib.hid (HI1.out.alloc (.cells #[.string ⟨#[67,82,69,65,84,69]⟩,.string ⟨#[40]⟩,.string q.name,.string ⟨#[41]⟩,.string ⟨#[45,91]⟩,.string q.type,.string ⟨#[93,45,62]⟩,.string ⟨#[40]⟩,.string q.to,.string ⟨#[41]⟩] 9))
 have HG:=Lib.hid (Loc.new W1_ #[.string ⟨#[67,82,69,65,84,69]⟩,.string ⟨#[40]⟩,.string q.name,.string ⟨#[41]⟩,.string ⟨#[45,91]⟩,.string q.type,.string ⟨#[93,45,62]⟩,.string ⟨#[40]⟩,.string q.to,.string ⟨#[41]⟩] 9)
 go_wp2_with fail
 refine(add_ (m:=10) (new:=[⟨#[67,82,69,65,84,69]⟩,⟨#[40]⟩,q.name,⟨#[41]⟩,⟨#[45,91]⟩,q.type,⟨#[93,45,62]⟩,⟨#[40]⟩,q.to,⟨#[41]⟩]) HA.out HG.out rfl rfl (by omega) (by simp only[List.length_append];omega)).mono ?_
 rintro e W2_ ⟨rfl,h1,f1⟩
 have HI2:=Lib.hid h1
 have HX2:=Lib.hid (f1 X _ _ (HX1.out.alloc _) (by decide) (by decide))
 have F2:=Lib.hid ((F1.out.alloc _).trans f1)
 clear c1_0 c1_8 c1_13 c1_14
 clear h1 f1 HI1 HX1 F1 HA HG
 go_wp2_with fail
 go_end0
 exact⟨rfl,by rw[HE.out,←List.append_assoc];exact HI2.out,F2.out⟩
set_option maxRecDepth 100000 in
set_option maxHeartbeats 4000000 in
theorem wq0 {W0 W:World} {b:Nat} {ws:List ByteArray} {q:PQuery} {vs vc vi vp:Value} (h:WI W0 b ws W) (ht:Tab W0) (hq:QSees W0 q vs vc vi vp) (hf:QFits q) (n1:q.spots.length≤6) (n2:q.conds.length≤6) (n3:q.items.length≤6) (n4:q.pairs.length≤6) (hl:ws.length≤100) (g6:q.kind≠6) (g5:q.kind≠5) (g1:q.kind≠1) (g2:q.kind≠2) (g3:q.kind≠3) (g4:q.kind≠4):
  Calls Tryz.prog 53 #[.pointer (some ⟨b,0,none⟩),.agg (qC q vs vc vi vp)] W fun e W'=>e=.returned (.tuple #[])∧WI W0 b (ws++queryW q) W'∧FrW W W':=by
 have hu:=And.intro ht (And.intro n1 (And.intro n2 (And.intro n3 n4)))
 clear hu
 obtain⟨aos,cas,rfl,hcas⟩:=sees_slice (l:=q.spots) hq.rs
 obtain⟨aoc,cac,rfl,hcac⟩:=sees_slice (l:=q.conds) hq.rc
 obtain⟨aoi,cai,rfl,hcai⟩:=sees_slice (l:=q.items) hq.rt
 obtain⟨aop,cap,rfl,hcap⟩:=sees_slice (l:=q.pairs) hq.rp
 have HQS:=Lib.hid hq
 have HQF:=Lib.hid hf
 clear hq hf hcas hcac hcai hcap
 have HE:Hid (queryW q=matchW q):=by show _=_;unfold queryW actW;rw[if_neg g6,if_neg g5,if_neg g1,if_neg g2,if_neg g3,if_neg g4,List.append_nil]
 have hk6:(q.kind==6)=false:=by simpa using g6
 have hk5:(q.kind==5)=false:=by simpa using g5
 have hk1:(q.kind==1)=false:=by simpa using g1
 have hk2:(q.kind==2)=false:=by simpa using g2
 have hk3:(q.kind==3)=false:=by simpa using g3
 have hk4:(q.kind==4)=false:=by simpa using g4
 clear g6 g5 g1 g2 g3 g4
 have HI0:=Lib.hid (h.alloc (.cells (qC q (.slice aos q.spots.length cas) (.slice aoc q.conds.length cac) (.slice aoi q.items.length cai) (.slice aop q.pairs.length cap)) 29))
 have HX0:=Lib.hid (Loc.new W (qC q (.slice aos q.spots.length cas) (.slice aoc q.conds.length cac) (.slice aoi q.items.length cai) (.slice aop q.pairs.length cap)) 29)
 have F0:Hid (FrW W (W.alloc (.cells (qC q (.slice aos q.spots.length cas) (.slice aoc q.conds.length cac) (.slice aoi q.items.length cai) (.slice aop q.pairs.length cap)) 29))):=(FrW.refl W).alloc _
 clear h
 go_enter Tryz.func53,Tryz.ntmps53
 go_upto_region 1 with fail
 obtain⟨X,hX⟩:∃X,X=W.heap.size:=⟨_,rfl⟩
 rw[←hX] at HX0⊢
 clear hX
 generalize W.alloc (.cells (qC q (.slice aos q.spots.length cas) (.slice aoc q.conds.length cac) (.slice aoi q.items.length cai) (.slice aop q.pairs.length cap)) 29)=W0_ at HI0 HX0 F0⊢
 have c0_0:=HX0.out.at_ 0 (.int .i64 q.kind) rfl
 go_upto_region 6 with fail
 refine wp_region_lit ?_
 refine wpList_move rfl rfl ?_
 refine wpList_load_mid rfl 29 _ rfl X 0 rfl (qC q (.slice aos q.spots.length cas) (.slice aoc q.conds.length cac) (.slice aoi q.items.length cai) (.slice aop q.pairs.length cap)).toList _ HX0.out.range Tryz.underlying29 rfl (by rw[Tryz.sizeQuery];rfl) ?_
 go_wp2_with fail
 refine(wmatch (q:=q) HI0.out ht HQS.out HQF.out n1 n2 (by omega)).mono ?_
 rintro e W1_ ⟨rfl,h1,f1⟩
 have HI1:=Lib.hid h1
 have HX1:=Lib.hid (f1 X _ _ HX0.out (by decide) (by decide))
 have F1:=Lib.hid (F0.out.trans f1)
 clear h1 f1 HI0 HX0 F0
 clear c0_0
 have c1_0:=HX1.out.at_ 0 (.int .i64 q.kind) rfl
 go_wp2_with fail
 go_end0
 exact⟨rfl,by rw[HE.out];exact HI1.out,F1.out⟩
theorem wquery {W0 W:World} {b:Nat} {ws:List ByteArray} {q:PQuery} {vs vc vi vp:Value} (h:WI W0 b ws W) (ht:Tab W0) (hq:QSees W0 q vs vc vi vp) (hf:QFits q) (n1:q.spots.length≤6) (n2:q.conds.length≤6) (n3:q.items.length≤6) (n4:q.pairs.length≤6) (hl:ws.length≤100):
  Calls Tryz.prog 53 #[.pointer (some ⟨b,0,none⟩),.agg (qC q vs vc vi vp)] W fun e W'=>e=.returned (.tuple #[])∧WI W0 b (ws++queryW q) W'∧FrW W W':=by
 by_cases g6:q.kind=6
 ·exact wq6 h ht hq hf n1 n2 n3 n4 hl g6
 by_cases g5:q.kind=5
 ·exact wq5 h ht hq hf n1 n2 n3 n4 hl g5
 by_cases g1:q.kind=1
 ·exact wq1 h ht hq hf n1 n2 n3 n4 hl g1
 by_cases g2:q.kind=2
 ·exact wq2 h ht hq hf n1 n2 n3 n4 hl g2
 by_cases g3:q.kind=3
 ·exact wq3 h ht hq hf n1 n2 n3 n4 hl g3
 by_cases g4:q.kind=4
 ·exact wq4 h ht hq hf n1 n2 n3 n4 hl g4
 exact wq0 h ht hq hf n1 n2 n3 n4 hl g6 g5 g1 g2 g3 g4
end Go.Proofs.YtobgbmfpicmpcaaGreatDoor

/- The program's same, and hasTooMany. -/
namespace Go.Proofs.YtobgbmfpicmpcaaGreatDoor
open Go.RowKit
theorem Sees.drew {w:World} {k n:Nat} {v:Value} {xs:List Value} (h:Sees w k v n xs) (d:Nat):Sees (w.drewN d) k v n xs:=h
theorem eqQ_no {a b:PQuery} (h:a≠b):eqQ a b=false:=by
 cases he:eqQ a b
 ·rfl
 ·exact absurd (Pure.eqQ_iff.1 he) h
end Go.Proofs.YtobgbmfpicmpcaaGreatDoor

/- The reference's Same, of any two queries. -/
namespace Go.Proofs.YtobgbmfpicmpcaaGreatDoor
open Go.RowKit
theorem below_drewN {W w:World} (h:Below W.heap.size W w) (d:Nat):Below W.heap.size W (w.drewN d):=⟨h.os,h.tape,h.output,h.size,fun k hk=>h.block k hk⟩
set_option maxRecDepth 100000 in
set_option maxHeartbeats 4000000 in
theorem refSameLen1 {W:World} {a b:PQuery} {a1 a2 a3 a4 b1 b2 b3 b4:Option Addr} {m1 m2 m3 m4 n1 n2 n3 n4 k1 k2 k3 k4 l1 l2 l3 l4:Nat} (e1:m1≠n1):
  Calls Tryz.prog 16 #[.agg (qC a (.slice a1 m1 k1) (.slice a2 m2 k2) (.slice a3 m3 k3) (.slice a4 m4 k4)),.agg (qC b (.slice b1 n1 l1) (.slice b2 n2 l2) (.slice b3 n3 l3) (.slice b4 n4 l4))] W fun e W'=>e=.returned (.bool false)∧Below W.heap.size W W':=by
 have f1:((m1:Int) != (n1:Int))=true:=by simp only[bne_iff_ne];omega
 clear e1
 go_enter Tryz.func16,Tryz.ntmps16
 go_upto_region 1 with fail
 obtain⟨X,hX⟩:∃X,X=W.heap.size:=⟨_,rfl⟩
 obtain⟨Y,hY⟩:∃Y,Y=W.heap.size+1:=⟨_,rfl⟩
 have H0:Hid (Below W.heap.size W ((W.alloc (.cells (qC a (.slice a1 m1 k1) (.slice a2 m2 k2) (.slice a3 m3 k3) (.slice a4 m4 k4)) 29)).alloc (.cells (qC b (.slice b1 n1 l1) (.slice b2 n2 l2) (.slice b3 n3 l3) (.slice b4 n4 l4)) 29))∧Loc ((W.alloc (.cells (qC a (.slice a1 m1 k1) (.slice a2 m2 k2) (.slice a3 m3 k3) (.slice a4 m4 k4)) 29)).alloc (.cells (qC b (.slice b1 n1 l1) (.slice b2 n2 l2) (.slice b3 n3 l3) (.slice b4 n4 l4)) 29)) X (qC a (.slice a1 m1 k1) (.slice a2 m2 k2) (.slice a3 m3 k3) (.slice a4 m4 k4)) 29∧Loc ((W.alloc (.cells (qC a (.slice a1 m1 k1) (.slice a2 m2 k2) (.slice a3 m3 k3) (.slice a4 m4 k4)) 29)).alloc (.cells (qC b (.slice b1 n1 l1) (.slice b2 n2 l2) (.slice b3 n3 l3) (.slice b4 n4 l4)) 29)) Y (qC b (.slice b1 n1 l1) (.slice b2 n2 l2) (.slice b3 n3 l3) (.slice b4 n4 l4)) 29):=by
  have hs:=size_alloc W (.cells (qC a (.slice a1 m1 k1) (.slice a2 m2 k2) (.slice a3 m3 k3) (.slice a4 m4 k4)) 29)
  refine⟨Below.alloc (Below.alloc (Below.refl _ _) (Nat.le_refl _) _) (by omega) _,?_,?_⟩
  ·rw[hX];exact(Loc.new W _ _).alloc _
  ·rw[hY,←hs];exact Loc.new _ _ _
 rw[←hY,←hX]
 clear hX hY
 generalize (W.alloc (.cells (qC a (.slice a1 m1 k1) (.slice a2 m2 k2) (.slice a3 m3 k3) (.slice a4 m4 k4)) 29)).alloc (.cells (qC b (.slice b1 n1 l1) (.slice b2 n2 l2) (.slice b3 n3 l3) (.slice b4 n4 l4)) 29)=W1 at H0⊢
 have x1:=H0.out.2.1.at_ 1 (.slice a1 m1 k1) rfl
 have y1:=H0.out.2.2.at_ 1 (.slice b1 n1 l1) rfl
 have x2:=H0.out.2.1.at_ 2 (.slice a2 m2 k2) rfl
 have y2:=H0.out.2.2.at_ 2 (.slice b2 n2 l2) rfl
 have x3:=H0.out.2.1.at_ 3 (.slice a3 m3 k3) rfl
 have y3:=H0.out.2.2.at_ 3 (.slice b3 n3 l3) rfl
 have x16:=H0.out.2.1.at_ 16 (.slice a4 m4 k4) rfl
 have y16:=H0.out.2.2.at_ 16 (.slice b4 n4 l4) rfl
 go_wp2_with fail
 (try simp only[Exit.inBlock,Exit.then])
 refine bodyPost_ret (v:=.bool false) ?_ rfl ⟨rfl,H0.out.1⟩
 simp[results,Tryz.results16,go_sem]
set_option maxRecDepth 100000 in
set_option maxHeartbeats 4000000 in
theorem refSameLen2 {W:World} {a b:PQuery} {a1 a2 a3 a4 b1 b2 b3 b4:Option Addr} {m1 m2 m3 m4 n1 n2 n3 n4 k1 k2 k3 k4 l1 l2 l3 l4:Nat} (e1:m1=n1) (e2:m2≠n2):
  Calls Tryz.prog 16 #[.agg (qC a (.slice a1 m1 k1) (.slice a2 m2 k2) (.slice a3 m3 k3) (.slice a4 m4 k4)),.agg (qC b (.slice b1 n1 l1) (.slice b2 n2 l2) (.slice b3 n3 l3) (.slice b4 n4 l4))] W fun e W'=>e=.returned (.bool false)∧Below W.heap.size W W':=by
 subst e1
 have f1:((m1:Int) != (m1:Int))=false:=by simp
 have f2:((m2:Int) != (n2:Int))=true:=by simp only[bne_iff_ne];omega
 clear e2
 go_enter Tryz.func16,Tryz.ntmps16
 go_upto_region 1 with fail
 obtain⟨X,hX⟩:∃X,X=W.heap.size:=⟨_,rfl⟩
 obtain⟨Y,hY⟩:∃Y,Y=W.heap.size+1:=⟨_,rfl⟩
 have H0:Hid (Below W.heap.size W ((W.alloc (.cells (qC a (.slice a1 m1 k1) (.slice a2 m2 k2) (.slice a3 m3 k3) (.slice a4 m4 k4)) 29)).alloc (.cells (qC b (.slice b1 m1 l1) (.slice b2 n2 l2) (.slice b3 n3 l3) (.slice b4 n4 l4)) 29))∧Loc ((W.alloc (.cells (qC a (.slice a1 m1 k1) (.slice a2 m2 k2) (.slice a3 m3 k3) (.slice a4 m4 k4)) 29)).alloc (.cells (qC b (.slice b1 m1 l1) (.slice b2 n2 l2) (.slice b3 n3 l3) (.slice b4 n4 l4)) 29)) X (qC a (.slice a1 m1 k1) (.slice a2 m2 k2) (.slice a3 m3 k3) (.slice a4 m4 k4)) 29∧Loc ((W.alloc (.cells (qC a (.slice a1 m1 k1) (.slice a2 m2 k2) (.slice a3 m3 k3) (.slice a4 m4 k4)) 29)).alloc (.cells (qC b (.slice b1 m1 l1) (.slice b2 n2 l2) (.slice b3 n3 l3) (.slice b4 n4 l4)) 29)) Y (qC b (.slice b1 m1 l1) (.slice b2 n2 l2) (.slice b3 n3 l3) (.slice b4 n4 l4)) 29):=by
  have hs:=size_alloc W (.cells (qC a (.slice a1 m1 k1) (.slice a2 m2 k2) (.slice a3 m3 k3) (.slice a4 m4 k4)) 29)
  refine⟨Below.alloc (Below.alloc (Below.refl _ _) (Nat.le_refl _) _) (by omega) _,?_,?_⟩
  ·rw[hX];exact(Loc.new W _ _).alloc _
  ·rw[hY,←hs];exact Loc.new _ _ _
 rw[←hY,←hX]
 clear hX hY
 generalize (W.alloc (.cells (qC a (.slice a1 m1 k1) (.slice a2 m2 k2) (.slice a3 m3 k3) (.slice a4 m4 k4)) 29)).alloc (.cells (qC b (.slice b1 m1 l1) (.slice b2 n2 l2) (.slice b3 n3 l3) (.slice b4 n4 l4)) 29)=W1 at H0⊢
 have x1:=H0.out.2.1.at_ 1 (.slice a1 m1 k1) rfl
 have y1:=H0.out.2.2.at_ 1 (.slice b1 m1 l1) rfl
 have x2:=H0.out.2.1.at_ 2 (.slice a2 m2 k2) rfl
 have y2:=H0.out.2.2.at_ 2 (.slice b2 n2 l2) rfl
 have x3:=H0.out.2.1.at_ 3 (.slice a3 m3 k3) rfl
 have y3:=H0.out.2.2.at_ 3 (.slice b3 n3 l3) rfl
 have x16:=H0.out.2.1.at_ 16 (.slice a4 m4 k4) rfl
 have y16:=H0.out.2.2.at_ 16 (.slice b4 n4 l4) rfl
 go_wp2_with fail
 (try simp only[Exit.inBlock,Exit.then])
 refine bodyPost_ret (v:=.bool false) ?_ rfl ⟨rfl,H0.out.1⟩
 simp[results,Tryz.results16,go_sem]
set_option maxRecDepth 100000 in
set_option maxHeartbeats 4000000 in
theorem refSameLen3 {W:World} {a b:PQuery} {a1 a2 a3 a4 b1 b2 b3 b4:Option Addr} {m1 m2 m3 m4 n1 n2 n3 n4 k1 k2 k3 k4 l1 l2 l3 l4:Nat} (e1:m1=n1) (e2:m2=n2) (e3:m3≠n3):
  Calls Tryz.prog 16 #[.agg (qC a (.slice a1 m1 k1) (.slice a2 m2 k2) (.slice a3 m3 k3) (.slice a4 m4 k4)),.agg (qC b (.slice b1 n1 l1) (.slice b2 n2 l2) (.slice b3 n3 l3) (.slice b4 n4 l4))] W fun e W'=>e=.returned (.bool false)∧Below W.heap.size W W':=by
 subst e1
 subst e2
 have f1:((m1:Int) != (m1:Int))=false:=by simp
 have f2:((m2:Int) != (m2:Int))=false:=by simp
 have f3:((m3:Int) != (n3:Int))=true:=by simp only[bne_iff_ne];omega
 clear e3
 go_enter Tryz.func16,Tryz.ntmps16
 go_upto_region 1 with fail
 obtain⟨X,hX⟩:∃X,X=W.heap.size:=⟨_,rfl⟩
 obtain⟨Y,hY⟩:∃Y,Y=W.heap.size+1:=⟨_,rfl⟩
 have H0:Hid (Below W.heap.size W ((W.alloc (.cells (qC a (.slice a1 m1 k1) (.slice a2 m2 k2) (.slice a3 m3 k3) (.slice a4 m4 k4)) 29)).alloc (.cells (qC b (.slice b1 m1 l1) (.slice b2 m2 l2) (.slice b3 n3 l3) (.slice b4 n4 l4)) 29))∧Loc ((W.alloc (.cells (qC a (.slice a1 m1 k1) (.slice a2 m2 k2) (.slice a3 m3 k3) (.slice a4 m4 k4)) 29)).alloc (.cells (qC b (.slice b1 m1 l1) (.slice b2 m2 l2) (.slice b3 n3 l3) (.slice b4 n4 l4)) 29)) X (qC a (.slice a1 m1 k1) (.slice a2 m2 k2) (.slice a3 m3 k3) (.slice a4 m4 k4)) 29∧Loc ((W.alloc (.cells (qC a (.slice a1 m1 k1) (.slice a2 m2 k2) (.slice a3 m3 k3) (.slice a4 m4 k4)) 29)).alloc (.cells (qC b (.slice b1 m1 l1) (.slice b2 m2 l2) (.slice b3 n3 l3) (.slice b4 n4 l4)) 29)) Y (qC b (.slice b1 m1 l1) (.slice b2 m2 l2) (.slice b3 n3 l3) (.slice b4 n4 l4)) 29):=by
  have hs:=size_alloc W (.cells (qC a (.slice a1 m1 k1) (.slice a2 m2 k2) (.slice a3 m3 k3) (.slice a4 m4 k4)) 29)
  refine⟨Below.alloc (Below.alloc (Below.refl _ _) (Nat.le_refl _) _) (by omega) _,?_,?_⟩
  ·rw[hX];exact(Loc.new W _ _).alloc _
  ·rw[hY,←hs];exact Loc.new _ _ _
 rw[←hY,←hX]
 clear hX hY
 generalize (W.alloc (.cells (qC a (.slice a1 m1 k1) (.slice a2 m2 k2) (.slice a3 m3 k3) (.slice a4 m4 k4)) 29)).alloc (.cells (qC b (.slice b1 m1 l1) (.slice b2 m2 l2) (.slice b3 n3 l3) (.slice b4 n4 l4)) 29)=W1 at H0⊢
 have x1:=H0.out.2.1.at_ 1 (.slice a1 m1 k1) rfl
 have y1:=H0.out.2.2.at_ 1 (.slice b1 m1 l1) rfl
 have x2:=H0.out.2.1.at_ 2 (.slice a2 m2 k2) rfl
 have y2:=H0.out.2.2.at_ 2 (.slice b2 m2 l2) rfl
 have x3:=H0.out.2.1.at_ 3 (.slice a3 m3 k3) rfl
 have y3:=H0.out.2.2.at_ 3 (.slice b3 n3 l3) rfl
 have x16:=H0.out.2.1.at_ 16 (.slice a4 m4 k4) rfl
 have y16:=H0.out.2.2.at_ 16 (.slice b4 n4 l4) rfl
 go_wp2_with fail
 (try simp only[Exit.inBlock,Exit.then])
 refine bodyPost_ret (v:=.bool false) ?_ rfl ⟨rfl,H0.out.1⟩
 simp[results,Tryz.results16,go_sem]
set_option maxRecDepth 100000 in
set_option maxHeartbeats 4000000 in
theorem refSameLen4 {W:World} {a b:PQuery} {a1 a2 a3 a4 b1 b2 b3 b4:Option Addr} {m1 m2 m3 m4 n1 n2 n3 n4 k1 k2 k3 k4 l1 l2 l3 l4:Nat} (e1:m1=n1) (e2:m2=n2) (e3:m3=n3) (e4:m4≠n4):
  Calls Tryz.prog 16 #[.agg (qC a (.slice a1 m1 k1) (.slice a2 m2 k2) (.slice a3 m3 k3) (.slice a4 m4 k4)),.agg (qC b (.slice b1 n1 l1) (.slice b2 n2 l2) (.slice b3 n3 l3) (.slice b4 n4 l4))] W fun e W'=>e=.returned (.bool false)∧Below W.heap.size W W':=by
 subst e1
 subst e2
 subst e3
 have f1:((m1:Int) != (m1:Int))=false:=by simp
 have f2:((m2:Int) != (m2:Int))=false:=by simp
 have f3:((m3:Int) != (m3:Int))=false:=by simp
 have f4:((m4:Int) != (n4:Int))=true:=by simp only[bne_iff_ne];omega
 clear e4
 go_enter Tryz.func16,Tryz.ntmps16
 go_upto_region 1 with fail
 obtain⟨X,hX⟩:∃X,X=W.heap.size:=⟨_,rfl⟩
 obtain⟨Y,hY⟩:∃Y,Y=W.heap.size+1:=⟨_,rfl⟩
 have H0:Hid (Below W.heap.size W ((W.alloc (.cells (qC a (.slice a1 m1 k1) (.slice a2 m2 k2) (.slice a3 m3 k3) (.slice a4 m4 k4)) 29)).alloc (.cells (qC b (.slice b1 m1 l1) (.slice b2 m2 l2) (.slice b3 m3 l3) (.slice b4 n4 l4)) 29))∧Loc ((W.alloc (.cells (qC a (.slice a1 m1 k1) (.slice a2 m2 k2) (.slice a3 m3 k3) (.slice a4 m4 k4)) 29)).alloc (.cells (qC b (.slice b1 m1 l1) (.slice b2 m2 l2) (.slice b3 m3 l3) (.slice b4 n4 l4)) 29)) X (qC a (.slice a1 m1 k1) (.slice a2 m2 k2) (.slice a3 m3 k3) (.slice a4 m4 k4)) 29∧Loc ((W.alloc (.cells (qC a (.slice a1 m1 k1) (.slice a2 m2 k2) (.slice a3 m3 k3) (.slice a4 m4 k4)) 29)).alloc (.cells (qC b (.slice b1 m1 l1) (.slice b2 m2 l2) (.slice b3 m3 l3) (.slice b4 n4 l4)) 29)) Y (qC b (.slice b1 m1 l1) (.slice b2 m2 l2) (.slice b3 m3 l3) (.slice b4 n4 l4)) 29):=by
  have hs:=size_alloc W (.cells (qC a (.slice a1 m1 k1) (.slice a2 m2 k2) (.slice a3 m3 k3) (.slice a4 m4 k4)) 29)
  refine⟨Below.alloc (Below.alloc (Below.refl _ _) (Nat.le_refl _) _) (by omega) _,?_,?_⟩
  ·rw[hX];exact(Loc.new W _ _).alloc _
  ·rw[hY,←hs];exact Loc.new _ _ _
 rw[←hY,←hX]
 clear hX hY
 generalize (W.alloc (.cells (qC a (.slice a1 m1 k1) (.slice a2 m2 k2) (.slice a3 m3 k3) (.slice a4 m4 k4)) 29)).alloc (.cells (qC b (.slice b1 m1 l1) (.slice b2 m2 l2) (.slice b3 m3 l3) (.slice b4 n4 l4)) 29)=W1 at H0⊢
 have x1:=H0.out.2.1.at_ 1 (.slice a1 m1 k1) rfl
 have y1:=H0.out.2.2.at_ 1 (.slice b1 m1 l1) rfl
 have x2:=H0.out.2.1.at_ 2 (.slice a2 m2 k2) rfl
 have y2:=H0.out.2.2.at_ 2 (.slice b2 m2 l2) rfl
 have x3:=H0.out.2.1.at_ 3 (.slice a3 m3 k3) rfl
 have y3:=H0.out.2.2.at_ 3 (.slice b3 m3 l3) rfl
 have x16:=H0.out.2.1.at_ 16 (.slice a4 m4 k4) rfl
 have y16:=H0.out.2.2.at_ 16 (.slice b4 n4 l4) rfl
 go_wp2_with fail
 (try simp only[Exit.inBlock,Exit.then])
 refine bodyPost_ret (v:=.bool false) ?_ rfl ⟨rfl,H0.out.1⟩
 simp[results,Tryz.results16,go_sem]
end Go.Proofs.YtobgbmfpicmpcaaGreatDoor

