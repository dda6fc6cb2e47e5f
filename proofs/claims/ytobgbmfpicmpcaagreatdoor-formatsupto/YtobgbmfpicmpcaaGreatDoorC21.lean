/- The reference's Same, of any two queries. -/
import Derived.Test.YtobgbmfpicmpcaaGreatDoorC16
import Derived.Test.YtobgbmfpicmpcaaGreatDoorC17
import Derived.Test.YtobgbmfpicmpcaaGreatDoorC18
import Derived.Test.YtobgbmfpicmpcaaGreatDoorC19
import Derived.Test.YtobgbmfpicmpcaaGreatDoorC20
import Derived.Test.YtobgbmfpicmpcaaGreatDoorC07
import Derived.Test.YtobgbmfpicmpcaaGreatDoorC11
import Derived.Test.YtobgbmfpicmpcaaGreatDoorC15
import Derived.Test.YtobgbmfpicmpcaaGreatDoorC09
import Derived.Test.YtobgbmfpicmpcaaGreatDoorC06
import Derived.Test.YtobgbmfpicmpcaaGreatDoorC05
namespace Go.Proofs.YtobgbmfpicmpcaaGreatDoor
open Go.RowKit
theorem refSame_ {W:World} {a b:PQuery} {vs vc vi vp us uc ui up:Value} (ha:QSees W a vs vc vi vp) (hb:QSees W b us uc ui up) (s1:b.spots.length≤4000000) (s2:b.conds.length≤4000000) (s3:b.items.length≤4000000) (s4:b.pairs.length≤4000000):
  Calls Tryz.prog 16 #[.agg (qC a vs vc vi vp),.agg (qC b us uc ui up)] W fun e W'=>e=.returned (.bool (eqQ a b))∧Below W.heap.size W W':=by
 obtain⟨a1,k1,rfl,_⟩:=sees_slice (l:=a.spots) ha.rs
 obtain⟨a2,k2,rfl,_⟩:=sees_slice (l:=a.conds) ha.rc
 obtain⟨a3,k3,rfl,_⟩:=sees_slice (l:=a.items) ha.rt
 obtain⟨a4,k4,rfl,_⟩:=sees_slice (l:=a.pairs) ha.rp
 obtain⟨b1,l1,rfl,_⟩:=sees_slice (l:=b.spots) hb.rs
 obtain⟨b2,l2,rfl,_⟩:=sees_slice (l:=b.conds) hb.rc
 obtain⟨b3,l3,rfl,_⟩:=sees_slice (l:=b.items) hb.rt
 obtain⟨b4,l4,rfl,_⟩:=sees_slice (l:=b.pairs) hb.rp
 by_cases e1:a.spots.length≠b.spots.length
 ·rw[eqQ_no (fun h=>e1 (by rw[h]))];exact refSameLen1 e1
 rw[ne_eq,Classical.not_not] at e1
 by_cases e2:a.conds.length≠b.conds.length
 ·rw[eqQ_no (fun h=>e2 (by rw[h]))];exact refSameLen2 e1 e2
 rw[ne_eq,Classical.not_not] at e2
 by_cases e3:a.items.length≠b.items.length
 ·rw[eqQ_no (fun h=>e3 (by rw[h]))];exact refSameLen3 e1 e2 e3
 rw[ne_eq,Classical.not_not] at e3
 by_cases e4:a.pairs.length≠b.pairs.length
 ·rw[eqQ_no (fun h=>e4 (by rw[h]))];exact refSameLen4 e1 e2 e3 e4
 rw[ne_eq,Classical.not_not] at e4
 rw[e1,e2,e3,e4] at ha⊢
 by_cases hl:a.spots=b.spots∧a.conds=b.conds∧a.items=b.items∧a.pairs=b.pairs
 ·obtain⟨h1,h2,h3,h4⟩:=hl
  clear e1 e2 e3 e4
  obtain⟨kd,sp,co,it,od,dn,sk,li,nm,ke,⟨vn,vk,vv⟩,ty,tt,la,pa⟩:=a
  obtain⟨kd',spB,coB,itB,od',dn',sk',li',nm',ke',⟨vn',vk',vv'⟩,ty',tt',la',paB⟩:=b
  simp only at h1 h2 h3 h4 s1 s2 s3 s4
  subst h1 h2 h3 h4
  by_cases f0:kd≠kd'∨od≠od'∨dn≠dn'∨sk≠sk'
  ·rw[eqQ_no (fun h=>by simp only[PQuery.mk.injEq,PTerm.mk.injEq] at h;obtain⟨h0,_,_,_,h4,h5,h6,h7,h8,h9,⟨h10,h11,h12⟩,_⟩:=h;simp_all)]
   exact refSameG1 ha hb rfl rfl rfl rfl s1 s2 s3 s4 f0
  simp only[not_or,ne_eq,Classical.not_not] at f0
  obtain⟨rfl,rfl,rfl,rfl⟩:=f0
  by_cases f1:li≠li'∨nm≠nm'∨ke≠ke'
  ·rw[eqQ_no (fun h=>by simp only[PQuery.mk.injEq,PTerm.mk.injEq] at h;obtain⟨h0,_,_,_,h4,h5,h6,h7,h8,h9,⟨h10,h11,h12⟩,_⟩:=h;simp_all)]
   exact refSameG2 ha hb rfl rfl rfl rfl s1 s2 s3 s4 f1
  simp only[not_or,ne_eq,Classical.not_not] at f1
  obtain⟨rfl,rfl,rfl⟩:=f1
  by_cases f2:vn≠vn'∨vk≠vk'∨vv≠vv'
  ·rw[eqQ_no (fun h=>by simp only[PQuery.mk.injEq,PTerm.mk.injEq] at h;obtain⟨h0,_,_,_,h4,h5,h6,h7,h8,h9,⟨h10,h11,h12⟩,_⟩:=h;simp_all)]
   exact refSameG3 ha hb rfl rfl rfl rfl s1 s2 s3 s4 f2
  simp only[not_or,ne_eq,Classical.not_not] at f2
  obtain⟨rfl,rfl,rfl⟩:=f2
  have h:eqQ (⟨kd,sp,co,it,od,dn,sk,li,nm,ke,⟨vn,vk,vv⟩,ty,tt,la,pa⟩:PQuery) ⟨kd,sp,co,it,od,dn,sk,li,nm,ke,⟨vn,vk,vv⟩,ty',tt',la',pa⟩=(eqB ty ty'&&eqB tt tt'&&eqB la la'):=by
   unfold eqQ;rw[show eqL eqSpot sp sp=true from (Pure.eqL_iff Pure.eqSpot_iff).2 rfl,show eqL eqCond co co=true from (Pure.eqL_iff Pure.eqCond_iff).2 rfl,show eqL eqItem it it=true from (Pure.eqL_iff Pure.eqItem_iff).2 rfl,show eqL eqPair pa pa=true from (Pure.eqL_iff Pure.eqPair_iff).2 rfl]
   simp[eqRest,Pure.eqB_refl,Pure.eqTerm_iff.2]
  rw[h]
  exact refSameG4 ha hb rfl rfl rfl rfl s1 s2 s3 s4
 ·rw[eqQ_no (fun h=>hl (by rw[h];exact⟨rfl,rfl,rfl,rfl⟩))]
  exact refSameLists ha hb e1 e2 e3 e4 rfl rfl rfl rfl s1 s2 s3 s4 (fun h1 h2 h3 h4=>hl ⟨(Pure.eqL_iff Pure.eqSpot_iff).1 h1,(Pure.eqL_iff Pure.eqCond_iff).1 h2,(Pure.eqL_iff Pure.eqItem_iff).1 h3,(Pure.eqL_iff Pure.eqPair_iff).1 h4⟩)
end Go.Proofs.YtobgbmfpicmpcaaGreatDoor

/- The reference's Parse: a text that has no tokens; tokens that are none of the grammar's, or that are left. -/
namespace Go.Proofs.YtobgbmfpicmpcaaGreatDoor
open Go.RowKit
set_option maxRecDepth 100000 in
set_option maxHeartbeats 9000000 in
theorem refParseNone (s:ByteArray) (W:World) (hs:s.size≤maxLen) (hnone:toks s=none):Calls Tryz.prog 14 #[.string s] W (ParsePost (parseText (toks s)) W):=by
 have hB0:Below W.heap.size W (W.alloc (.cells zq 29)):=Below.alloc (Below.refl _ _) (Nat.le_refl _) _
 have L0:=Loc.new W zq 29
 have HZ:=size_alloc W (.cells zq 29)
 have HB0:=Lib.hid hB0
 have HL0:=Lib.hid L0
 clear hB0 L0
 go_enter Tryz.func14,Tryz.ntmps14
 go_wp2_with fail
 obtain⟨X0,hX0⟩:∃X0,X0=W.heap.size:=⟨_,rfl⟩
 rw[←hX0] at HL0⊢
 have hXW:W.heap.size≤X0:=by omega
 have hXZ:X0+1=(W.alloc (.cells zq 29)).heap.size:=by rw[HZ,hX0]
 clear hX0
 generalize W.alloc (.cells zq 29)=Wz at HB0 HL0 HZ hXZ⊢
 refine(refTokensAny s Wz hs).mono ?_
 rintro e W1 ⟨hb1,hr⟩
 have HB1:=Lib.hid hb1
 have hs1:=hb1.size
 rcases hr with ⟨hno,rfl⟩|⟨ts,lv,hts,rfl,hown⟩
 ·have HL1:Hid (Loc W1 X0 zq 29):=HL0.out.grown (grown_below hb1 none) (by simp)
  have HW:Hid (Below W.heap.size W W1):=below_of (b:=W.heap.size) HB0.out (grown_below hb1 _) (Nat.le_refl _)
  clear hb1 HB1 HL0 HB0
  have HNO:Hid (parseText (toks s)=(query0,3)):=by show _=_;rw[hno];rfl
  go_upto_region 3 with fail
  refine wp_region_lit ?_
  refine wpList_zeroQuery rfl rfl ?_
  refine wpList_move rfl rfl ?_
  refine wpList_store_mid rfl 29 _ _ rfl X0 0 zq rfl rfl HL1.out.there Tryz.sizeQuery z_one ?_
  have hF:Loc (W1.setCells X0 0 zq.toList) X0 zq 29:=HL1.out.setAll rfl
  have hG:=grown_setMany X0 zq.toList 0 W1
  obtain⟨WF,hWF⟩:∃WF,W1.setCells X0 0 zq.toList=WF:=⟨_,rfl⟩
  rw[hWF] at hF hG⊢
  clear hWF
  go_wp2_with fail
  refine bodyPost_ret (v:=.tuple #[.agg zq,.int .i64 3]) (retQuery Tryz.results14 rfl rfl hF rfl) rfl ⟨?_,.slice none 0 0,.slice none 0 0,.slice none 0 0,.slice none 0 0,?_,?_⟩
  ·exact below_of (b:=X0) HW.out hG hXW
  ·rw[HNO.out];rfl
  ·rw[HNO.out];exact QRows.none _ _
 ·rw[hnone] at hts;cases hts
end Go.Proofs.YtobgbmfpicmpcaaGreatDoor

/- The reference's Parse: a variable that stands for nothing; a query; and the whole. -/
namespace Go.Proofs.YtobgbmfpicmpcaaGreatDoor
open Go.RowKit
set_option maxRecDepth 100000 in
set_option maxHeartbeats 9000000 in
theorem refParseSome (s:ByteArray) (W:World) (hs:s.size≤maxLen) {ts:List Tok} (hts:toks s=some ts) {q0:PQuery} {s0:RS} (Hq0:Hid (queryR ⟨ts,false⟩=(q0,s0))):Calls Tryz.prog 14 #[.string s] W (ParsePost (parseText (toks s)) W):=by
 have hB0:Below W.heap.size W (W.alloc (.cells zq 29)):=Below.alloc (Below.refl _ _) (Nat.le_refl _) _
 have L0:=Loc.new W zq 29
 have HZ:=size_alloc W (.cells zq 29)
 have HB0:=Lib.hid hB0
 have HL0:=Lib.hid L0
 clear hB0 L0
 go_enter Tryz.func14,Tryz.ntmps14
 go_wp2_with fail
 obtain⟨X0,hX0⟩:∃X0,X0=W.heap.size:=⟨_,rfl⟩
 rw[←hX0] at HL0⊢
 have hXW:W.heap.size≤X0:=by omega
 have hXZ:X0+1=(W.alloc (.cells zq 29)).heap.size:=by rw[HZ,hX0]
 clear hX0
 generalize W.alloc (.cells zq 29)=Wz at HB0 HL0 HZ hXZ⊢
 refine(refTokensAny s Wz hs).mono ?_
 rintro e W1 ⟨hb1,hr⟩
 have HB1:=Lib.hid hb1
 have hs1:=hb1.size
 rcases hr with ⟨hno,rfl⟩|⟨ts',lv,hts2,rfl,hown⟩
 ·rw[hts] at hno;cases hno
 ·obtain rfl:ts=ts':=by rw[hts] at hts2;exact Option.some.inj hts2
  clear hts2
  have hl:=toks_len hts
  obtain⟨ao,ca,rfl,hca⟩:=row_slice (l:=ts) hown
  have HQ0:=Lib.hid (QAt.start hb1 hown hl)
  clear hb1 hown HB1
  go_upto_region 6 with fail
  obtain⟨x,hx⟩:∃x,x=W1.heap.size+1:=⟨_,rfl⟩
  obtain⟨b,hb⟩:∃b,b=W1.heap.size:=⟨_,rfl⟩
  have hbW:Wz.heap.size≤b:=by omega
  have hbX:X0≠b:=by omega
  rw[←hx,←hb] at HQ0⊢
  clear hx hb hs1
  generalize (W1.alloc (.cells #[.slice ao ts.length ca,.int .i64 0,.bool false] 76)).alloc (.cells zq 29)=W2 at HQ0⊢
  have HQ:Hid (QAt Wz b (.slice ao ts.length ca) ts ⟨ts,false⟩ x (qC query0 (.slice none 0 0) (.slice none 0 0) (.slice none 0 0) (.slice none 0 0)) ⟨(.slice none 0 0),[],(.slice none 0 0),[],(.slice none 0 0),[],(.slice none 0 0),[]⟩ W2):=HQ0.out
  clear HQ0
  obtain⟨m0,hm0⟩:∃m0,peekR kCREATE ⟨ts,false⟩=m0:=⟨_,rfl⟩
  have HM0:=Lib.hid hm0
  obtain⟨s1,hs1⟩:∃s1,hasR kCREATE ⟨ts,false⟩=s1:=⟨_,rfl⟩
  have HS1:=Lib.hid hs1
  clear hm0 hs1
  go_wp2_with fail
  refine(has HQ.out.ri kCREATE m0 HM0.out).mono ?_
  rintro e W3 ⟨rfl,h3,g3⟩
  rw[HS1.out] at h3
  have H3:=Lib.hid (HQ.out.call h3 g3)
  clear h3 g3 HQ
  go_upto_region 7 with fail
  go_cut [9] (fun v w=>∃m s2,v=.bool m∧QAt Wz b (.slice ao ts.length ca) ts s2 x (qC query0 (.slice none 0 0) (.slice none 0 0) (.slice none 0 0) (.slice none 0 0)) ⟨(.slice none 0 0),[],(.slice none 0 0),[],(.slice none 0 0),[],(.slice none 0 0),[]⟩ w∧((m0=true∧m=false∧s2=s1)∨(m0=false∧m=peekR kCALL s1∧s2=hasR kCALL s1)))
  case first=>
   cases m0 with
   | true=>
    go_wp2_with fail
    go_meet
    case rel=>exact⟨false,s1,rfl,H3.out,Or.inl ⟨trivial,rfl,rfl⟩⟩
   | false=>
    obtain⟨mc,hmc⟩:∃mc,peekR kCALL s1=mc:=⟨_,rfl⟩
    have HMC:=Lib.hid hmc
    clear hmc
    go_wp2_with fail
    refine(has H3.out.ri kCALL mc HMC.out).mono ?_
    rintro e W4 ⟨rfl,h4,g4⟩
    have H4:=Lib.hid (H3.out.call h4 g4)
    clear h4 g4
    go_wp2_with fail
    go_meet
    case rel=>exact⟨mc,_,rfl,H4.out,Or.inr ⟨trivial,HMC.out.symm,rfl⟩⟩
  case rest=>
   obtain⟨m,s2,rfl,hq2,hcase⟩:=hcut
   have H4:=Lib.hid hq2
   have HCA:=Lib.hid hcase
   clear hq2 hcase H3
   go_upto_block 0 with fail
   go_cut [] (fun w=>∃q vs vc vi vp s3,QAt Wz b (.slice ao ts.length ca) ts s3 x (qC q vs vc vi vp) ⟨vs,q.spots,vc,q.conds,vi,q.items,vp,q.pairs⟩ w∧queryR ⟨ts,false⟩=(q,s3))
   case first=>
    cases m0 with
    | true=>
     have HE:Hid (s2=s1):=by rcases HCA.out with ⟨_,_,e⟩|⟨e,_⟩;exact e;cases e
     go_wp2_with fail
     refine(make_ H4.out).mono ?_
     rintro e W5 ⟨rfl,vp,hq⟩
     have H5:=Lib.hid hq
     clear hq
     go_wp2_with fail
     go_meet
     case rel=>exact⟨{query0 with kind:=5,label:=(makeR s2).1.1,pairs:=(makeR s2).1.2},(.slice none 0 0),(.slice none 0 0),(.slice none 0 0),vp,(makeR s2).2,H5.out,by unfold queryR;simp only[HM0.out,HS1.out,if_true,HE.out]⟩
    | false=>
     have HE:Hid (m=peekR kCALL s1∧s2=hasR kCALL s1):=by rcases HCA.out with ⟨e,_⟩|⟨_,a,b⟩;cases e;exact⟨a,b⟩
     have HE1:Hid (s1=⟨ts,false⟩):=by show _=_;rw[←HS1.out];exact hasR_not HM0.out
     cases m with
     | true=>
      obtain⟨nm,s3,hnm⟩:∃n sz,nameR s2=(n,sz):=⟨_,_,rfl⟩
      have HNM:=Lib.hid hnm
      have c0:=H4.out.lq.at_ 0 (.int .i64 0) rfl
      have f0:wc.frozen? ⟨x,0,none⟩=false:=H4.out.lq.free 0
      have H5:=Lib.hid (H4.out.set 0 (.int .i64 6))
      clear hnm H4
      go_wp2_with fail
      generalize wc.setCell ⟨x,0,none⟩ (.int .i64 6)=W5 at H5⊢
      clear c0 f0
      refine(nameIs H5.out.ri HNM.out).mono ?_
      rintro e W6 ⟨rfl,h6,g6⟩
      have H6a:=H5.out.call h6 g6
      have c8:=H6a.lq.at_ 8 (.string ⟨#[]⟩) rfl
      have f8:W6.frozen? ⟨x,8,none⟩=false:=H6a.lq.free 8
      have H6:=Lib.hid (H6a.set 8 (.string nm))
      clear h6 g6 H6a H5
      go_wp2_with fail
      go_meet
      case rel=>exact⟨{query0 with kind:=6,name:=nm},(.slice none 0 0),(.slice none 0 0),(.slice none 0 0),(.slice none 0 0),s3,H6.out,by have h1:=HE.out;rw[HE1.out] at h1;unfold queryR;simp only[HM0.out,←h1.1,←h1.2,Bool.false_eq_true,if_false,if_true,HNM.out]⟩
     | false=>
      have HE2:Hid (s2=⟨ts,false⟩):=by have h1:=HE.out;show _=_;rw[h1.2,hasR_not h1.1.symm];exact HE1.out
      go_wp2_with fail
      refine(match_ H4.out).mono ?_
      rintro e W5 ⟨rfl,vs,vc,hq⟩
      obtain⟨sp,cd,s3,hms⟩:∃sp cd s3,matchR s2=((sp,cd),s3):=⟨_,_,_,rfl⟩
      rw[hms] at hq
      have HMS:=Lib.hid hms
      have H5:=Lib.hid hq
      have q2:=hq.ri.box.at_ 2 (.bool s3.bad) rfl
      have HQY:Hid (queryR ⟨ts,false⟩=if s3.bad then ({query0 with spots:=sp,conds:=cd},s3) else behindR {query0 with spots:=sp,conds:=cd} s3):=by
       have h1:=HE.out.1
       rw[HE1.out] at h1
       show _=_
       unfold queryR
       have h2:=HMS.out
       rw[HE2.out] at h2
       simp only[HM0.out,←h1,Bool.false_eq_true,if_false,h2]
      clear hq hms H4
      cases hb3:s3.bad with
      | true=>
       have HB3:=Lib.hid hb3
       rw[hb3] at q2
       clear hb3
       go_wp2_with fail
       go_meet
       case rel=>exact⟨{query0 with spots:=sp,conds:=cd},vs,vc,(.slice none 0 0),(.slice none 0 0),s3,H5.out,by rw[HQY.out,HB3.out];rfl⟩
      | false=>
       have HB3:=Lib.hid hb3
       rw[hb3] at q2
       clear hb3
       go_wp2_with fail
       refine(behind H5.out).mono ?_
       rintro e W6 ⟨rfl,vi,hq⟩
       have H6:=Lib.hid hq
       clear hq q2
       go_wp2_with fail
       go_meet
       case rel=>
        refine⟨(behindR {query0 with spots:=sp,conds:=cd} s3).1,vs,vc,vi,(.slice none 0 0),(behindR {query0 with spots:=sp,conds:=cd} s3).2,?_,by rw[HQY.out,HB3.out];rfl⟩
        have e1:=behindR_keeps {query0 with spots:=sp,conds:=cd} s3
        rw[e1.1,e1.2.1,e1.2.2]
        exact H6.out
   case rest=>
    clear H4 HCA
    obtain⟨q,vs,vc,vi,vp,s3,hq,hqy⟩:=hcut
    obtain⟨a1,k1,rfl,_⟩:=row_slice (l:=q.spots) hq.rs
    obtain⟨a2,k2,rfl,_⟩:=row_slice (l:=q.conds) hq.rc
    obtain⟨a3,k3,rfl,_⟩:=row_slice (l:=q.items) hq.rt
    obtain⟨a4,k4,rfl,_⟩:=row_slice (l:=q.pairs) hq.rp
    have HLc:Hid (Loc wc X0 zq 29):=HL0.out.grown hq.grown (by intro e;injection e with e;exact hbX e)
    have HWc:Hid (Below W.heap.size W wc):=below_of HB0.out hq.grown (by omega)
    have HQY:=Lib.hid hqy
    have HX:Hid (Loc wc x (qC q (.slice a1 q.spots.length k1) (.slice a2 q.conds.length k2) (.slice a3 q.items.length k3) (.slice a4 q.pairs.length k4)) 29):=hq.lq
    have HR:Hid (QRows Wz.heap.size q (.slice a1 q.spots.length k1) (.slice a2 q.conds.length k2) (.slice a3 q.items.length k3) (.slice a4 q.pairs.length k4) wc):=⟨hq.rs,hq.rc,hq.rt,hq.rp⟩
    obtain⟨_,_,k,_,_,_,hk,hkl,_,b1,b2,_⟩:=hq.ri.seen
    clear hq HL0 HB0
    have hqq:q0=q∧s0=s3:=by rw[Hq0.out] at hqy;exact⟨congrArg Prod.fst hqy,congrArg Prod.snd hqy⟩
    clear hqy
    cases hbd:s3.bad with
    | true=>
     have hbad:s3.bad=true:=hbd
     clear hqq
     have HWHY:Hid (parseText (toks s)=(query0,3)):=by show _=_;rw[hts];unfold parseText parseR;simp only[HQY.out,hbad];rfl
     rw[hbad] at b2
     clear hbad
     go_upto_region 17 with fail
     refine wp_region_lit ?_
     refine wpList_zeroQuery rfl rfl ?_
     refine wpList_store_mid rfl 29 _ _ rfl X0 0 zq rfl rfl HLc.out.there Tryz.sizeQuery z_one ?_
     have hF:Loc (wc.setCells X0 0 zq.toList) X0 zq 29:=HLc.out.setAll rfl
     have hG:=grown_setMany X0 zq.toList 0 wc
     obtain⟨WF,hWF⟩:∃WF,wc.setCells X0 0 zq.toList=WF:=⟨_,rfl⟩
     rw[hWF] at hF hG⊢
     clear hWF
     go_wp2_with fail
     refine bodyPost_ret (v:=.tuple #[.agg zq,.int .i64 3]) (retQuery Tryz.results14 rfl rfl hF rfl) rfl ⟨?_,.slice none 0 0,.slice none 0 0,.slice none 0 0,.slice none 0 0,?_,?_⟩
     ·exact below_of (b:=X0) HWc.out hG hXW
     ·rw[HWHY.out];rfl
     ·rw[HWHY.out];exact QRows.none _ _
    | false=>
     by_cases hr0:s3.rest.length=0
     ·cases hsc:scopedR q with
      | false=>
       have hbad:s3.bad=false:=hbd
       have HSC:=Lib.hid hsc
       clear hqq
       rw[hbad] at b2
       have hkt:(k:Int)=(ts.length:Int):=by omega
       have hre:s3.rest=[]:=List.length_eq_zero_iff.1 hr0
       have hsm:=query_small (st:=⟨ts,false⟩) (by rw[HQY.out];exact hbad)
       rw[HQY.out] at hsm
       obtain⟨hs1,hs2,hs3⟩:=hsm
       have HP:Hid (parseText (toks s)=if scopedR q then (q,0) else (query0,4)):=by show _=_;rw[hts];unfold parseText parseR;simp only[HQY.out,hbad,hre];rfl
       clear hbad hre hr0
       go_upto_region 18 with fail
       refine wp_region_lit ?_
       refine wpList_load_mid rfl 29 _ rfl x 0 rfl (qC q (.slice a1 q.spots.length k1) (.slice a2 q.conds.length k2) (.slice a3 q.items.length k3) (.slice a4 q.pairs.length k4)).toList _ HX.out.range Tryz.underlying29 rfl (by rw[Tryz.sizeQuery];rfl) ?_
       go_wp2_with fail
       refine(scope_ (q:=q) HR.out.rs HR.out.rc HR.out.rt (by omega) (by omega) (by omega)).mono ?_
       rintro e W5 ⟨rfl,hb5⟩
       have g5:=grown_below hb5 none
       have HL5:Hid (Loc W5 X0 zq 29):=HLc.out.grown g5 (by simp)
       have HX5:Hid (Loc W5 x (qC q (.slice a1 q.spots.length k1) (.slice a2 q.conds.length k2) (.slice a3 q.items.length k3) (.slice a4 q.pairs.length k4)) 29):=HX.out.grown g5 (by simp)
       have HW5:Hid (Below W.heap.size W W5):=below_of (b:=W.heap.size) HWc.out (grown_below hb5 _) (Nat.le_refl _)
       have HR5:Hid (QRows Wz.heap.size q (.slice a1 q.spots.length k1) (.slice a2 q.conds.length k2) (.slice a3 q.items.length k3) (.slice a4 q.pairs.length k4) W5):=⟨kept_none HR.out.rs g5,kept_none HR.out.rc g5,kept_none HR.out.rt g5,kept_none HR.out.rp g5⟩
       clear hb5 g5 HLc HX HWc HR b1 b2
       rw[HSC.out]
       have HWHY:Hid (parseText (toks s)=(query0,4)):=by show _=_;rw[HP.out,HSC.out];rfl
       go_upto_region 20 with fail
       refine wp_region_lit ?_
       refine wpList_zeroQuery rfl rfl ?_
       refine wpList_store_mid rfl 29 _ _ rfl X0 0 zq rfl rfl HL5.out.there Tryz.sizeQuery z_one ?_
       have hF:Loc (W5.setCells X0 0 zq.toList) X0 zq 29:=HL5.out.setAll rfl
       have hG:=grown_setMany X0 zq.toList 0 W5
       obtain⟨WF,hWF⟩:∃WF,W5.setCells X0 0 zq.toList=WF:=⟨_,rfl⟩
       rw[hWF] at hF hG⊢
       clear hWF
       go_wp2_with fail
       refine bodyPost_ret (v:=.tuple #[.agg zq,.int .i64 4]) (retQuery Tryz.results14 rfl rfl hF rfl) rfl ⟨?_,.slice none 0 0,.slice none 0 0,.slice none 0 0,.slice none 0 0,?_,?_⟩
       ·exact below_of (b:=X0) HW5.out hG hXW
       ·rw[HWHY.out];rfl
       ·rw[HWHY.out];exact QRows.none _ _
      | true=>
       have hbad:s3.bad=false:=hbd
       have HSC:=Lib.hid hsc
       clear hqq
       rw[hbad] at b2
       have hkt:(k:Int)=(ts.length:Int):=by omega
       have hre:s3.rest=[]:=List.length_eq_zero_iff.1 hr0
       have hsm:=query_small (st:=⟨ts,false⟩) (by rw[HQY.out];exact hbad)
       rw[HQY.out] at hsm
       obtain⟨hs1,hs2,hs3⟩:=hsm
       have HP:Hid (parseText (toks s)=if scopedR q then (q,0) else (query0,4)):=by show _=_;rw[hts];unfold parseText parseR;simp only[HQY.out,hbad,hre];rfl
       clear hbad hre hr0
       go_upto_region 18 with fail
       refine wp_region_lit ?_
       refine wpList_load_mid rfl 29 _ rfl x 0 rfl (qC q (.slice a1 q.spots.length k1) (.slice a2 q.conds.length k2) (.slice a3 q.items.length k3) (.slice a4 q.pairs.length k4)).toList _ HX.out.range Tryz.underlying29 rfl (by rw[Tryz.sizeQuery];rfl) ?_
       go_wp2_with fail
       refine(scope_ (q:=q) HR.out.rs HR.out.rc HR.out.rt (by omega) (by omega) (by omega)).mono ?_
       rintro e W5 ⟨rfl,hb5⟩
       have g5:=grown_below hb5 none
       have HL5:Hid (Loc W5 X0 zq 29):=HLc.out.grown g5 (by simp)
       have HX5:Hid (Loc W5 x (qC q (.slice a1 q.spots.length k1) (.slice a2 q.conds.length k2) (.slice a3 q.items.length k3) (.slice a4 q.pairs.length k4)) 29):=HX.out.grown g5 (by simp)
       have HW5:Hid (Below W.heap.size W W5):=below_of (b:=W.heap.size) HWc.out (grown_below hb5 _) (Nat.le_refl _)
       have HR5:Hid (QRows Wz.heap.size q (.slice a1 q.spots.length k1) (.slice a2 q.conds.length k2) (.slice a3 q.items.length k3) (.slice a4 q.pairs.length k4) W5):=⟨kept_none HR.out.rs g5,kept_none HR.out.rc g5,kept_none HR.out.rt g5,kept_none HR.out.rp g5⟩
       clear hb5 g5 HLc HX HWc HR b1 b2
       rw[HSC.out]
       have HOK:Hid (parseText (toks s)=(q,0)):=by show _=_;rw[HP.out,HSC.out];rfl
       go_upto_region 21 with fail
       refine wp_region_lit ?_
       refine wpList_load_mid rfl 29 _ rfl x 0 rfl (qC q (.slice a1 q.spots.length k1) (.slice a2 q.conds.length k2) (.slice a3 q.items.length k3) (.slice a4 q.pairs.length k4)).toList _ HX5.out.range Tryz.underlying29 rfl (by rw[Tryz.sizeQuery];rfl) ?_
       refine wpList_store_mid rfl 29 _ _ rfl X0 0 (qC q (.slice a1 q.spots.length k1) (.slice a2 q.conds.length k2) (.slice a3 q.items.length k3) (.slice a4 q.pairs.length k4)) rfl rfl HL5.out.there Tryz.sizeQuery (qC_one q) ?_
       have hF:Loc (W5.setCells X0 0 (qC q (.slice a1 q.spots.length k1) (.slice a2 q.conds.length k2) (.slice a3 q.items.length k3) (.slice a4 q.pairs.length k4)).toList) X0 (qC q (.slice a1 q.spots.length k1) (.slice a2 q.conds.length k2) (.slice a3 q.items.length k3) (.slice a4 q.pairs.length k4)) 29:=HL5.out.setAll rfl
       have hG:=grown_setMany X0 (qC q (.slice a1 q.spots.length k1) (.slice a2 q.conds.length k2) (.slice a3 q.items.length k3) (.slice a4 q.pairs.length k4)).toList 0 W5
       obtain⟨WF,hWF⟩:∃WF,W5.setCells X0 0 (qC q (.slice a1 q.spots.length k1) (.slice a2 q.conds.length k2) (.slice a3 q.items.length k3) (.slice a4 q.pairs.length k4)).toList=WF:=⟨_,rfl⟩
       rw[hWF] at hF hG⊢
       clear hWF
       go_wp2_with fail
       refine bodyPost_ret (v:=.tuple #[.agg (qC q (.slice a1 q.spots.length k1) (.slice a2 q.conds.length k2) (.slice a3 q.items.length k3) (.slice a4 q.pairs.length k4)),.int .i64 0]) (retQuery Tryz.results14 rfl rfl hF rfl) rfl ⟨?_,(.slice a1 q.spots.length k1),(.slice a2 q.conds.length k2),(.slice a3 q.items.length k3),(.slice a4 q.pairs.length k4),?_,?_⟩
       ·exact below_of (b:=X0) HW5.out hG hXW
       ·rw[HOK.out]
       ·rw[HOK.out]
        have hw:W.heap.size≤Wz.heap.size:=by omega
        exact⟨row_weaken (HR5.out.rs.kept hG (Or.inr (row_loc HR5.out.rs HL5.out (by decide)))) hw,row_weaken (HR5.out.rc.kept hG (Or.inr (row_loc HR5.out.rc HL5.out (by decide)))) hw,row_weaken (HR5.out.rt.kept hG (Or.inr (row_loc HR5.out.rt HL5.out (by decide)))) hw,row_weaken (HR5.out.rp.kept hG (Or.inr (row_loc HR5.out.rp HL5.out (by decide)))) hw⟩
     ·skip
      have hbad:s3.bad=false:=hbd
      clear hqq
      rw[hbad] at b2
      have hkt:¬(k:Int)=(ts.length:Int):=by omega
      have hre:s3.rest.isEmpty=false:=by cases hr:s3.rest with|nil=>rw[hr] at hr0;exact absurd rfl hr0|cons a l=>rfl
      have HWHY:Hid (parseText (toks s)=(query0,3)):=by show _=_;rw[hts];unfold parseText parseR;simp only[HQY.out,hre];simp
      clear hbad hr0 hre
      go_upto_region 17 with fail
      refine wp_region_lit ?_
      refine wpList_zeroQuery rfl rfl ?_
      refine wpList_store_mid rfl 29 _ _ rfl X0 0 zq rfl rfl HLc.out.there Tryz.sizeQuery z_one ?_
      have hF:Loc (wc.setCells X0 0 zq.toList) X0 zq 29:=HLc.out.setAll rfl
      have hG:=grown_setMany X0 zq.toList 0 wc
      obtain⟨WF,hWF⟩:∃WF,wc.setCells X0 0 zq.toList=WF:=⟨_,rfl⟩
      rw[hWF] at hF hG⊢
      clear hWF
      go_wp2_with fail
      refine bodyPost_ret (v:=.tuple #[.agg zq,.int .i64 3]) (retQuery Tryz.results14 rfl rfl hF rfl) rfl ⟨?_,.slice none 0 0,.slice none 0 0,.slice none 0 0,.slice none 0 0,?_,?_⟩
      ·exact below_of (b:=X0) HWc.out hG hXW
      ·rw[HWHY.out];rfl
      ·rw[HWHY.out];exact QRows.none _ _
theorem refParse (s:ByteArray) (W:World) (hs:s.size≤maxLen):Calls Tryz.prog 14 #[.string s] W (ParsePost (parseText (toks s)) W):=by
 cases hts:toks s with
 | none=>rw[←hts];exact refParseNone s W hs hts
 | some ts=>rw[←hts];exact refParseSome s W hs hts (q0:=(queryR ⟨ts,false⟩).1) (s0:=(queryR ⟨ts,false⟩).2) rfl
end Go.Proofs.YtobgbmfpicmpcaaGreatDoor

/- The program's parser: conditions. -/
namespace Go.Proofs.YtobgbmfpicmpcaaGreatDoor
open Go.RowKit
set_option maxRecDepth 100000 in
set_option maxHeartbeats 2000000 in
theorem pCondIsTrue {b G:Nat} {st s1:RS} {r:PCond} {W:World} (h:PI b G st W) (hn:condP st=(r,s1)) {a:PTerm} {a1:RS} (ha:termP st=(a,a1)) (hi:peekP kIS a1=true) (hm:peekP kNOT (acceptP kIS a1)=true):
  Calls Tryz.prog 100 #[.pointer (some ⟨b,0,none⟩)] W fun e W'=>e=.returned (.agg #[.int .i64 r.op,.string r.a.name,.string r.a.key,.int .i64 r.a.val,.string r.b.name,.string r.b.key,.int .i64 r.b.val])∧PI b G s1 W'∧W.grownBy W' (some b):=by
 have H0:=Lib.hid (PX.start h #[.int .i64 0,.string ⟨#[]⟩,.string ⟨#[]⟩,.int .i64 0,.string ⟨#[]⟩,.string ⟨#[]⟩,.int .i64 0] 87)
 have HA:=Lib.hid ha
 have e:((⟨8,a,term0⟩:PCond),expectP kNULL (acceptP kNOT (acceptP kIS a1)))=(r,s1):=by rw[←hn];unfold condP;simp only[ha,hi,hm];rfl
 injection e with e1 e3
 subst e1;subst e3
 have HI:=Lib.hid hi
 have HM:=Lib.hid hm
 clear h hn hm ha hi
 go_enter Tryz.func100,Tryz.ntmps100
 go_wp2_with fail
 obtain⟨X,hX⟩:∃X,X=W.heap.size:=⟨_,rfl⟩
 rw[←hX] at H0⊢
 clear hX
 generalize W.alloc (.cells #[.int .i64 0,.string ⟨#[]⟩,.string ⟨#[]⟩,.int .i64 0,.string ⟨#[]⟩,.string ⟨#[]⟩,.int .i64 0] 87)=W0' at H0⊢
 refine(term_ H0.out.p HA.out).mono ?_
 rintro e W1 ⟨rfl,h,g⟩
 have H1:=Lib.hid (H0.out.call h g)
 clear h g H0
 have H2:=Lib.hid (H1.out.more #[.int .i64 0,.string a.name,.string a.key,.int .i64 a.val,.string ⟨#[]⟩,.string ⟨#[]⟩,.int .i64 0] 87)
 clear H1
 go_wp2_with fail
 obtain⟨Y,hY⟩:∃Y,Y=W1.heap.size:=⟨_,rfl⟩;rw[←hY] at H2⊢;clear hY;generalize W1.alloc (.cells #[.int .i64 0,.string a.name,.string a.key,.int .i64 a.val,.string ⟨#[]⟩,.string ⟨#[]⟩,.int .i64 0] 87)=W2 at H2⊢
 refine(accept_ H2.out.q.p kIS true HI.out).mono ?_
 rintro e W3 ⟨rfl,h,g⟩
 have H3:=Lib.hid (H2.out.call h g)
 clear h g H2
 have c0:=H3.out.ly.at_ 0 (.int .i64 0) rfl
 have f0:W3.frozen? ⟨Y,0,none⟩=false:=H3.out.ly.free 0
 have H4:=Lib.hid (H3.out.setY 0 (.int .i64 7))
 clear H3
 go_wp2_with fail
 generalize (W3.setCell ⟨Y,0,none⟩ (.int .i64 7))=W4 at H4⊢;clear c0 f0
 refine(accept_ H4.out.q.p kNOT true HM.out).mono ?_
 rintro e W5 ⟨rfl,h,g⟩
 have H5:=Lib.hid (H4.out.call h g)
 clear h g H4
 have c0:=H5.out.ly.at_ 0 (.int .i64 7) rfl
 have f0:W5.frozen? ⟨Y,0,none⟩=false:=H5.out.ly.free 0
 have H6:=Lib.hid (H5.out.setY 0 (.int .i64 8))
 clear H5
 go_wp2_with fail
 generalize (W5.setCell ⟨Y,0,none⟩ (.int .i64 8))=W6 at H6⊢;clear c0 f0
 refine(expect_ H6.out.q.p kNULL).mono ?_
 rintro e W7 ⟨rfl,h,g⟩
 have H7:=Lib.hid (H6.out.call h g)
 clear h g H6
 have x0:=H7.out.q.lx.at_ 0 (.int .i64 0) rfl
 have g0:W7.frozen? ⟨X,0,none⟩=false:=H7.out.q.lx.free 0
 have x1:=H7.out.q.lx.at_ 1 (.string ⟨#[]⟩) rfl
 have g1:W7.frozen? ⟨X,1,none⟩=false:=H7.out.q.lx.free 1
 have x2:=H7.out.q.lx.at_ 2 (.string ⟨#[]⟩) rfl
 have g2:W7.frozen? ⟨X,2,none⟩=false:=H7.out.q.lx.free 2
 have x3:=H7.out.q.lx.at_ 3 (.int .i64 0) rfl
 have g3:W7.frozen? ⟨X,3,none⟩=false:=H7.out.q.lx.free 3
 have x4:=H7.out.q.lx.at_ 4 (.string ⟨#[]⟩) rfl
 have g4:W7.frozen? ⟨X,4,none⟩=false:=H7.out.q.lx.free 4
 have x5:=H7.out.q.lx.at_ 5 (.string ⟨#[]⟩) rfl
 have g5:W7.frozen? ⟨X,5,none⟩=false:=H7.out.q.lx.free 5
 have x6:=H7.out.q.lx.at_ 6 (.int .i64 0) rfl
 have g6:W7.frozen? ⟨X,6,none⟩=false:=H7.out.q.lx.free 6
 have y0:=H7.out.ly.at_ 0 (.int .i64 8) rfl
 have y1:=H7.out.ly.at_ 1 (.string a.name) rfl
 have y2:=H7.out.ly.at_ 2 (.string a.key) rfl
 have y3:=H7.out.ly.at_ 3 (.int .i64 a.val) rfl
 have y4:=H7.out.ly.at_ 4 (.string ⟨#[]⟩) rfl
 have y5:=H7.out.ly.at_ 5 (.string ⟨#[]⟩) rfl
 have y6:=H7.out.ly.at_ 6 (.int .i64 0) rfl
 go_wp2_with fail
 have hF:=(((((((H7.out.setX 0 (.int .i64 8)).setX 1 (.string a.name)).setX 2 (.string a.key)).setX 3 (.int .i64 a.val)).setX 4 (.string ⟨#[]⟩)).setX 5 (.string ⟨#[]⟩)).setX 6 (.int .i64 0)).q
 generalize (((((((W7.setCell ⟨X,0,none⟩ (.int .i64 8)).setCell ⟨X,1,none⟩ (.string a.name)).setCell ⟨X,2,none⟩ (.string a.key)).setCell ⟨X,3,none⟩ (.int .i64 a.val)).setCell ⟨X,4,none⟩ (.string ⟨#[]⟩)).setCell ⟨X,5,none⟩ (.string ⟨#[]⟩)).setCell ⟨X,6,none⟩ (.int .i64 0))=WF at hF⊢
 refine bodyPost_ret (v:=.agg #[.int .i64 8,.string a.name,.string a.key,.int .i64 a.val,.string ⟨#[]⟩,.string ⟨#[]⟩,.int .i64 0]) ?_ rfl ⟨rfl,hF.p,hF.grown⟩
 have r0:=hF.lx.cell 0
 have r1:=hF.lx.cell 1
 have r2:=hF.lx.cell 2
 have r3:=hF.lx.cell 3
 have r4:=hF.lx.cell 4
 have r5:=hF.lx.cell 5
 have r6:=hF.lx.cell 6
 simp at r0 r1 r2 r3 r4 r5 r6
 simp[results,Tryz.results100,go_sem,r0,r1,r2,r3,r4,r5,r6]
set_option maxRecDepth 100000 in
set_option maxHeartbeats 2000000 in
theorem pCondIsFalse {b G:Nat} {st s1:RS} {r:PCond} {W:World} (h:PI b G st W) (hn:condP st=(r,s1)) {a:PTerm} {a1:RS} (ha:termP st=(a,a1)) (hi:peekP kIS a1=true) (hm:peekP kNOT (acceptP kIS a1)=false):
  Calls Tryz.prog 100 #[.pointer (some ⟨b,0,none⟩)] W fun e W'=>e=.returned (.agg #[.int .i64 r.op,.string r.a.name,.string r.a.key,.int .i64 r.a.val,.string r.b.name,.string r.b.key,.int .i64 r.b.val])∧PI b G s1 W'∧W.grownBy W' (some b):=by
 have H0:=Lib.hid (PX.start h #[.int .i64 0,.string ⟨#[]⟩,.string ⟨#[]⟩,.int .i64 0,.string ⟨#[]⟩,.string ⟨#[]⟩,.int .i64 0] 87)
 have HA:=Lib.hid ha
 have e:((⟨7,a,term0⟩:PCond),expectP kNULL (acceptP kNOT (acceptP kIS a1)))=(r,s1):=by rw[←hn];unfold condP;simp only[ha,hi,hm];rfl
 injection e with e1 e3
 subst e1;subst e3
 have HI:=Lib.hid hi
 have HM:=Lib.hid hm
 clear h hn hm ha hi
 go_enter Tryz.func100,Tryz.ntmps100
 go_wp2_with fail
 obtain⟨X,hX⟩:∃X,X=W.heap.size:=⟨_,rfl⟩
 rw[←hX] at H0⊢
 clear hX
 generalize W.alloc (.cells #[.int .i64 0,.string ⟨#[]⟩,.string ⟨#[]⟩,.int .i64 0,.string ⟨#[]⟩,.string ⟨#[]⟩,.int .i64 0] 87)=W0' at H0⊢
 refine(term_ H0.out.p HA.out).mono ?_
 rintro e W1 ⟨rfl,h,g⟩
 have H1:=Lib.hid (H0.out.call h g)
 clear h g H0
 have H2:=Lib.hid (H1.out.more #[.int .i64 0,.string a.name,.string a.key,.int .i64 a.val,.string ⟨#[]⟩,.string ⟨#[]⟩,.int .i64 0] 87)
 clear H1
 go_wp2_with fail
 obtain⟨Y,hY⟩:∃Y,Y=W1.heap.size:=⟨_,rfl⟩;rw[←hY] at H2⊢;clear hY;generalize W1.alloc (.cells #[.int .i64 0,.string a.name,.string a.key,.int .i64 a.val,.string ⟨#[]⟩,.string ⟨#[]⟩,.int .i64 0] 87)=W2 at H2⊢
 refine(accept_ H2.out.q.p kIS true HI.out).mono ?_
 rintro e W3 ⟨rfl,h,g⟩
 have H3:=Lib.hid (H2.out.call h g)
 clear h g H2
 have c0:=H3.out.ly.at_ 0 (.int .i64 0) rfl
 have f0:W3.frozen? ⟨Y,0,none⟩=false:=H3.out.ly.free 0
 have H4:=Lib.hid (H3.out.setY 0 (.int .i64 7))
 clear H3
 go_wp2_with fail
 generalize (W3.setCell ⟨Y,0,none⟩ (.int .i64 7))=W4 at H4⊢;clear c0 f0
 refine(accept_ H4.out.q.p kNOT false HM.out).mono ?_
 rintro e W5 ⟨rfl,h,g⟩
 have H5:=Lib.hid (H4.out.call h g)
 clear h g H4
 go_wp2_with fail
 refine(expect_ H5.out.q.p kNULL).mono ?_
 rintro e W6 ⟨rfl,h,g⟩
 have H6:=Lib.hid (H5.out.call h g)
 clear h g H5
 have x0:=H6.out.q.lx.at_ 0 (.int .i64 0) rfl
 have g0:W6.frozen? ⟨X,0,none⟩=false:=H6.out.q.lx.free 0
 have x1:=H6.out.q.lx.at_ 1 (.string ⟨#[]⟩) rfl
 have g1:W6.frozen? ⟨X,1,none⟩=false:=H6.out.q.lx.free 1
 have x2:=H6.out.q.lx.at_ 2 (.string ⟨#[]⟩) rfl
 have g2:W6.frozen? ⟨X,2,none⟩=false:=H6.out.q.lx.free 2
 have x3:=H6.out.q.lx.at_ 3 (.int .i64 0) rfl
 have g3:W6.frozen? ⟨X,3,none⟩=false:=H6.out.q.lx.free 3
 have x4:=H6.out.q.lx.at_ 4 (.string ⟨#[]⟩) rfl
 have g4:W6.frozen? ⟨X,4,none⟩=false:=H6.out.q.lx.free 4
 have x5:=H6.out.q.lx.at_ 5 (.string ⟨#[]⟩) rfl
 have g5:W6.frozen? ⟨X,5,none⟩=false:=H6.out.q.lx.free 5
 have x6:=H6.out.q.lx.at_ 6 (.int .i64 0) rfl
 have g6:W6.frozen? ⟨X,6,none⟩=false:=H6.out.q.lx.free 6
 have y0:=H6.out.ly.at_ 0 (.int .i64 7) rfl
 have y1:=H6.out.ly.at_ 1 (.string a.name) rfl
 have y2:=H6.out.ly.at_ 2 (.string a.key) rfl
 have y3:=H6.out.ly.at_ 3 (.int .i64 a.val) rfl
 have y4:=H6.out.ly.at_ 4 (.string ⟨#[]⟩) rfl
 have y5:=H6.out.ly.at_ 5 (.string ⟨#[]⟩) rfl
 have y6:=H6.out.ly.at_ 6 (.int .i64 0) rfl
 go_wp2_with fail
 have hF:=(((((((H6.out.setX 0 (.int .i64 7)).setX 1 (.string a.name)).setX 2 (.string a.key)).setX 3 (.int .i64 a.val)).setX 4 (.string ⟨#[]⟩)).setX 5 (.string ⟨#[]⟩)).setX 6 (.int .i64 0)).q
 generalize (((((((W6.setCell ⟨X,0,none⟩ (.int .i64 7)).setCell ⟨X,1,none⟩ (.string a.name)).setCell ⟨X,2,none⟩ (.string a.key)).setCell ⟨X,3,none⟩ (.int .i64 a.val)).setCell ⟨X,4,none⟩ (.string ⟨#[]⟩)).setCell ⟨X,5,none⟩ (.string ⟨#[]⟩)).setCell ⟨X,6,none⟩ (.int .i64 0))=WF at hF⊢
 refine bodyPost_ret (v:=.agg #[.int .i64 7,.string a.name,.string a.key,.int .i64 a.val,.string ⟨#[]⟩,.string ⟨#[]⟩,.int .i64 0]) ?_ rfl ⟨rfl,hF.p,hF.grown⟩
 have r0:=hF.lx.cell 0
 have r1:=hF.lx.cell 1
 have r2:=hF.lx.cell 2
 have r3:=hF.lx.cell 3
 have r4:=hF.lx.cell 4
 have r5:=hF.lx.cell 5
 have r6:=hF.lx.cell 6
 simp at r0 r1 r2 r3 r4 r5 r6
 simp[results,Tryz.results100,go_sem,r0,r1,r2,r3,r4,r5,r6]
set_option maxRecDepth 100000 in
set_option maxHeartbeats 2000000 in
theorem pCondNo {b G:Nat} {st s1:RS} {r:PCond} {W:World} (h:PI b G st W) (hn:condP st=(r,s1)) {a:PTerm} {a1:RS} (ha:termP st=(a,a1)) (hi:peekP kIS a1=false):
  Calls Tryz.prog 100 #[.pointer (some ⟨b,0,none⟩)] W fun e W'=>e=.returned (.agg #[.int .i64 r.op,.string r.a.name,.string r.a.key,.int .i64 r.a.val,.string r.b.name,.string r.b.key,.int .i64 r.b.val])∧PI b G s1 W'∧W.grownBy W' (some b):=by
 have H0:=Lib.hid (PX.start h #[.int .i64 0,.string ⟨#[]⟩,.string ⟨#[]⟩,.int .i64 0,.string ⟨#[]⟩,.string ⟨#[]⟩,.int .i64 0] 87)
 have HA:=Lib.hid ha
 obtain⟨o',a2,hk⟩:∃k' az,opLoopP opsR 1 a1=(k',az):=⟨_,_,rfl⟩
 obtain⟨t',a3,ht⟩:∃k' az,termP a2=(k',az):=⟨_,_,rfl⟩
 have e:((⟨o',a,t'⟩:PCond),a3)=(r,s1):=by rw[←hn];unfold condP;simp only[ha,hi,hk,ht];rfl
 injection e with e1 e3
 subst e1;subst e3
 have HI:=Lib.hid hi
 have HK:=Lib.hid hk
 have HT:=Lib.hid ht
 clear h hn ha hi hk ht
 go_enter Tryz.func100,Tryz.ntmps100
 go_wp2_with fail
 obtain⟨X,hX⟩:∃X,X=W.heap.size:=⟨_,rfl⟩
 rw[←hX] at H0⊢
 clear hX
 generalize W.alloc (.cells #[.int .i64 0,.string ⟨#[]⟩,.string ⟨#[]⟩,.int .i64 0,.string ⟨#[]⟩,.string ⟨#[]⟩,.int .i64 0] 87)=W0' at H0⊢
 refine(term_ H0.out.p HA.out).mono ?_
 rintro e W1 ⟨rfl,h,g⟩
 have H1:=Lib.hid (H0.out.call h g)
 clear h g H0
 have H2:=Lib.hid (H1.out.more #[.int .i64 0,.string a.name,.string a.key,.int .i64 a.val,.string ⟨#[]⟩,.string ⟨#[]⟩,.int .i64 0] 87)
 clear H1
 go_wp2_with fail
 obtain⟨Y,hY⟩:∃Y,Y=W1.heap.size:=⟨_,rfl⟩;rw[←hY] at H2⊢;clear hY;generalize W1.alloc (.cells #[.int .i64 0,.string a.name,.string a.key,.int .i64 a.val,.string ⟨#[]⟩,.string ⟨#[]⟩,.int .i64 0] 87)=W2 at H2⊢
 refine(accept_ H2.out.q.p kIS false HI.out).mono ?_
 rintro e W3 ⟨rfl,h,g⟩
 have H3:=Lib.hid (H2.out.call h g)
 clear h g H2
 rw[show acceptP kIS a1=a1 by unfold acceptP;rw[HI.out];rfl] at H3
 go_wp2_with fail
 refine(comparison_ H3.out.q.p HK.out).mono ?_
 rintro e W4 ⟨rfl,h,g⟩
 have H4:=Lib.hid (H3.out.call h g)
 clear h g H3
 have c0:=H4.out.ly.at_ 0 (.int .i64 0) rfl
 have f0:W4.frozen? ⟨Y,0,none⟩=false:=H4.out.ly.free 0
 have H5:=Lib.hid (H4.out.setY 0 (.int .i64 o'))
 clear H4
 go_wp2_with fail
 generalize (W4.setCell ⟨Y,0,none⟩ (.int .i64 o'))=W5 at H5⊢;clear c0 f0
 refine(term_ H5.out.q.p HT.out).mono ?_
 rintro e W6 ⟨rfl,h,g⟩
 have H6:=Lib.hid (H5.out.call h g)
 clear h g H5
 have c4:=H6.out.ly.at_ 4 (.string ⟨#[]⟩) rfl
 have f4:W6.frozen? ⟨Y,4,none⟩=false:=H6.out.ly.free 4
 have c5:=H6.out.ly.at_ 5 (.string ⟨#[]⟩) rfl
 have f5:W6.frozen? ⟨Y,5,none⟩=false:=H6.out.ly.free 5
 have c6:=H6.out.ly.at_ 6 (.int .i64 0) rfl
 have f6:W6.frozen? ⟨Y,6,none⟩=false:=H6.out.ly.free 6
 have H7:=Lib.hid (((H6.out.setY 4 (.string t'.name)).setY 5 (.string t'.key)).setY 6 (.int .i64 t'.val))
 clear H6
 go_upto_region 10 with fail
 generalize (((W6.setCell ⟨Y,4,none⟩ (.string t'.name)).setCell ⟨Y,5,none⟩ (.string t'.key)).setCell ⟨Y,6,none⟩ (.int .i64 t'.val))=W7 at H7⊢;clear c4 f4 c5 f5 c6 f6
 have x0:=H7.out.q.lx.at_ 0 (.int .i64 0) rfl
 have g0:W7.frozen? ⟨X,0,none⟩=false:=H7.out.q.lx.free 0
 have x1:=H7.out.q.lx.at_ 1 (.string ⟨#[]⟩) rfl
 have g1:W7.frozen? ⟨X,1,none⟩=false:=H7.out.q.lx.free 1
 have x2:=H7.out.q.lx.at_ 2 (.string ⟨#[]⟩) rfl
 have g2:W7.frozen? ⟨X,2,none⟩=false:=H7.out.q.lx.free 2
 have x3:=H7.out.q.lx.at_ 3 (.int .i64 0) rfl
 have g3:W7.frozen? ⟨X,3,none⟩=false:=H7.out.q.lx.free 3
 have x4:=H7.out.q.lx.at_ 4 (.string ⟨#[]⟩) rfl
 have g4:W7.frozen? ⟨X,4,none⟩=false:=H7.out.q.lx.free 4
 have x5:=H7.out.q.lx.at_ 5 (.string ⟨#[]⟩) rfl
 have g5:W7.frozen? ⟨X,5,none⟩=false:=H7.out.q.lx.free 5
 have x6:=H7.out.q.lx.at_ 6 (.int .i64 0) rfl
 have g6:W7.frozen? ⟨X,6,none⟩=false:=H7.out.q.lx.free 6
 have y0:=H7.out.ly.at_ 0 (.int .i64 o') rfl
 have y1:=H7.out.ly.at_ 1 (.string a.name) rfl
 have y2:=H7.out.ly.at_ 2 (.string a.key) rfl
 have y3:=H7.out.ly.at_ 3 (.int .i64 a.val) rfl
 have y4:=H7.out.ly.at_ 4 (.string t'.name) rfl
 have y5:=H7.out.ly.at_ 5 (.string t'.key) rfl
 have y6:=H7.out.ly.at_ 6 (.int .i64 t'.val) rfl
 go_wp2_with fail
 have hF:=(((((((H7.out.setX 0 (.int .i64 o')).setX 1 (.string a.name)).setX 2 (.string a.key)).setX 3 (.int .i64 a.val)).setX 4 (.string t'.name)).setX 5 (.string t'.key)).setX 6 (.int .i64 t'.val)).q
 generalize (((((((W7.setCell ⟨X,0,none⟩ (.int .i64 o')).setCell ⟨X,1,none⟩ (.string a.name)).setCell ⟨X,2,none⟩ (.string a.key)).setCell ⟨X,3,none⟩ (.int .i64 a.val)).setCell ⟨X,4,none⟩ (.string t'.name)).setCell ⟨X,5,none⟩ (.string t'.key)).setCell ⟨X,6,none⟩ (.int .i64 t'.val))=WF at hF⊢
 refine bodyPost_ret (v:=.agg #[.int .i64 o',.string a.name,.string a.key,.int .i64 a.val,.string t'.name,.string t'.key,.int .i64 t'.val]) ?_ rfl ⟨rfl,hF.p,hF.grown⟩
 have r0:=hF.lx.cell 0
 have r1:=hF.lx.cell 1
 have r2:=hF.lx.cell 2
 have r3:=hF.lx.cell 3
 have r4:=hF.lx.cell 4
 have r5:=hF.lx.cell 5
 have r6:=hF.lx.cell 6
 simp at r0 r1 r2 r3 r4 r5 r6
 simp[results,Tryz.results100,go_sem,r0,r1,r2,r3,r4,r5,r6]
theorem cond_ {b G:Nat} {st s1:RS} {r:PCond} {W:World} (h:PI b G st W) (hn:condP st=(r,s1)):
  Calls Tryz.prog 100 #[.pointer (some ⟨b,0,none⟩)] W fun e W'=>e=.returned (.agg #[.int .i64 r.op,.string r.a.name,.string r.a.key,.int .i64 r.a.val,.string r.b.name,.string r.b.key,.int .i64 r.b.val])∧PI b G s1 W'∧W.grownBy W' (some b):=by
 obtain⟨a,a1,ha⟩:∃k' az,termP st=(k',az):=⟨_,_,rfl⟩
 cases hi:peekP kIS a1 with
 | false=>exact pCondNo h hn ha hi
 | true=>
  cases hm:peekP kNOT (acceptP kIS a1) with
  | true=>exact pCondIsTrue h hn ha hi hm
  | false=>exact pCondIsFalse h hn ha hi hm
end Go.Proofs.YtobgbmfpicmpcaaGreatDoor

/- The program's parser: lists. -/
namespace Go.Proofs.YtobgbmfpicmpcaaGreatDoor
open Go.RowKit
theorem peekP_some {s:ByteArray} {st:RS} (h:peekP s st=true):0<st.rest.length:=by
 unfold peekP at h
 split at h
 ·cases h
 ·rename_i e;rw[e];simp
theorem acceptP_less {s:ByteArray} {st:RS} (h:peekP s st=true):(acceptP s st).rest.length+1=st.rest.length:=by
 have:=peekP_some h
 unfold acceptP;rw[if_pos h];simp;omega
theorem listLoop_more {α:Type} {one:RS→α × RS} {sep:ByteArray} {n:Nat} {out:List α} {st s2:RS} {x:α} (h:peekP sep st=true) (hx:one (acceptP sep st)=(x,s2)):listLoop one sep (n+1) out st=listLoop one sep n (out++[x]) s2:=by
 simp only[listLoop,h,if_true,hx]
theorem listLoop_end {α:Type} {one:RS→α × RS} {sep:ByteArray} {n:Nat} {out:List α} {st:RS} (h:peekP sep st=false):listLoop one sep n out st=(out,st):=by
 cases n with
 | zero=>rfl
 | succ n=>simp only[listLoop,h];rfl
structure PL (W0:World) (b G:Nat) (st:RS) (T:TypeId) (k:Nat) (v:Value) (n:Nat) (xs:List Value) (w:World):Prop where
 p:PI b G st w
 row:w.ownsRow W0.heap.size T k v n xs
 grown:W0.grownBy w (some b)
 gw:G<W0.heap.size
 bw:b<W0.heap.size
theorem PL.call {W0 w w':World} {b G:Nat} {st st':RS} {T:TypeId} {k n:Nat} {v:Value} {xs:List Value} (h:PL W0 b G st T k v n xs w) (h1:PI b G st' w') (g1:w.grownBy w' (some b)):PL W0 b G st' T k v n xs w':=by
 refine⟨h1,h.row.kept g1 (Or.inr ?_),grown_trans h.grown g1,h.gw,h.bw⟩
 intro e
 have:=(h.row.lt b e).1
 have:=h.bw
 omega
theorem PL.quiet {W0 w w':World} {b G:Nat} {st:RS} {T:TypeId} {k n:Nat} {v:Value} {xs:List Value} (h:PL W0 b G st T k v n xs w) (g:w.grownBy w' none):PL W0 b G st T k v n xs w':=h.call (h.p.quiet g) (grown_any g _)
theorem PL.more {W0 w w2:World} {b G:Nat} {st:RS} {T:TypeId} {k n n2:Nat} {v v2:Value} {xs xs2:List Value} (h:PL W0 b G st T k v n xs w) (g:w.grownBy w2 v.ownBlock) (ho:w2.ownsRow W0.heap.size T k v2 n2 xs2):PL W0 b G st T k v2 n2 xs2 w2:=by
 have hs:=h.grown.size
 have hb:=h.bw
 have hg:=h.gw
 refine⟨h.p.kept g ?_ ?_,ho,⟨g.os.trans h.grown.os,g.tape.trans h.grown.tape,g.output.trans h.grown.output,Nat.le_trans hs g.size,fun j hj hne=>(g.block j (by omega) ?_).trans (h.grown.block j hj hne)⟩,h.gw,h.bw⟩
 ·intro e;have:=(h.row.lt b e.symm).1;omega
 ·intro e;have:=(h.row.lt G e.symm).1;omega
 ·intro e;have:=(h.row.lt j e.symm).1;omega
set_option maxRecDepth 100000 in
set_option maxHeartbeats 4000000 in
theorem listPair {b G:Nat} {st s1:RS} {sep:ByteArray} {l:List PPair} {W:World} (h:PI b G st W) (hl:st.rest.length≤2000) (hn:listP pairP sep 6 st=(l,s1)):
  Calls Tryz.prog 157 #[.pointer (some ⟨b,0,none⟩),.string sep,.int .i64 6,.func (.func 158) #[.pointer (some ⟨b,0,none⟩)] #[]] W fun e W'=>∃v,e=.returned v∧W'.ownsRow W.heap.size 91 2 v l.length (pairCells l)∧PI b G s1 W'∧W.grownBy W' (some b):=by
 obtain⟨i1,hj,hy0,hy1,hy2⟩:=info_parts Tryz.infoPair
 obtain⟨x0,a1,ha⟩:∃x0 az,pairP st=(x0,az):=⟨_,_,rfl⟩
 obtain⟨L,a2,hL⟩:∃L az,listLoop pairP sep a1.rest.length [x0] a1=(L,az):=⟨_,_,rfl⟩
 have e:(L,if 6<L.length then failP else a2)=(l,s1):=by rw[←hn];unfold listP;simp only[ha,hL]
 injection e with e1 e2
 subst e1
 have hl1:=Pure.pairP_len st
 rw[ha] at hl1
 have HA:=Lib.hid ha
 have HL:=Lib.hid hL
 have HE:=Lib.hid e2
 have HH:=Lib.hid h
 have hgw:=h.far.2
 have hbw:b<W.heap.size:=by obtain⟨_,_,hb,_⟩:=h.box;exact hb.lt
 clear h hn ha hL e2
 go_enter Tryz.func157,Tryz.ntmps157
 go_wp2_with fail
 refine(pair_ HH.out HA.out).mono ?_
 rintro e W1 ⟨rfl,h1,g1⟩
 have hsz:=g1.size
 have H1:Hid (PL W b G a1 91 2 (.slice (some ⟨W1.heap.size,0,none⟩) 1 1) 1 (pairCells [x0]) (W1.alloc (.cells #[.string x0.key,.int .i64 x0.val] 91))):=
  ⟨h1.quiet (grown_alloc W1 _ none),World.ownsRow_lit (size:=2) W1 #[.string x0.key,.int .i64 x0.val] 1 hsz (by unfold maxLen;omega) rfl,grown_trans g1 (grown_alloc W1 _ _),hgw,hbw⟩
 clear h1 g1 HH
 go_upto_block 0 with fail
 obtain⟨V,hV⟩:∃V,V=Value.slice (some ⟨W1.heap.size,0,none⟩) 1 1:=⟨_,rfl⟩
 rw[←hV] at H1⊢
 clear hV
 generalize W1.alloc (.cells #[.string x0.key,.int .i64 x0.val] 91)=W2 at H1⊢
 clear hsz
 go_cut [9] (fun v w=>PL W b G a2 91 2 v L.length (pairCells L) w∧L.length+a2.rest.length≤2001)
 case first=>
  go_wp2_with fail
  go_loopg [9] (a1.rest.length+1) (fun m v w=>∃out s' n,PL W b G s' 91 2 v out.length (pairCells out) w∧listLoop pairP sep n out s'=(L,a2)∧s'.rest.length≤n∧s'.rest.length+1≤m∧out.length+s'.rest.length≤2001)
  case atStart=>exact⟨[x0],a1,a1.rest.length,H1.out,HL.out,Nat.le_refl _,by omega,by simp;omega⟩
  case round=>
   obtain⟨out,s',n,hq,hlp,hsn,hsm,hos⟩:=hrel
   have HQ:=Lib.hid hq
   have HLP:=Lib.hid hlp
   clear hq hlp H1 HL
   cases hm:peekP sep s' with
   | false=>
    have HM:=Lib.hid hm
    clear hm
    go_wp2_with fail
    refine(accept_ HQ.out.p sep false HM.out).mono ?_
    rintro e W3 ⟨rfl,h3,g3⟩
    rw[show acceptP sep s'=s' by unfold acceptP;rw[HM.out];rfl] at h3
    have H3:=Lib.hid (HQ.out.call h3 g3)
    clear h3 g3 HQ
    go_wp2_with fail
    go_meet
    case rel=>
     have e:=HLP.out
     rw[listLoop_end HM.out] at e
     injection e with e1 e2
     subst e1;subst e2
     exact⟨H3.out,hos⟩
   | true=>
    have HM:=Lib.hid hm
    have hless:=acceptP_less hm
    obtain⟨x,s2,hx⟩:∃x az,pairP (acceptP sep s')=(x,az):=⟨_,_,rfl⟩
    have hxl:=Pure.pairP_len (acceptP sep s')
    rw[hx] at hxl
    have HX:=Lib.hid hx
    obtain⟨n2,hn2⟩:∃n2,n=n2+1:=⟨n - 1,by omega⟩
    subst hn2
    clear hm hx
    go_wp2_with fail
    refine(accept_ HQ.out.p sep true HM.out).mono ?_
    rintro e W3 ⟨rfl,h3,g3⟩
    have H3:=Lib.hid (HQ.out.call h3 g3)
    clear h3 g3 HQ
    go_wp2_with fail
    refine(pair_ H3.out.p HX.out).mono ?_
    rintro e W4 ⟨rfl,h4,g4⟩
    have H4:=Lib.hid (H3.out.call h4 g4)
    clear h4 g4 H3
    have HD:=Lib.hid (H4.out.quiet (grown_alloc W4 (.cells #[.string x.key,.int .i64 x.val] 91) none))
    obtain⟨pa,pc,hshape⟩:∃ao cap,u9=.slice ao out.length cap:=by
     obtain⟨ao,cap,e,_⟩:=row_slice (l:=out) HD.out.row
     exact⟨ao,cap,e⟩
    subst hshape
    clear H4
    go_wp2_with (at_builtin;go_must (refine wpList_append_lies _ rfl _ _ 27 rfl W.heap.size 91 i1 (.agg #[.string ⟨#[]⟩,.int .i64 0]) 2 24 Tryz.underlying27 hj hy0 hy1 hy2 rfl (by decide) (.slice pa out.length pc) _ _ rfl HD.out.row _ 1 1 [.string x.key,.int .i64 x.val] rfl rfl (World.news_of_block (heap_alloc_new W4 _)) pair_one (by omega) (by unfold maxLen;omega) (by omega) HD.out.grown.size _ rfl ?_;intro g2 cap2 w5 hown hgrow _ _;have H5:=Lib.hid (HD.out.more hgrow hown);clear hown hgrow))
    go_roundg (gk - 1)
    case measure=>omega
    case rel=>
     refine⟨out++[x],s2,n2,?_,?_,by omega,by omega,by rw[List.length_append];simp;omega⟩
     ·rw[pairCells_snoc,List.length_append];exact H5.out
     ·rw[←HLP.out,listLoop_more HM.out HX.out]
 case rest=>
  obtain⟨hq,hos⟩:=hcut
  have HQ:=Lib.hid hq
  obtain⟨pa,pc,hshape⟩:∃ao cap,u9=.slice ao L.length cap:=by
   obtain⟨ao,cap,e,_⟩:=row_slice (l:=L) hq.row
   exact⟨ao,cap,e⟩
  subst hshape
  clear hq H1
  by_cases h6:6<L.length
  ·have HS:Hid (s1=failP):=by show _=_;rw[←HE.out,if_pos h6]
   have h6i:(6:Int)<(L.length:Int):=by omega
   go_wp2_with fail
   refine(fail_ HQ.out.p).mono ?_
   rintro e W3 ⟨rfl,h3,g3⟩
   have H3:=Lib.hid (HQ.out.call h3 g3)
   clear h3 g3
   go_wp2_with fail
   refine bodyPost_ret (v:=.slice pa L.length pc) ?_ rfl ⟨_,rfl,H3.out.row,by rw[HS.out];exact H3.out.p,H3.out.grown⟩
   simp[results,Tryz.results157,go_sem]
  ·have HS:Hid (s1=a2):=by show _=_;rw[←HE.out,if_neg h6]
   have h6i:¬(6:Int)<(L.length:Int):=by omega
   go_wp2_with fail
   refine bodyPost_ret (v:=.slice pa L.length pc) ?_ rfl ⟨_,rfl,HQ.out.row,by rw[HS.out];exact HQ.out.p,HQ.out.grown⟩
   simp[results,Tryz.results157,go_sem]
set_option maxRecDepth 100000 in
set_option maxHeartbeats 4000000 in
theorem listItem {b G:Nat} {st s1:RS} {sep:ByteArray} {l:List PItem} {W:World} (h:PI b G st W) (hl:st.rest.length≤2000) (hn:listP itemP sep 6 st=(l,s1)):
  Calls Tryz.prog 220 #[.pointer (some ⟨b,0,none⟩),.string sep,.int .i64 6,.func (.func 221) #[.pointer (some ⟨b,0,none⟩)] #[]] W fun e W'=>∃v,e=.returned v∧W'.ownsRow W.heap.size 89 2 v l.length (itemCells l)∧PI b G s1 W'∧W.grownBy W' (some b):=by
 obtain⟨i1,hj,hy0,hy1,hy2⟩:=info_parts Tryz.infoItem
 obtain⟨x0,a1,ha⟩:∃x0 az,itemP st=(x0,az):=⟨_,_,rfl⟩
 obtain⟨L,a2,hL⟩:∃L az,listLoop itemP sep a1.rest.length [x0] a1=(L,az):=⟨_,_,rfl⟩
 have e:(L,if 6<L.length then failP else a2)=(l,s1):=by rw[←hn];unfold listP;simp only[ha,hL]
 injection e with e1 e2
 subst e1
 have hl1:=Pure.itemP_len st
 rw[ha] at hl1
 have HA:=Lib.hid ha
 have HL:=Lib.hid hL
 have HE:=Lib.hid e2
 have HH:=Lib.hid h
 have hgw:=h.far.2
 have hbw:b<W.heap.size:=by obtain⟨_,_,hb,_⟩:=h.box;exact hb.lt
 clear h hn ha hL e2
 go_enter Tryz.func220,Tryz.ntmps220
 go_wp2_with fail
 refine(item_ HH.out HA.out).mono ?_
 rintro e W1 ⟨rfl,h1,g1⟩
 have hsz:=g1.size
 have H1:Hid (PL W b G a1 89 2 (.slice (some ⟨W1.heap.size,0,none⟩) 1 1) 1 (itemCells [x0]) (W1.alloc (.cells #[.string x0.name,.string x0.key] 89))):=
  ⟨h1.quiet (grown_alloc W1 _ none),World.ownsRow_lit (size:=2) W1 #[.string x0.name,.string x0.key] 1 hsz (by unfold maxLen;omega) rfl,grown_trans g1 (grown_alloc W1 _ _),hgw,hbw⟩
 clear h1 g1 HH
 go_upto_block 0 with fail
 obtain⟨V,hV⟩:∃V,V=Value.slice (some ⟨W1.heap.size,0,none⟩) 1 1:=⟨_,rfl⟩
 rw[←hV] at H1⊢
 clear hV
 generalize W1.alloc (.cells #[.string x0.name,.string x0.key] 89)=W2 at H1⊢
 clear hsz
 go_cut [9] (fun v w=>PL W b G a2 89 2 v L.length (itemCells L) w∧L.length+a2.rest.length≤2001)
 case first=>
  go_wp2_with fail
  go_loopg [9] (a1.rest.length+1) (fun m v w=>∃out s' n,PL W b G s' 89 2 v out.length (itemCells out) w∧listLoop itemP sep n out s'=(L,a2)∧s'.rest.length≤n∧s'.rest.length+1≤m∧out.length+s'.rest.length≤2001)
  case atStart=>exact⟨[x0],a1,a1.rest.length,H1.out,HL.out,Nat.le_refl _,by omega,by simp;omega⟩
  case round=>
   obtain⟨out,s',n,hq,hlp,hsn,hsm,hos⟩:=hrel
   have HQ:=Lib.hid hq
   have HLP:=Lib.hid hlp
   clear hq hlp H1 HL
   cases hm:peekP sep s' with
   | false=>
    have HM:=Lib.hid hm
    clear hm
    go_wp2_with fail
    refine(accept_ HQ.out.p sep false HM.out).mono ?_
    rintro e W3 ⟨rfl,h3,g3⟩
    rw[show acceptP sep s'=s' by unfold acceptP;rw[HM.out];rfl] at h3
    have H3:=Lib.hid (HQ.out.call h3 g3)
    clear h3 g3 HQ
    go_wp2_with fail
    go_meet
    case rel=>
     have e:=HLP.out
     rw[listLoop_end HM.out] at e
     injection e with e1 e2
     subst e1;subst e2
     exact⟨H3.out,hos⟩
   | true=>
    have HM:=Lib.hid hm
    have hless:=acceptP_less hm
    obtain⟨x,s2,hx⟩:∃x az,itemP (acceptP sep s')=(x,az):=⟨_,_,rfl⟩
    have hxl:=Pure.itemP_len (acceptP sep s')
    rw[hx] at hxl
    have HX:=Lib.hid hx
    obtain⟨n2,hn2⟩:∃n2,n=n2+1:=⟨n - 1,by omega⟩
    subst hn2
    clear hm hx
    go_wp2_with fail
    refine(accept_ HQ.out.p sep true HM.out).mono ?_
    rintro e W3 ⟨rfl,h3,g3⟩
    have H3:=Lib.hid (HQ.out.call h3 g3)
    clear h3 g3 HQ
    go_wp2_with fail
    refine(item_ H3.out.p HX.out).mono ?_
    rintro e W4 ⟨rfl,h4,g4⟩
    have H4:=Lib.hid (H3.out.call h4 g4)
    clear h4 g4 H3
    have HD:=Lib.hid (H4.out.quiet (grown_alloc W4 (.cells #[.string x.name,.string x.key] 89) none))
    obtain⟨pa,pc,hshape⟩:∃ao cap,u9=.slice ao out.length cap:=by
     obtain⟨ao,cap,e,_⟩:=row_slice (l:=out) HD.out.row
     exact⟨ao,cap,e⟩
    subst hshape
    clear H4
    go_wp2_with (at_builtin;go_must (refine wpList_append_lies _ rfl _ _ 24 rfl W.heap.size 89 i1 (.agg #[.string ⟨#[]⟩,.string ⟨#[]⟩]) 2 32 Tryz.underlying24 hj hy0 hy1 hy2 rfl (by decide) (.slice pa out.length pc) _ _ rfl HD.out.row _ 1 1 [.string x.name,.string x.key] rfl rfl (World.news_of_block (heap_alloc_new W4 _)) two_one (by omega) (by unfold maxLen;omega) (by omega) HD.out.grown.size _ rfl ?_;intro g2 cap2 w5 hown hgrow _ _;have H5:=Lib.hid (HD.out.more hgrow hown);clear hown hgrow))
    go_roundg (gk - 1)
    case measure=>omega
    case rel=>
     refine⟨out++[x],s2,n2,?_,?_,by omega,by omega,by rw[List.length_append];simp;omega⟩
     ·rw[itemCells_snoc,List.length_append];exact H5.out
     ·rw[←HLP.out,listLoop_more HM.out HX.out]
 case rest=>
  obtain⟨hq,hos⟩:=hcut
  have HQ:=Lib.hid hq
  obtain⟨pa,pc,hshape⟩:∃ao cap,u9=.slice ao L.length cap:=by
   obtain⟨ao,cap,e,_⟩:=row_slice (l:=L) hq.row
   exact⟨ao,cap,e⟩
  subst hshape
  clear hq H1
  by_cases h6:6<L.length
  ·have HS:Hid (s1=failP):=by show _=_;rw[←HE.out,if_pos h6]
   have h6i:(6:Int)<(L.length:Int):=by omega
   go_wp2_with fail
   refine(fail_ HQ.out.p).mono ?_
   rintro e W3 ⟨rfl,h3,g3⟩
   have H3:=Lib.hid (HQ.out.call h3 g3)
   clear h3 g3
   go_wp2_with fail
   refine bodyPost_ret (v:=.slice pa L.length pc) ?_ rfl ⟨_,rfl,H3.out.row,by rw[HS.out];exact H3.out.p,H3.out.grown⟩
   simp[results,Tryz.results220,go_sem]
  ·have HS:Hid (s1=a2):=by show _=_;rw[←HE.out,if_neg h6]
   have h6i:¬(6:Int)<(L.length:Int):=by omega
   go_wp2_with fail
   refine bodyPost_ret (v:=.slice pa L.length pc) ?_ rfl ⟨_,rfl,HQ.out.row,by rw[HS.out];exact HQ.out.p,HQ.out.grown⟩
   simp[results,Tryz.results220,go_sem]
set_option maxRecDepth 100000 in
set_option maxHeartbeats 4000000 in
theorem listCond {b G:Nat} {st s1:RS} {sep:ByteArray} {l:List PCond} {W:World} (h:PI b G st W) (hl:st.rest.length≤2000) (hn:listP condP sep 6 st=(l,s1)):
  Calls Tryz.prog 99 #[.pointer (some ⟨b,0,none⟩),.string sep,.int .i64 6,.func (.func 100) #[.pointer (some ⟨b,0,none⟩)] #[]] W fun e W'=>∃v,e=.returned v∧W'.ownsRow W.heap.size 87 7 v l.length (condCells l)∧PI b G s1 W'∧W.grownBy W' (some b):=by
 obtain⟨i1,hj,hy0,hy1,hy2⟩:=info_parts Tryz.infoCond
 obtain⟨x0,a1,ha⟩:∃x0 az,condP st=(x0,az):=⟨_,_,rfl⟩
 obtain⟨L,a2,hL⟩:∃L az,listLoop condP sep a1.rest.length [x0] a1=(L,az):=⟨_,_,rfl⟩
 have e:(L,if 6<L.length then failP else a2)=(l,s1):=by rw[←hn];unfold listP;simp only[ha,hL]
 injection e with e1 e2
 subst e1
 have hl1:=Pure.condP_len st
 rw[ha] at hl1
 have HA:=Lib.hid ha
 have HL:=Lib.hid hL
 have HE:=Lib.hid e2
 have HH:=Lib.hid h
 have hgw:=h.far.2
 have hbw:b<W.heap.size:=by obtain⟨_,_,hb,_⟩:=h.box;exact hb.lt
 clear h hn ha hL e2
 go_enter Tryz.func99,Tryz.ntmps99
 go_wp2_with fail
 refine(cond_ HH.out HA.out).mono ?_
 rintro e W1 ⟨rfl,h1,g1⟩
 have hsz:=g1.size
 have H1:Hid (PL W b G a1 87 7 (.slice (some ⟨W1.heap.size,0,none⟩) 1 1) 1 (condCells [x0]) (W1.alloc (.cells #[.int .i64 x0.op,.string x0.a.name,.string x0.a.key,.int .i64 x0.a.val,.string x0.b.name,.string x0.b.key,.int .i64 x0.b.val] 87))):=
  ⟨h1.quiet (grown_alloc W1 _ none),World.ownsRow_lit (size:=7) W1 #[.int .i64 x0.op,.string x0.a.name,.string x0.a.key,.int .i64 x0.a.val,.string x0.b.name,.string x0.b.key,.int .i64 x0.b.val] 1 hsz (by unfold maxLen;omega) rfl,grown_trans g1 (grown_alloc W1 _ _),hgw,hbw⟩
 clear h1 g1 HH
 go_upto_block 0 with fail
 obtain⟨V,hV⟩:∃V,V=Value.slice (some ⟨W1.heap.size,0,none⟩) 1 1:=⟨_,rfl⟩
 rw[←hV] at H1⊢
 clear hV
 generalize W1.alloc (.cells #[.int .i64 x0.op,.string x0.a.name,.string x0.a.key,.int .i64 x0.a.val,.string x0.b.name,.string x0.b.key,.int .i64 x0.b.val] 87)=W2 at H1⊢
 clear hsz
 go_cut [9] (fun v w=>PL W b G a2 87 7 v L.length (condCells L) w∧L.length+a2.rest.length≤2001)
 case first=>
  go_wp2_with fail
  go_loopg [9] (a1.rest.length+1) (fun m v w=>∃out s' n,PL W b G s' 87 7 v out.length (condCells out) w∧listLoop condP sep n out s'=(L,a2)∧s'.rest.length≤n∧s'.rest.length+1≤m∧out.length+s'.rest.length≤2001)
  case atStart=>exact⟨[x0],a1,a1.rest.length,H1.out,HL.out,Nat.le_refl _,by omega,by simp;omega⟩
  case round=>
   obtain⟨out,s',n,hq,hlp,hsn,hsm,hos⟩:=hrel
   have HQ:=Lib.hid hq
   have HLP:=Lib.hid hlp
   clear hq hlp H1 HL
   cases hm:peekP sep s' with
   | false=>
    have HM:=Lib.hid hm
    clear hm
    go_wp2_with fail
    refine(accept_ HQ.out.p sep false HM.out).mono ?_
    rintro e W3 ⟨rfl,h3,g3⟩
    rw[show acceptP sep s'=s' by unfold acceptP;rw[HM.out];rfl] at h3
    have H3:=Lib.hid (HQ.out.call h3 g3)
    clear h3 g3 HQ
    go_wp2_with fail
    go_meet
    case rel=>
     have e:=HLP.out
     rw[listLoop_end HM.out] at e
     injection e with e1 e2
     subst e1;subst e2
     exact⟨H3.out,hos⟩
   | true=>
    have HM:=Lib.hid hm
    have hless:=acceptP_less hm
    obtain⟨x,s2,hx⟩:∃x az,condP (acceptP sep s')=(x,az):=⟨_,_,rfl⟩
    have hxl:=Pure.condP_len (acceptP sep s')
    rw[hx] at hxl
    have HX:=Lib.hid hx
    obtain⟨n2,hn2⟩:∃n2,n=n2+1:=⟨n - 1,by omega⟩
    subst hn2
    clear hm hx
    go_wp2_with fail
    refine(accept_ HQ.out.p sep true HM.out).mono ?_
    rintro e W3 ⟨rfl,h3,g3⟩
    have H3:=Lib.hid (HQ.out.call h3 g3)
    clear h3 g3 HQ
    go_wp2_with fail
    refine(cond_ H3.out.p HX.out).mono ?_
    rintro e W4 ⟨rfl,h4,g4⟩
    have H4:=Lib.hid (H3.out.call h4 g4)
    clear h4 g4 H3
    have HD:=Lib.hid (H4.out.quiet (grown_alloc W4 (.cells #[.int .i64 x.op,.string x.a.name,.string x.a.key,.int .i64 x.a.val,.string x.b.name,.string x.b.key,.int .i64 x.b.val] 87) none))
    obtain⟨pa,pc,hshape⟩:∃ao cap,u9=.slice ao out.length cap:=by
     obtain⟨ao,cap,e,_⟩:=row_slice (l:=out) HD.out.row
     exact⟨ao,cap,e⟩
    subst hshape
    clear H4
    go_wp2_with (at_builtin;go_must (refine wpList_append_lies _ rfl _ _ 23 rfl W.heap.size 87 i1 (.agg #[.int .i64 0,.string ⟨#[]⟩,.string ⟨#[]⟩,.int .i64 0,.string ⟨#[]⟩,.string ⟨#[]⟩,.int .i64 0]) 7 88 Tryz.underlying23 hj hy0 hy1 hy2 rfl (by decide) (.slice pa out.length pc) _ _ rfl HD.out.row _ 1 1 [.int .i64 x.op,.string x.a.name,.string x.a.key,.int .i64 x.a.val,.string x.b.name,.string x.b.key,.int .i64 x.b.val] rfl rfl (World.news_of_block (heap_alloc_new W4 _)) seven_one (by omega) (by unfold maxLen;omega) (by omega) HD.out.grown.size _ rfl ?_;intro g2 cap2 w5 hown hgrow _ _;have H5:=Lib.hid (HD.out.more hgrow hown);clear hown hgrow))
    go_roundg (gk - 1)
    case measure=>omega
    case rel=>
     refine⟨out++[x],s2,n2,?_,?_,by omega,by omega,by rw[List.length_append];simp;omega⟩
     ·rw[condCells_snoc,List.length_append];exact H5.out
     ·rw[←HLP.out,listLoop_more HM.out HX.out]
 case rest=>
  obtain⟨hq,hos⟩:=hcut
  have HQ:=Lib.hid hq
  obtain⟨pa,pc,hshape⟩:∃ao cap,u9=.slice ao L.length cap:=by
   obtain⟨ao,cap,e,_⟩:=row_slice (l:=L) hq.row
   exact⟨ao,cap,e⟩
  subst hshape
  clear hq H1
  by_cases h6:6<L.length
  ·have HS:Hid (s1=failP):=by show _=_;rw[←HE.out,if_pos h6]
   have h6i:(6:Int)<(L.length:Int):=by omega
   go_wp2_with fail
   refine(fail_ HQ.out.p).mono ?_
   rintro e W3 ⟨rfl,h3,g3⟩
   have H3:=Lib.hid (HQ.out.call h3 g3)
   clear h3 g3
   go_wp2_with fail
   refine bodyPost_ret (v:=.slice pa L.length pc) ?_ rfl ⟨_,rfl,H3.out.row,by rw[HS.out];exact H3.out.p,H3.out.grown⟩
   simp[results,Tryz.results99,go_sem]
  ·have HS:Hid (s1=a2):=by show _=_;rw[←HE.out,if_neg h6]
   have h6i:¬(6:Int)<(L.length:Int):=by omega
   go_wp2_with fail
   refine bodyPost_ret (v:=.slice pa L.length pc) ?_ rfl ⟨_,rfl,HQ.out.row,by rw[HS.out];exact HQ.out.p,HQ.out.grown⟩
   simp[results,Tryz.results99,go_sem]
end Go.Proofs.YtobgbmfpicmpcaaGreatDoor

/- The program's parser: the spots of a match. -/
namespace Go.Proofs.YtobgbmfpicmpcaaGreatDoor
open Go.RowKit
theorem stepP_len (st:RS):(stepP st).2.rest.length≤st.rest.length:=by
 unfold stepP starP
 have h1:=Pure.titleP_len st
 simp only
 split
 ·have h2:=Pure.acceptP_len mStar (titleP st).2
  have h3:=Pure.numberP_len 0 4 (acceptP mStar (titleP st).2)
  have h4:=Pure.expectP_len mDots (numberP 0 4 (acceptP mStar (titleP st).2)).2
  have h5:=Pure.numberP_len (numberP 0 4 (acceptP mStar (titleP st).2)).1 4 (expectP mDots (numberP 0 4 (acceptP mStar (titleP st).2)).2)
  have h6:=Pure.expectP_len mArrow (numberP (numberP 0 4 (acceptP mStar (titleP st).2)).1 4 (expectP mDots (numberP 0 4 (acceptP mStar (titleP st).2)).2)).2
  simp only;omega
 ·have h6:=Pure.expectP_len mArrow (titleP st).2
  simp only;omega
theorem spotsLoop_comma {n:Nat} {out:List PSpot} {st s2:RS} {x:PSpot} (h:peekP mComma st=true) (hx:spotP spot0 (acceptP mComma st)=(x,s2)):spotsLoop (n+1) out st=spotsLoop n (out++[x]) s2:=by
 simp only[spotsLoop,h,if_true,hx]
theorem spotsLoop_to {n:Nat} {out:List PSpot} {st s2 s3:RS} {x y:PSpot} (h:peekP mComma st=false) (h2:peekP mTo st=true) (hy:stepP (acceptP mTo st)=(y,s3)) (hx:spotP y s3=(x,s2)):spotsLoop (n+1) out st=spotsLoop n (out++[x]) s2:=by
 simp only[spotsLoop,h,h2,if_true,Bool.false_eq_true,if_false,hopP,hy,hx]
theorem spotsLoop_end {n:Nat} {out:List PSpot} {st:RS} (h:peekP mComma st=false) (h2:peekP mTo st=false):spotsLoop n out st=(out,st):=by
 cases n with
 | zero=>rfl
 | succ n=>simp only[spotsLoop,h,h2];rfl
set_option maxRecDepth 100000 in
set_option maxHeartbeats 4000000 in
theorem spots_ {b G:Nat} {st s1:RS} {l:List PSpot} {W:World} (h:PI b G st W) (hl:st.rest.length≤2000) (hn:spotsP st=(l,s1)):
  Calls Tryz.prog 98 #[.pointer (some ⟨b,0,none⟩)] W fun e W'=>∃v,e=.returned v∧W'.ownsRow W.heap.size 85 5 v l.length (spotCells l)∧PI b G s1 W'∧W.grownBy W' (some b):=by
 obtain⟨i1,hj,hy0,hy1,hy2⟩:=info_parts Tryz.infoSpot
 obtain⟨x0,a1,ha⟩:∃x0 az,spotP spot0 st=(x0,az):=⟨_,_,rfl⟩
 obtain⟨L,a2,hL⟩:∃L az,spotsLoop a1.rest.length [x0] a1=(L,az):=⟨_,_,rfl⟩
 have e:(L,if 6<L.length then failP else a2)=(l,s1):=by rw[←hn];unfold spotsP;simp only[ha,hL]
 injection e with e1 e2
 subst e1
 have hl1:=Pure.spotP_len spot0 st
 rw[ha] at hl1
 have HA:=Lib.hid ha
 have HL:=Lib.hid hL
 have HE:=Lib.hid e2
 have HH:=Lib.hid h
 have hgw:=h.far.2
 have hbw:b<W.heap.size:=by obtain⟨_,_,hb,_⟩:=h.box;exact hb.lt
 clear h hn ha hL e2
 go_enter Tryz.func98,Tryz.ntmps98
 go_wp2_with fail
 refine(spot_ (q:=spot0) HH.out HA.out).mono ?_
 rintro e W1 ⟨rfl,h1,g1⟩
 have hsz:=g1.size
 have H1:Hid (PL W b G a1 85 5 (.slice (some ⟨W1.heap.size,0,none⟩) 1 1) 1 (spotCells [x0]) (W1.alloc (.cells #[.string x0.name,.string x0.label,.string x0.type,.int .i64 x0.least,.int .i64 x0.most] 85))):=
  ⟨h1.quiet (grown_alloc W1 _ none),World.ownsRow_lit (size:=5) W1 #[.string x0.name,.string x0.label,.string x0.type,.int .i64 x0.least,.int .i64 x0.most] 1 hsz (by unfold maxLen;omega) rfl,grown_trans g1 (grown_alloc W1 _ _),hgw,hbw⟩
 clear h1 g1 HH
 go_upto_block 0 with fail
 obtain⟨V,hV⟩:∃V,V=Value.slice (some ⟨W1.heap.size,0,none⟩) 1 1:=⟨_,rfl⟩
 rw[←hV] at H1⊢
 clear hV
 generalize W1.alloc (.cells #[.string x0.name,.string x0.label,.string x0.type,.int .i64 x0.least,.int .i64 x0.most] 85)=W2 at H1⊢
 clear hsz
 go_wp2_with fail
 go_loopg [3] (a1.rest.length+1) (fun m v w=>∃out s' n,PL W b G s' 85 5 v out.length (spotCells out) w∧spotsLoop n out s'=(L,a2)∧s'.rest.length≤n∧s'.rest.length+1≤m∧out.length+s'.rest.length≤2001)
 case atStart=>exact⟨[x0],a1,a1.rest.length,H1.out,HL.out,Nat.le_refl _,by omega,by simp;omega⟩
 case round=>
  obtain⟨out,s',n,hq,hlp,hsn,hsm,hos⟩:=hrel
  have HQ:=Lib.hid hq
  have HLP:=Lib.hid hlp
  clear hq hlp H1 HL
  cases hm:peekP mComma s' with
  | true=>
   have HM:=Lib.hid hm
   have hless:=acceptP_less hm
   obtain⟨x,s2,hx⟩:∃x az,spotP spot0 (acceptP mComma s')=(x,az):=⟨_,_,rfl⟩
   have hxl:=Pure.spotP_len spot0 (acceptP mComma s')
   rw[hx] at hxl
   have HX:=Lib.hid hx
   obtain⟨n2,hn2⟩:∃n2,n=n2+1:=⟨n - 1,by omega⟩
   subst hn2
   clear hm hx
   go_wp2_with fail
   refine(accept_ HQ.out.p mComma true HM.out).mono ?_
   rintro e W3 ⟨rfl,h3,g3⟩
   have H3:=Lib.hid (HQ.out.call h3 g3)
   clear h3 g3 HQ
   go_wp2_with fail
   refine(spot_ (q:=spot0) H3.out.p HX.out).mono ?_
   rintro e W5 ⟨rfl,h5,g5⟩
   have H5:=Lib.hid (H3.out.call h5 g5)
   clear h5 g5 H3
   have HD:=Lib.hid (H5.out.quiet (grown_alloc W5 (.cells #[.string x.name,.string x.label,.string x.type,.int .i64 x.least,.int .i64 x.most] 85) none))
   obtain⟨pa,pc,hshape⟩:∃ao cap,u3=.slice ao out.length cap:=by
    obtain⟨ao,cap,e,_⟩:=row_slice (l:=out) HD.out.row
    exact⟨ao,cap,e⟩
   subst hshape
   clear H5
   go_wp2_with (at_builtin;go_must (refine wpList_append_lies _ rfl _ _ 22 rfl W.heap.size 85 i1 (.agg #[.string ⟨#[]⟩,.string ⟨#[]⟩,.string ⟨#[]⟩,.int .i64 0,.int .i64 0]) 5 64 Tryz.underlying22 hj hy0 hy1 hy2 rfl (by decide) (.slice pa out.length pc) _ _ rfl HD.out.row _ 1 1 [.string x.name,.string x.label,.string x.type,.int .i64 x.least,.int .i64 x.most] rfl rfl (World.news_of_block (heap_alloc_new W5 _)) five_one (by omega) (by unfold maxLen;omega) (by omega) HD.out.grown.size _ rfl ?_;intro g2 cap2 w5 hown hgrow _ _;have H6:=Lib.hid (HD.out.more hgrow hown);clear hown hgrow))
   go_roundg (gk - 1)
   case measure=>omega
   case rel=>
    refine⟨out++[x],s2,n2,?_,?_,by omega,by omega,by rw[List.length_append];simp;omega⟩
    ·rw[spotCells_append,List.length_append];exact H6.out
    ·rw[←HLP.out];rw[spotsLoop_comma HM.out HX.out]
  | false=>
   have HM:=Lib.hid hm
   clear hm
   cases hto:peekP mTo s' with
   | true=>
    have HTO:=Lib.hid hto
    have hless:=acceptP_less hto
    obtain⟨y,s3,hy⟩:∃x az,stepP (acceptP mTo s')=(x,az):=⟨_,_,rfl⟩
    have hyl:=stepP_len (acceptP mTo s')
    rw[hy] at hyl
    obtain⟨x,s2,hx⟩:∃x az,spotP y s3=(x,az):=⟨_,_,rfl⟩
    have hxl:=Pure.spotP_len y s3
    rw[hx] at hxl
    have HX:=Lib.hid hx
    have HY:=Lib.hid hy
    obtain⟨n2,hn2⟩:∃n2,n=n2+1:=⟨n - 1,by omega⟩
    subst hn2
    clear hto hx hy
    go_wp2_with fail
    refine(accept_ HQ.out.p mComma false HM.out).mono ?_
    rintro e W3 ⟨rfl,h3,g3⟩
    rw[show acceptP mComma s'=s' by unfold acceptP;rw[HM.out];rfl] at h3
    have H3:=Lib.hid (HQ.out.call h3 g3)
    clear h3 g3 HQ
    go_wp2_with fail
    refine(accept_ H3.out.p mTo true HTO.out).mono ?_
    rintro e W4 ⟨rfl,h4,g4⟩
    have H4:=Lib.hid (H3.out.call h4 g4)
    clear h4 g4 H3
    go_wp2_with fail
    refine(step_ H4.out.p HY.out).mono ?_
    rintro e W6 ⟨rfl,h6,g6⟩
    have H6:=Lib.hid (H4.out.call h6 g6)
    clear h6 g6 H4
    go_wp2_with fail
    refine(spot_ (q:=y) H6.out.p HX.out).mono ?_
    rintro e W5 ⟨rfl,h5,g5⟩
    have H5:=Lib.hid (H6.out.call h5 g5)
    clear h5 g5 H6
    have HD:=Lib.hid (H5.out.quiet (grown_alloc W5 (.cells #[.string x.name,.string x.label,.string x.type,.int .i64 x.least,.int .i64 x.most] 85) none))
    obtain⟨pa,pc,hshape⟩:∃ao cap,u3=.slice ao out.length cap:=by
     obtain⟨ao,cap,e,_⟩:=row_slice (l:=out) HD.out.row
     exact⟨ao,cap,e⟩
    subst hshape
    clear H5
    go_wp2_with (at_builtin;go_must (refine wpList_append_lies _ rfl _ _ 22 rfl W.heap.size 85 i1 (.agg #[.string ⟨#[]⟩,.string ⟨#[]⟩,.string ⟨#[]⟩,.int .i64 0,.int .i64 0]) 5 64 Tryz.underlying22 hj hy0 hy1 hy2 rfl (by decide) (.slice pa out.length pc) _ _ rfl HD.out.row _ 1 1 [.string x.name,.string x.label,.string x.type,.int .i64 x.least,.int .i64 x.most] rfl rfl (World.news_of_block (heap_alloc_new W5 _)) five_one (by omega) (by unfold maxLen;omega) (by omega) HD.out.grown.size _ rfl ?_;intro g2 cap2 w5 hown hgrow _ _;have H6:=Lib.hid (HD.out.more hgrow hown);clear hown hgrow))
    go_roundg (gk - 1)
    case measure=>omega
    case rel=>
     refine⟨out++[x],s2,n2,?_,?_,by omega,by omega,by rw[List.length_append];simp;omega⟩
     ·rw[spotCells_append,List.length_append];exact H6.out
     ·rw[←HLP.out];rw[spotsLoop_to HM.out HTO.out HY.out HX.out]
   | false=>
    have HTO:=Lib.hid hto
    clear hto
    have hend:=HLP.out
    rw[spotsLoop_end HM.out HTO.out] at hend
    injection hend with e1 e2
    subst e1;subst e2
    obtain⟨pa,pc,hshape⟩:∃ao cap,u3=.slice ao out.length cap:=by
     obtain⟨ao,cap,e,_⟩:=row_slice (l:=out) HQ.out.row
     exact⟨ao,cap,e⟩
    subst hshape
    by_cases h6:6<out.length
    ·have HS:Hid (s1=failP):=by show _=_;rw[←HE.out,if_pos h6]
     have h6i:(6:Int)<(out.length:Int):=by omega
     go_wp2_with fail
     refine(accept_ HQ.out.p mComma false HM.out).mono ?_
     rintro e W3 ⟨rfl,h3,g3⟩
     rw[show acceptP mComma s'=s' by unfold acceptP;rw[HM.out];rfl] at h3
     have H3:=Lib.hid (HQ.out.call h3 g3)
     clear h3 g3 HQ
     go_wp2_with fail
     refine(accept_ H3.out.p mTo false HTO.out).mono ?_
     rintro e W4 ⟨rfl,h4,g4⟩
     have H4:=Lib.hid (H3.out.call h4 g4)
     clear h4 g4 H3
     go_wp2_with fail
     refine(fail_ H4.out.p).mono ?_
     rintro e W5 ⟨rfl,h5,g5⟩
     have H5:=Lib.hid (H4.out.call h5 g5)
     clear h5 g5 H4
     go_wp2_with fail
     refine bodyPost_ret (v:=.slice pa out.length pc) ?_ rfl ⟨_,rfl,H5.out.row,by rw[HS.out];exact H5.out.p,H5.out.grown⟩
     simp[results,Tryz.results98,go_sem]
    ·have HS:Hid (s1=s'):=by show _=_;rw[←HE.out,if_neg h6]
     have h6i:¬(6:Int)<(out.length:Int):=by omega
     go_wp2_with fail
     refine(accept_ HQ.out.p mComma false HM.out).mono ?_
     rintro e W3 ⟨rfl,h3,g3⟩
     rw[show acceptP mComma s'=s' by unfold acceptP;rw[HM.out];rfl] at h3
     have H3:=Lib.hid (HQ.out.call h3 g3)
     clear h3 g3 HQ
     go_wp2_with fail
     refine(accept_ H3.out.p mTo false HTO.out).mono ?_
     rintro e W4 ⟨rfl,h4,g4⟩
     rw[show acceptP mTo s'=s' by unfold acceptP;rw[HTO.out];rfl] at h4
     have H4:=Lib.hid (H3.out.call h4 g4)
     clear h4 g4 H3
     go_wp2_with fail
     refine bodyPost_ret (v:=.slice pa out.length pc) ?_ rfl ⟨_,rfl,H4.out.row,by rw[HS.out];exact H4.out.p,H4.out.grown⟩
     simp[results,Tryz.results98,go_sem]
end Go.Proofs.YtobgbmfpicmpcaaGreatDoor

