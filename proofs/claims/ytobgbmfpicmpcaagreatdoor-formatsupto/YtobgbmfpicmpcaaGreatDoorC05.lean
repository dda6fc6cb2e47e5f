/- The reference's reader: a match. -/
import Derived.Test.YtobgbmfpicmpcaaGreatDoorC04
import Derived.Deep.DeepMust
import Derived.Deep.CutBlock
import Derived.Deep.DeepCutAuto
import Derived.Deep.RegionLaw
import Derived.Shelf.LaysM
import Derived.Shelf.Strings.OnBuilder
import Derived.Shelf.Strconv.Itoa3
import Derived.Test.YtobgbmfpicmpcaaGreatDoorProg
import Derived.Test.YtobgbmfpicmpcaaGreatDoorC03
namespace Go.Proofs.YtobgbmfpicmpcaaGreatDoor
open Go.RowKit
abbrev zq:Array Value:=#[.int .i64 0,.slice none 0 0,.slice none 0 0,.slice none 0 0,.int .i64 0,.bool false,.int .i64 0,.int .i64 0,.string ⟨#[]⟩,.string ⟨#[]⟩,.string ⟨#[]⟩,.string ⟨#[]⟩,.int .i64 0,.string ⟨#[]⟩,.string ⟨#[]⟩,.string ⟨#[]⟩,.slice none 0 0]
def qC (q:PQuery) (vs vc vi vp:Value):Array Value:=#[.int .i64 q.kind,vs,vc,vi,.int .i64 q.order,.bool q.down,.int .i64 q.skip,.int .i64 q.limit,.string q.name,.string q.key,.string q.value.name,.string q.value.key,.int .i64 q.value.val,.string q.type,.string q.to,.string q.label,vp]
set_option maxRecDepth 100000 in
set_option maxHeartbeats 4000000 in
theorem match_ {b x:Nat} {lv:Value} {ts:List Tok} {st:RS} {W0 W:World} (h:QAt W0 b lv ts st x (qC query0 (.slice none 0 0) (.slice none 0 0) (.slice none 0 0) (.slice none 0 0)) ⟨(.slice none 0 0),[],(.slice none 0 0),[],(.slice none 0 0),[],(.slice none 0 0),[]⟩ W):
  Calls Tryz.prog 41 #[.pointer (some ⟨b,0,none⟩),.pointer (some ⟨x,0,none⟩)] W fun e W'=>e=.returned (.tuple #[])∧∃vs vc,QAt W0 b lv ts (matchR st).2 x (qC query0 vs vc (.slice none 0 0) (.slice none 0 0)) ⟨vs,(matchR st).1.1,vc,(matchR st).1.2,.slice none 0 0,[],.slice none 0 0,[]⟩ W':=by
 obtain⟨i0,hi,hz0,hz1,hz2⟩:=info_parts Tryz.infoSpot
 obtain⟨i1,hj,hy0,hy1,hy2⟩:=info_parts Tryz.infoCond
 have HI:=Lib.hid h
 have hlen:=h.ri.len
 have hrl:st.rest.length≤ts.length:=by obtain⟨_,_,_,_,_,_,_,e,_⟩:=h.ri.seen;exact e
 have hrm:=mustR_len kMATCH st
 clear h
 go_enter Tryz.func41,Tryz.ntmps41
 go_wp2_with fail
 refine(must HI.out.ri kMATCH).mono ?_
 rintro e W1 ⟨rfl,h1,g1⟩
 have H1:=Lib.hid (HI.out.call h1 g1)
 clear h1 g1 HI
 go_upto_block 0 with fail
 go_cut [4,5] (fun _ _ w=>∃vs out s',QAt W0 b lv ts s' x (qC query0 vs (.slice none 0 0) (.slice none 0 0) (.slice none 0 0)) ⟨vs,out,(.slice none 0 0),[],(.slice none 0 0),[],(.slice none 0 0),[]⟩ w∧matchLoop (st.rest.length+1) [] (mustR kMATCH st)=(out,s')∧out.length+s'.rest.length≤2002)
 case first=>
  go_wp2_with fail
  go_loopg [4] (st.rest.length+1) (fun n more w=>∃vs out s' m,more=.bool m∧QAt W0 b lv ts s' x (qC query0 vs (.slice none 0 0) (.slice none 0 0) (.slice none 0 0)) ⟨vs,out,(.slice none 0 0),[],(.slice none 0 0),[],(.slice none 0 0),[]⟩ w∧(m=true→matchLoop (st.rest.length+1) [] (mustR kMATCH st)=matchLoop n out s'∧s'.rest.length+1≤n∧out.length+s'.rest.length≤2001)∧(m=false→matchLoop (st.rest.length+1) [] (mustR kMATCH st)=(out,s')∧out.length+s'.rest.length≤2002))
  case atStart=>exact⟨_,[],_,true,rfl,H1.out,fun _=>⟨rfl,by omega,by simp;omega⟩,fun h=>by cases h⟩
  case round=>
   obtain⟨vs,out,s',m,rfl,hq,hT,hF⟩:=hrel
   have HQ:=Lib.hid hq
   have q2:=hq.ri.box.at_ 2 (.bool s'.bad) rfl
   clear hq H1
   cases m with
   | false=>
    obtain⟨e1,e2⟩:=hF rfl
    have E1:=Lib.hid e1
    clear e1 hT hF
    go_wp2_with fail
    go_meet
    case rel=>exact⟨vs,out,s',HQ.out,E1.out,e2⟩
   | true=>
    obtain⟨e1,e2,e3⟩:=hT rfl
    have E1:=Lib.hid e1
    clear e1 hT hF
    cases hb:s'.bad with
    | true=>
     have HB:=Lib.hid hb
     rw[hb] at q2
     clear hb
     go_wp2_with fail
     go_meet
     case rel=>exact⟨vs,out,s',HQ.out,by rw[E1.out];exact matchLoop_bad HB.out,by omega⟩
    | false=>
     have HB:=Lib.hid hb
     rw[hb] at q2
     clear hb
     obtain⟨n,hn⟩:∃n,gk=n+1:=⟨gk - 1,by omega⟩
     subst hn
     obtain⟨l,s2,hp⟩:∃l s2,pathR s'=(l,s2):=⟨_,_,rfl⟩
     have HP:=Lib.hid hp
     have hpc:=pathR_count s'
     rw[hp] at hpc
     obtain⟨hpc,hl0⟩:=hpc
     clear hp
     go_wp2_with fail
     have hpath:=path HQ.out.ri
     rw[HP.out] at hpath
     refine hpath.mono ?_
     clear hpath
     rintro e W3 ⟨v,rfl,hv,h3,g3⟩
     have H3a:=HQ.out.call h3 g3
     obtain⟨gp,cp,rfl,hnews⟩:=row_seen hv hl0
     have HN:=Lib.hid hnews
     have c1:=H3a.lq.at_ 1 vs rfl
     have hs3:=H3a.grown.size
     have H3:=Lib.hid H3a
     clear h3 g3 H3a hnews hv q2
     go_upto_region 3 with (at_builtin;go_must (refine wpList_append_lies _ rfl _ _ 22 rfl W0.heap.size 85 i0 (.agg #[.string ⟨#[]⟩,.string ⟨#[]⟩,.string ⟨#[]⟩,.int .i64 0,.int .i64 0]) 5 64 Tryz.underlying22 hi hz0 hz1 hz2 rfl (by decide) vs _ _ rfl H3.out.rs _ l.length cp (spotCells l) rfl (spotCells_length l) HN.out (spotCells_one l) hl0 (by unfold maxLen;simp only;omega) (by simp only;omega) hs3 _ rfl ?_;intro g2 cap2 w4 hown hgrow _ _;have H4a:=H3.out.spots (l:=l) hgrow (by rw[spotCells_append,List.length_append];exact hown);have c4:w4.cell? ⟨x,1,none⟩=some vs:=(H4a.lq.cell 1).trans rfl;have f4:=H4a.lq.free 1;have H4:=Lib.hid (H4a.set 1 (.slice (some ⟨g2,0,none⟩) (out.length+l.length) cap2));clear H4a hown hgrow c1))
     generalize w4.setCell ⟨x,1,none⟩ (.slice (some ⟨g2,0,none⟩) (out.length+l.length) cap2)=W5 at H4⊢
     clear c4 f4
     have q5:=H4.out.ri.box.at_ 2 (.bool s2.bad) rfl
     have H5:Hid (QAt W0 b lv ts s2 x (qC query0 (.slice (some ⟨g2,0,none⟩) (out.length+l.length) cap2) (.slice none 0 0) (.slice none 0 0) (.slice none 0 0)) ⟨.slice (some ⟨g2,0,none⟩) (out.length+l.length) cap2,out++l,.slice none 0 0,[],.slice none 0 0,[],.slice none 0 0,[]⟩ W5):=H4.out
     clear H4 H3 HN HQ
     have hol:(out++l).length=out.length+l.length:=List.length_append
     cases hb2:s2.bad with
     | true=>
      have HB2:=Lib.hid hb2
      rw[hb2] at q5
      clear hb2
      go_wp2_with fail
      go_roundg n
      case measure=>omega
      case rel=>exact⟨_,out++l,s2,false,rfl,H5.out,fun h=>(by cases h),fun _=>⟨by rw[E1.out];exact matchLoop_last HB.out HP.out (Or.inl HB2.out),by omega⟩⟩
     | false=>
      have HB2:=Lib.hid hb2
      rw[hb2] at q5
      clear hb2
      cases hc:peekR mComma s2 with
      | false=>
       have HC:=Lib.hid hc
       clear hc
       go_wp2_with fail
       refine(has H5.out.ri mComma false HC.out).mono ?_
       rintro e W6 ⟨rfl,h6,g6⟩
       rw[hasR_not HC.out] at h6
       have H6:=Lib.hid (H5.out.call h6 g6)
       clear h6 g6 q5
       go_wp2_with fail
       go_roundg n
       case measure=>omega
       case rel=>exact⟨_,out++l,s2,false,rfl,H6.out,fun h=>(by cases h),fun _=>⟨by rw[E1.out];exact matchLoop_last HB.out HP.out (Or.inr HC.out),by omega⟩⟩
      | true=>
       have HC:=Lib.hid hc
       have hless:=hasR_less hc
       clear hc
       go_wp2_with fail
       refine(has H5.out.ri mComma true HC.out).mono ?_
       rintro e W6 ⟨rfl,h6,g6⟩
       have H6:=Lib.hid (H5.out.call h6 g6)
       clear h6 g6 q5
       go_wp2_with fail
       go_roundg n
       case measure=>omega
       case rel=>exact⟨_,out++l,hasR mComma s2,true,rfl,H6.out,fun _=>⟨by rw[E1.out];exact matchLoop_more HB.out HP.out HB2.out HC.out,by omega,by omega⟩,fun h=>(by cases h)⟩
 case rest=>
  obtain⟨vs,out,s1,hq,hms,hos⟩:=hcut
  have HQ:=Lib.hid hq
  have HMS:=Lib.hid hms
  have hms1:s1.rest.length≤st.rest.length:=by
   have:=matchLoop_len (st.rest.length+1) [] (mustR kMATCH st)
   rw[hms] at this
   exact Nat.le_trans this hrm
  have q2:=hq.ri.box.at_ 2 (.bool s1.bad) rfl
  clear hq hms H1
  go_upto_region 6 with fail
  go_cut [6] (fun v w=>∃m s2,v=.bool m∧QAt W0 b lv ts s2 x (qC query0 vs (.slice none 0 0) (.slice none 0 0) (.slice none 0 0)) ⟨vs,out,(.slice none 0 0),[],(.slice none 0 0),[],(.slice none 0 0),[]⟩ w∧s2.rest.length≤s1.rest.length∧((m=true∧s1.bad=false∧peekR kWHERE s1=true∧s2=hasR kWHERE s1)∨(m=false∧s2=s1∧(s1.bad=true∨peekR kWHERE s1=false))))
  case first=>
   cases hb:s1.bad with
   | true=>
    have HB:=Lib.hid hb
    rw[hb] at q2
    clear hb
    go_wp2_with fail
    go_meet
    case rel=>exact⟨false,s1,rfl,HQ.out,Nat.le_refl _,Or.inr ⟨rfl,rfl,Or.inl HB.out⟩⟩
   | false=>
    have HB:=Lib.hid hb
    rw[hb] at q2
    clear hb
    cases hw:peekR kWHERE s1 with
    | false=>
     have HW:=Lib.hid hw
     clear hw
     go_wp2_with fail
     refine(has HQ.out.ri kWHERE false HW.out).mono ?_
     rintro e W6 ⟨rfl,h6,g6⟩
     rw[hasR_not HW.out] at h6
     have H6:=Lib.hid (HQ.out.call h6 g6)
     clear h6 g6 q2
     go_wp2_with fail
     go_meet
     case rel=>exact⟨false,s1,rfl,H6.out,Nat.le_refl _,Or.inr ⟨rfl,rfl,Or.inr HW.out⟩⟩
    | true=>
     have HW:=Lib.hid hw
     clear hw
     go_wp2_with fail
     refine(has HQ.out.ri kWHERE true HW.out).mono ?_
     rintro e W6 ⟨rfl,h6,g6⟩
     have H6:=Lib.hid (HQ.out.call h6 g6)
     clear h6 g6 q2
     go_wp2_with fail
     go_meet
     case rel=>exact⟨true,hasR kWHERE s1,rfl,H6.out,hasR_len _ _,Or.inl ⟨rfl,HB.out,HW.out,rfl⟩⟩
  case rest=>
   clear HQ q2
   obtain⟨m,s2,rfl,hq2,hl2,hcase⟩:=hcut
   have H2:=Lib.hid hq2
   clear hq2
   obtain⟨cl,hcl⟩:∃cl,(if m then condLoop (st.rest.length+1) [] s2 else ([],s2))=cl:=⟨_,rfl⟩
   have HMR:Hid (matchR st=((out,cl.1),cl.2.orBad (decide (6<out.length) || decide (6<cl.1.length)))):=by
    show _=_
    unfold matchR
    simp only[HMS.out]
    rcases hcase with ⟨rfl,e1,e2,rfl⟩|⟨rfl,rfl,e1|e1⟩
    ·rw[←hcl];simp[e1,e2]
    ·rw[←hcl];simp[e1]
    ·rw[←hcl];simp[e1]
   have HCL:=Lib.hid hcl
   clear hcl hcase HMS
   go_upto_block 2 with fail
   go_cut [7,8] (fun _ _ w=>∃vc cd s',QAt W0 b lv ts s' x (qC query0 vs vc (.slice none 0 0) (.slice none 0 0)) ⟨vs,out,vc,cd,(.slice none 0 0),[],(.slice none 0 0),[]⟩ w∧cl=(cd,s')∧cd.length+s'.rest.length≤2002)
   case first=>
    go_wp2_with fail
    go_loopg [7] (st.rest.length+1) (fun n more w=>∃vc cd s' m,more=.bool m∧QAt W0 b lv ts s' x (qC query0 vs vc (.slice none 0 0) (.slice none 0 0)) ⟨vs,out,vc,cd,(.slice none 0 0),[],(.slice none 0 0),[]⟩ w∧(m=true→cl=condLoop n cd s'∧s'.rest.length+1≤n∧cd.length+s'.rest.length≤2001)∧(m=false→cl=(cd,s')∧cd.length+s'.rest.length≤2002))
    case atStart=>exact⟨_,[],s2,m,rfl,H2.out,fun h=>⟨by rw[←HCL.out,h];rfl,by omega,by simp;omega⟩,fun h=>⟨by rw[←HCL.out,h];rfl,by simp;omega⟩⟩
    case round=>
     obtain⟨vc,cd,s',m',rfl,hq,hT,hF⟩:=hrel
     have HQ:=Lib.hid hq
     clear hq H2
     cases m' with
     | false=>
      obtain⟨e1,e2⟩:=hF rfl
      have E1:=Lib.hid e1
      clear e1 hT hF
      go_wp2_with fail
      go_meet
      case rel=>exact⟨vc,cd,s',HQ.out,E1.out,e2⟩
     | true=>
      obtain⟨e1,e2,e3⟩:=hT rfl
      have E1:=Lib.hid e1
      clear e1 hT hF
      obtain⟨n,hn⟩:∃n,gk=n+1:=⟨gk - 1,by omega⟩
      subst hn
      obtain⟨c,s3,hc⟩:∃c s3,condR s'=(c,s3):=⟨_,_,rfl⟩
      have HC:=Lib.hid hc
      clear hc
      go_wp2_with fail
      refine(condIs HQ.out.ri HC.out).mono ?_
      rintro e W3 ⟨rfl,h3,g3⟩
      have H3:=Lib.hid (HQ.out.call h3 g3)
      clear h3 g3
      have H4:Hid (QAt W0 b lv ts s3 x (qC query0 vs vc (.slice none 0 0) (.slice none 0 0)) ⟨vs,out,vc,cd,(.slice none 0 0),[],(.slice none 0 0),[]⟩ (W3.alloc (.cells #[.int .i64 c.op,.string c.a.name,.string c.a.key,.int .i64 c.a.val,.string c.b.name,.string c.b.key,.int .i64 c.b.val] 87))):=H3.out.alloc _
      have L4:=Lib.hid (Loc.new W3 #[.int .i64 c.op,.string c.a.name,.string c.a.key,.int .i64 c.a.val,.string c.b.name,.string c.b.key,.int .i64 c.b.val] 87)
      go_upto_region 11 with fail
      obtain⟨Y,hY⟩:∃Y,Y=W3.heap.size:=⟨_,rfl⟩
      rw[←hY] at L4⊢
      clear hY H3
      generalize W3.alloc (.cells #[.int .i64 c.op,.string c.a.name,.string c.a.key,.int .i64 c.a.val,.string c.b.name,.string c.b.key,.int .i64 c.b.val] 87)=W4 at H4 L4⊢
      have y0:=L4.out.at_ 0 (.int .i64 c.op) rfl
      have y1:=L4.out.at_ 1 (.string c.a.name) rfl
      have y2:=L4.out.at_ 2 (.string c.a.key) rfl
      have y3:=L4.out.at_ 3 (.int .i64 c.a.val) rfl
      have y4:=L4.out.at_ 4 (.string c.b.name) rfl
      have y5:=L4.out.at_ 5 (.string c.b.key) rfl
      have y6:=L4.out.at_ 6 (.int .i64 c.b.val) rfl
      have x2:=H4.out.lq.at_ 2 vc rfl
      have fx2:W4.frozen? ⟨x,2,none⟩=false:=H4.out.lq.free 2
      have hs4:=H4.out.grown.size
      clear L4
      have HD:Hid (QAt W0 b lv ts s3 x (qC query0 vs vc (.slice none 0 0) (.slice none 0 0)) ⟨vs,out,vc,cd,(.slice none 0 0),[],(.slice none 0 0),[]⟩ (W4.alloc (.cells #[.int .i64 c.op,.string c.a.name,.string c.a.key,.int .i64 c.a.val,.string c.b.name,.string c.b.key,.int .i64 c.b.val] 87)).drew):=(H4.out.alloc _).drew 1
      have xa2:(W4.alloc (.cells #[.int .i64 c.op,.string c.a.name,.string c.a.key,.int .i64 c.a.val,.string c.b.name,.string c.b.key,.int .i64 c.b.val] 87)).cell? ⟨x,2,none⟩=some vc:=(HD.out.lq.cell 2).trans rfl
      have hcl3:=condR_len s'
      rw[HC.out] at hcl3
      go_region_law (refine step_append_lies _ rfl (.tmp 65) (.tmp 67) 23 rfl W0.heap.size 87 i1 (.agg #[.int .i64 0,.string ⟨#[]⟩,.string ⟨#[]⟩,.int .i64 0,.string ⟨#[]⟩,.string ⟨#[]⟩,.int .i64 0]) 7 88 Tryz.underlying23 hj hy0 hy1 hy2 rfl (by decide) vc _ _ (by simp[Act.eval]) HD.out.rc ⟨W4.heap.size,0,none⟩ 1 1 [.int .i64 c.op,.string c.a.name,.string c.a.key,.int .i64 c.a.val,.string c.b.name,.string c.b.key,.int .i64 c.b.val] (by simp[Act.eval]) rfl (World.news_of_block (heap_alloc_new W4 _)) seven_one (by omega) (by unfold maxLen;simp only;omega) (by simp only;omega) HD.out.grown.size _ rfl ?_;intro g2 cap2 w5 hown hgrow _ _;have H5a:=HD.out.conds (l:=[c]) hgrow (by rw[condCells_snoc,List.length_append];exact hown);have c5:w5.cell? ⟨x,2,none⟩=some vc:=(H5a.lq.cell 2).trans rfl;have f5:w5.frozen? ⟨x,2,none⟩=false:=H5a.lq.free 2;have H5:=Lib.hid (H5a.set 2 (.slice (some ⟨g2,0,none⟩) (cd.length+1) cap2));clear H5a hown hgrow)
      all_goals
       generalize w5.setCell ⟨x,2,none⟩ (.slice (some ⟨g2,0,none⟩) (cd.length+1) cap2)=W6 at H5⊢
       have q6:=H5.out.ri.box.at_ 2 (.bool s3.bad) rfl
       have H6:Hid (QAt W0 b lv ts s3 x (qC query0 vs (.slice (some ⟨g2,0,none⟩) (cd.length+1) cap2) (.slice none 0 0) (.slice none 0 0)) ⟨vs,out,(.slice (some ⟨g2,0,none⟩) (cd.length+1) cap2),(cd++[c]),(.slice none 0 0),[],(.slice none 0 0),[]⟩ W6):=H5.out
       clear H5 HD H4 HQ c5 f5 xa2 y0 y1 y2 y3 y4 y5 y6 x2 fx2
       have hol:(cd++[c]).length=cd.length+1:=by simp
       cases hb2:s3.bad with
       | true=>
        have HB2:=Lib.hid hb2
        rw[hb2] at q6
        clear hb2
        go_wp2_with fail
        go_roundg n
        case measure=>omega
        case rel=>exact⟨_,cd++[c],s3,false,rfl,H6.out,fun h=>(by cases h),fun _=>⟨by rw[E1.out];exact condLoop_last HC.out (Or.inl HB2.out),by omega⟩⟩
       | false=>
        have HB2:=Lib.hid hb2
        rw[hb2] at q6
        clear hb2
        cases ha:peekR kAND s3 with
        | false=>
         have HAN:=Lib.hid ha
         clear ha
         go_wp2_with fail
         refine(has H6.out.ri kAND false HAN.out).mono ?_
         rintro e W7 ⟨rfl,h7,g7⟩
         rw[hasR_not HAN.out] at h7
         have H7:=Lib.hid (H6.out.call h7 g7)
         clear h7 g7 q6
         go_wp2_with fail
         go_roundg n
         case measure=>omega
         case rel=>exact⟨_,cd++[c],s3,false,rfl,H7.out,fun h=>(by cases h),fun _=>⟨by rw[E1.out];exact condLoop_last HC.out (Or.inr HAN.out),by omega⟩⟩
        | true=>
         have HAN:=Lib.hid ha
         have hless:=hasR_less ha
         clear ha
         go_wp2_with fail
         refine(has H6.out.ri kAND true HAN.out).mono ?_
         rintro e W7 ⟨rfl,h7,g7⟩
         have H7:=Lib.hid (H6.out.call h7 g7)
         clear h7 g7 q6
         go_wp2_with fail
         go_roundg n
         case measure=>omega
         case rel=>exact⟨_,cd++[c],hasR kAND s3,true,rfl,H7.out,fun _=>⟨by rw[E1.out];exact condLoop_more HC.out HB2.out HAN.out,by omega,by omega⟩,fun h=>(by cases h)⟩
   case rest=>
    obtain⟨vc,cd,s3,hq9,hcd,hcb⟩:=hcut
    have H9:=Lib.hid hq9
    have HCD:=Lib.hid hcd
    clear H2 HCL
    obtain⟨ao,ca,rfl⟩:∃ao ca,vs=.slice ao out.length ca:=by
     rcases hq9.rs.2 with ⟨e,e0⟩|⟨g,cap,cur,e,_⟩
     ·exact⟨none,0,(show vs=.slice none 0 0 from e).trans (by rw[show out.length=0 from e0])⟩
     ·exact⟨_,_,e⟩
    obtain⟨ao2,ca2,rfl⟩:∃ao ca,vc=.slice ao cd.length ca:=by
     rcases hq9.rc.2 with ⟨e,e0⟩|⟨g,cap,cur,e,_⟩
     ·exact⟨none,0,(show vc=.slice none 0 0 from e).trans (by rw[show cd.length=0 from e0])⟩
     ·exact⟨_,_,e⟩
    have r2:=hq9.ri.box.at_ 2 (.bool s3.bad) rfl
    have fr2:wc.frozen? ⟨b,2,none⟩=false:=hq9.ri.box.free 2
    have z1:=hq9.lq.at_ 1 (.slice ao out.length ca) rfl
    have z2:=hq9.lq.at_ 2 (.slice ao2 cd.length ca2) rfl
    clear hq9 hcd
    cases hb:s3.bad with
    | true=>
     rw[hb] at r2
     have HBB:Hid (matchR st=((out,cd),⟨s3.rest,true⟩)):=by show _=_;rw[HMR.out,HCD.out];unfold RS.orBad;simp only[hb];rfl
     clear hb
     go_wp2_with fail
     go_end0
     refine⟨rfl,.slice ao out.length ca,.slice ao2 cd.length ca2,?_⟩
     rw[HBB.out]
     exact H9.out.setBad true
    | false=>
     rw[hb] at r2
     by_cases h6:6<out.length
     ·have HBB:Hid (matchR st=((out,cd),⟨s3.rest,true⟩)):=by show _=_;rw[HMR.out,HCD.out];unfold RS.orBad;simp only[hb];simp[h6]
      clear hb
      have h6i:(6:Int)<out.length:=by omega
      go_wp2_with fail
      go_end0
      refine⟨rfl,.slice ao out.length ca,.slice ao2 cd.length ca2,?_⟩
      rw[HBB.out]
      exact H9.out.setBad true
     ·by_cases h7:6<cd.length
      ·have HBB:Hid (matchR st=((out,cd),⟨s3.rest,true⟩)):=by show _=_;rw[HMR.out,HCD.out];unfold RS.orBad;simp only[hb];simp[h7]
       clear hb
       have h6i:¬(6:Int)<out.length:=by omega
       have h7i:(6:Int)<cd.length:=by omega
       go_wp2_with fail
       go_end0
       refine⟨rfl,.slice ao out.length ca,.slice ao2 cd.length ca2,?_⟩
       rw[HBB.out]
       exact H9.out.setBad true
      ·have HBB:Hid (matchR st=((out,cd),⟨s3.rest,false⟩)):=by show _=_;rw[HMR.out,HCD.out];unfold RS.orBad;simp only[hb];simp[h6,h7]
       clear hb
       have h6i:¬(6:Int)<out.length:=by omega
       have h7i:¬(6:Int)<cd.length:=by omega
       go_wp2_with fail
       go_end0
       refine⟨rfl,.slice ao out.length ca,.slice ao2 cd.length ca2,?_⟩
       rw[HBB.out]
       exact H9.out.setBad false
end Go.Proofs.YtobgbmfpicmpcaaGreatDoor

/- The reader and the query beside one block more: a local that is filled and then appended. No walk in this text. -/
namespace Go.Proofs.YtobgbmfpicmpcaaGreatDoor
open Go.RowKit
structure QY (W0:World) (b:Nat) (lv:Value) (ts:List Tok) (st:RS) (x:Nat) (cs:Array Value) (R:QRow) (y:Nat) (cy:Array Value) (T:TypeId) (W:World):Prop where
 q:QAt W0 b lv ts st x cs R W
 ly:Loc W y cy T
 yb:y≠b
 yx:y≠x
 yl:lv.ownBlock≠some y
 ny:W0.heap.size≤y
 ys:R.vs.ownBlock≠some y
 yc:R.vc.ownBlock≠some y
 yi:R.vi.ownBlock≠some y
 yp:R.vp.ownBlock≠some y
variable {W0 W W' w2:World} {b x y:Nat} {lv:Value} {ts:List Tok} {st st':RS} {cs cy:Array Value} {R:QRow} {T:TypeId}
theorem row_new {W:World} {B k n:Nat} {T:TypeId} {v:Value} {xs:List Value} (ho:W.ownsRow B T k v n xs):v.ownBlock≠some W.heap.size:=by
 intro e
 have:=(ho.lt _ e).2
 omega
theorem QAt.more (h:QAt W0 b lv ts st x cs R W) (cy:Array Value) (T:TypeId):QY W0 b lv ts st x cs R W.heap.size cy T (W.alloc (.cells cy T)):=by
 obtain⟨B,ho⟩:=h.ri.row
 have hb:=h.ri.box.lt
 have hx:=h.lq.lt
 exact⟨h.alloc _,Loc.new W cy T,by omega,by omega,row_new ho,h.grown.size,row_new h.rs,row_new h.rc,row_new h.rt,row_new h.rp⟩
theorem QY.call (h:QY W0 b lv ts st x cs R y cy T W) (h1:RI b lv ts st' W') (g1:W.grownBy W' (some b)):QY W0 b lv ts st' x cs R y cy T W':=
 ⟨h.q.call h1 g1,h.ly.grown g1 (by simpa using h.yb),h.yb,h.yx,h.yl,h.ny,h.ys,h.yc,h.yi,h.yp⟩
theorem QY.setY (h:QY W0 b lv ts st x cs R y cy T W) (j:Nat) (u:Value):QY W0 b lv ts st x cs R y (cy.setIfInBounds j u) T (W.setCell ⟨y,j,none⟩ u):=by
 have g:=grown_set W y j u
 exact⟨⟨h.q.ri.setOther (fun e=>h.yb e.symm) h.yl j u,h.q.lq.setOther (fun e=>h.yx e.symm) j u,grown_own h.q.grown h.ny j u,h.q.nx,h.q.rs.kept g (Or.inr h.ys),h.q.rc.kept g (Or.inr h.yc),h.q.rt.kept g (Or.inr h.yi),h.q.rp.kept g (Or.inr h.yp)⟩,h.ly.set j u,h.yb,h.yx,h.yl,h.ny,h.ys,h.yc,h.yi,h.yp⟩
theorem QY.setBad (h:QY W0 b lv ts st x cs R y cy T W) (z:Bool):QY W0 b lv ts ⟨st.rest,z⟩ x cs R y cy T (W.setCell ⟨b,2,none⟩ (.bool z)):=h.call (h.q.ri.setBad z) (grown_set W b 2 _)
theorem two_one {a b:ByteArray}:∀u∈[Value.string a,.string b],u.oneCell'=true:=by
 intro u hu
 simp at hu
 rcases hu with rfl|rfl<;>rfl
theorem pair_one {a:ByteArray} {i:Int}:∀u∈[Value.string a,.int .i64 i],u.oneCell'=true:=by
 intro u hu
 simp at hu
 rcases hu with rfl|rfl<;>rfl
theorem Tryz.infoItem:(Tryz.prog.info? 89).map (fun i=>(i.zero,i.size,i.bytes))=some (some (.agg #[.string ⟨#[]⟩,.string ⟨#[]⟩]),2,32):=by kernel_rfl
theorem Tryz.infoPair:(Tryz.prog.info? 91).map (fun i=>(i.zero,i.size,i.bytes))=some (some (.agg #[.string ⟨#[]⟩,.int .i64 0]),2,24):=by kernel_rfl
end Go.Proofs.YtobgbmfpicmpcaaGreatDoor

/- A row of records in memory, as a walk that reads it sees it: for any kind of record. No walk in this text. -/
namespace Go.Proofs.YtobgbmfpicmpcaaGreatDoor
open Go.RowKit
theorem flat_at {α:Type} (f:α→List Value) {k:Nat} (hk:∀a,(f a).length=k):∀(l:List α) (i:Nat) (hi:i<l.length) (j:Nat),j<k→(l.flatMap f)[i*k+j]?=(f l[i])[j]?
 | [],i,hi,_,_=>by simp at hi
 | a::l,0,_,j,hj=>by
  rw[List.flatMap_cons,List.getElem?_append_left (by rw[hk];omega)]
  simp
 | a::l,i+1,hi,j,hj=>by
  have ih:=flat_at f hk l i (by simpa using hi) j hj
  rw[List.flatMap_cons,List.getElem?_append_right (by rw[hk,Nat.succ_mul];omega),hk]
  rw[show (i+1)*k+j - k=i*k+j by rw[Nat.succ_mul];omega]
  simpa using ih
def Lies {α:Type} (f:α→List Value) (k:Nat) (l:List α) (ao:Option Addr) (w:World):Prop:=
 ∀i,(hi:i<l.length)→∃g,ao=some ⟨g,0,none⟩∧∀j,j<k→w.cell? ⟨g,i*k+j,none⟩=(f l[i])[j]?
theorem row_view {α:Type} {w:World} {B k:Nat} {T:TypeId} {v:Value} {l:List α} (f:α→List Value) (hk:∀a,(f a).length=k) (h:w.ownsRow B T k v l.length (l.flatMap f)):
  ∃ao cap,v=.slice ao l.length cap∧l.length≤cap∧Lies f k l ao w:=by
 rcases h.2 with ⟨hv,h0⟩|⟨g,cap,cur,hv,hb,hg,hnc,_⟩
 ·exact⟨none,0,by rw[hv,h0],by omega,fun i hi=>by omega⟩
 ·refine⟨some ⟨g,0,none⟩,cap,hv,hnc,fun i hi=>⟨g,rfl,fun j hj=>?_⟩⟩
  rw[hv] at h
  refine(h.cellAt _ ?_).trans (flat_at f hk l i hi j hj)
  have:(i+1)*k≤l.length*k:=Nat.mul_le_mul_right k (by omega)
  rw[Nat.succ_mul] at this
  omega
theorem row_at {α:Type} {w:World} {B k n cap:Nat} {T:TypeId} {ao:Option Addr} {l:List α} (f:α→List Value) (hk:∀a,(f a).length=k) (h:w.ownsRow B T k (.slice ao n cap) l.length (l.flatMap f)) {i:Nat} (hi:i<l.length):
  ∃g,ao=some ⟨g,0,none⟩∧∀j,j<k→w.cell? ⟨g,i*k+j,none⟩=(f l[i])[j]?:=by
 obtain⟨ao',cap',e,_,hl⟩:=row_view f hk h
 injection e with e1 e2 e3
 subst e1
 exact hl i hi
theorem row_slice {α:Type} {w:World} {B k:Nat} {T:TypeId} {v:Value} {l:List α} {xs:List Value} (h:w.ownsRow B T k v l.length xs):∃ao cap,v=.slice ao l.length cap∧l.length≤cap:=by
 rcases h.2 with ⟨hv,h0⟩|⟨g,cap,cur,hv,hb,hg,hnc,_⟩
 ·exact⟨none,0,by rw[hv,h0],by omega⟩
 ·exact⟨_,cap,hv,hnc⟩
def fSpot (c:PSpot):List Value:=[.string c.name,.string c.label,.string c.type,.int .i64 c.least,.int .i64 c.most]
def fCond (c:PCond):List Value:=[.int .i64 c.op,.string c.a.name,.string c.a.key,.int .i64 c.a.val,.string c.b.name,.string c.b.key,.int .i64 c.b.val]
def fItem (c:PItem):List Value:=[.string c.name,.string c.key]
def fPair (c:PPair):List Value:=[.string c.key,.int .i64 c.val]
end Go.Proofs.YtobgbmfpicmpcaaGreatDoor

/- The reference's reader: a make. -/
namespace Go.Proofs.YtobgbmfpicmpcaaGreatDoor
open Go.RowKit
theorem pairLoop_bad {n:Nat} {out:List PPair} {st:RS} (h:st.bad=true):pairLoop n out st=(out,st):=by
 cases n with
 | zero=>rfl
 | succ n=>simp only[pairLoop];rw[h];rfl
theorem pairLoop_more {n:Nat} {out:List PPair} {l:PPair} {st s2:RS} (h:st.bad=false) (hp:pairR out st=(l,s2)) (hb:s2.bad=false) (hc:peekR mComma s2=true):pairLoop (n+1) out st=pairLoop n (out++[l]) (hasR mComma s2):=by
 simp only[pairLoop];rw[h,hp];simp only[hb,hc];rfl
theorem pairLoop_last {n:Nat} {out:List PPair} {l:PPair} {st s2:RS} (h:st.bad=false) (hp:pairR out st=(l,s2)) (hc:s2.bad=true∨peekR mComma s2=false):pairLoop (n+1) out st=(out++[l],s2):=by
 simp only[pairLoop];rw[h,hp]
 rcases hc with hc|hc
 ·simp[hc]
 ·simp[hc]
theorem pairR_len (l:List PPair) (st:RS):(pairR l st).2.rest.length≤st.rest.length:=by
 unfold pairR
 have h1:=nameR_len st
 have h2:=mustR_len mColon (nameR st).2
 have h3:=countR_len (-1000000000) 1000000000 (mustR mColon (nameR st).2)
 simp only[orBad_rest]
 omega
theorem RS.orBad_no (st:RS):st.orBad false=st:=by unfold RS.orBad;simp
theorem QY.drew {W0 W:World} {b x y:Nat} {lv:Value} {ts:List Tok} {st:RS} {cs cy:Array Value} {R:QRow} {T:TypeId} (h:QY W0 b lv ts st x cs R y cy T W) (n:Nat):QY W0 b lv ts st x cs R y cy T (W.drewN n):=h.call (h.q.ri.drew n) (grown_drew W n _)
def seen (pr:List PPair) (key:ByteArray) (k:Nat):Bool:=(pr.take k).any fun x=>eqB x.key key
theorem seen_zero (pr:List PPair) (key:ByteArray):seen pr key 0=false:=by unfold seen;simp
theorem seen_all (pr:List PPair) (key:ByteArray):seen pr key pr.length=(pr.any fun x=>eqB x.key key):=by unfold seen;rw[List.take_length]
theorem seen_next {pr:List PPair} {key:ByteArray} {k:Nat} (h:k<pr.length):seen pr key (k+1)=(seen pr key k || eqB pr[k].key key):=by
 have e:pr.take (k+1)=pr.take k++[pr[k]]:=by rw[List.take_add_one,List.getElem?_eq_getElem h];rfl
 unfold seen;rw[e,List.any_append];simp
set_option maxRecDepth 100000 in
set_option maxHeartbeats 9000000 in
theorem make_ {b x:Nat} {lv:Value} {ts:List Tok} {st:RS} {W0 W:World} (h:QAt W0 b lv ts st x (qC query0 (.slice none 0 0) (.slice none 0 0) (.slice none 0 0) (.slice none 0 0)) ⟨(.slice none 0 0),[],(.slice none 0 0),[],(.slice none 0 0),[],(.slice none 0 0),[]⟩ W):
  Calls Tryz.prog 39 #[.pointer (some ⟨b,0,none⟩),.pointer (some ⟨x,0,none⟩)] W fun e W'=>e=.returned (.tuple #[])∧∃vp,QAt W0 b lv ts (makeR st).2 x (qC {query0 with kind:=5,label:=(makeR st).1.1} (.slice none 0 0) (.slice none 0 0) (.slice none 0 0) vp) ⟨(.slice none 0 0),[],(.slice none 0 0),[],(.slice none 0 0),[],vp,(makeR st).1.2⟩ W':=by
 obtain⟨i1,hj,hy0,hy1,hy2⟩:=info_parts Tryz.infoPair
 have hlen:=h.ri.len
 have hrl:st.rest.length≤ts.length:=by obtain⟨_,_,_,_,_,_,_,e,_⟩:=h.ri.seen;exact e
 have hr1:=mustR_len mOpen st
 obtain⟨tl,s1,htl⟩:∃tl s1,titleR (mustR mOpen st)=(tl,s1):=⟨_,_,rfl⟩
 have HTL:=Lib.hid htl
 have hr2:=titleR_len (mustR mOpen st)
 rw[htl] at hr2
 obtain⟨m0,hm0⟩:∃m0,peekR mBrace s1=m0:=⟨_,rfl⟩
 have HM0:=Lib.hid hm0
 have hr3:=hasR_len mBrace s1
 obtain⟨sb,hsb⟩:∃sb,hasR mBrace s1=sb:=⟨_,rfl⟩
 have HSB:=Lib.hid hsb
 rw[hsb] at hr3
 have c0:=h.lq.at_ 0 (.int .i64 0) rfl
 have f0:W.frozen? ⟨x,0,none⟩=false:=h.lq.free 0
 have H0:=Lib.hid (h.set 0 (.int .i64 5))
 clear h htl hm0 hsb
 go_enter Tryz.func39,Tryz.ntmps39
 go_wp2_with fail
 generalize W.setCell ⟨x,0,none⟩ (.int .i64 5)=W1 at H0⊢
 clear c0 f0
 refine(must H0.out.ri mOpen).mono ?_
 rintro e W2 ⟨rfl,h2,g2⟩
 have H2:=Lib.hid (H0.out.call h2 g2)
 clear h2 g2 H0
 go_wp2_with fail
 refine(titleIs H2.out.ri HTL.out).mono ?_
 rintro e W3 ⟨rfl,h3,g3⟩
 have H3a:=H2.out.call h3 g3
 have c15:=H3a.lq.at_ 15 (.string ⟨#[]⟩) rfl
 have f15:W3.frozen? ⟨x,15,none⟩=false:=H3a.lq.free 15
 have H4:=Lib.hid (H3a.set 15 (.string tl))
 clear h3 g3 H3a H2
 go_wp2_with fail
 generalize W3.setCell ⟨x,15,none⟩ (.string tl)=W4 at H4⊢
 clear c15 f15
 refine(has H4.out.ri mBrace m0 HM0.out).mono ?_
 rintro e W5 ⟨rfl,h5,g5⟩
 rw[HSB.out] at h5
 have H5:Hid (QAt W0 b lv ts sb x (qC {query0 with kind:=5,label:=tl} (.slice none 0 0) (.slice none 0 0) (.slice none 0 0) (.slice none 0 0)) ⟨(.slice none 0 0),[],(.slice none 0 0),[],(.slice none 0 0),[],(.slice none 0 0),[]⟩ W5):=H4.out.call h5 g5
 clear h5 g5 H4
 go_upto_block 0 with fail
 go_cut [5,6,7] (fun _ _ _ w=>∃vp pr s',QAt W0 b lv ts s' x (qC {query0 with kind:=5,label:=tl} (.slice none 0 0) (.slice none 0 0) (.slice none 0 0) vp) ⟨(.slice none 0 0),[],(.slice none 0 0),[],(.slice none 0 0),[],vp,pr⟩ w∧(if m0 then pairLoop (st.rest.length+1) [] sb else ([],sb))=(pr,s')∧pr.length+s'.rest.length≤2002)
 case first=>
  go_wp2_with fail
  go_loopg [5] (st.rest.length+1) (fun n more w=>∃vp pr s' m,more=.bool m∧QAt W0 b lv ts s' x (qC {query0 with kind:=5,label:=tl} (.slice none 0 0) (.slice none 0 0) (.slice none 0 0) vp) ⟨(.slice none 0 0),[],(.slice none 0 0),[],(.slice none 0 0),[],vp,pr⟩ w∧(m=true→(if m0 then pairLoop (st.rest.length+1) [] sb else ([],sb))=pairLoop n pr s'∧s'.rest.length+1≤n∧pr.length+s'.rest.length≤2001)∧(m=false→(if m0 then pairLoop (st.rest.length+1) [] sb else ([],sb))=(pr,s')∧pr.length+s'.rest.length≤2002))
  case atStart=>
   refine⟨_,[],_,m0,rfl,H5.out,fun e=>⟨by rw[e];rfl,by omega,by simp;omega⟩,fun e=>⟨by rw[e];rfl,by simp;omega⟩⟩
  case round=>
   obtain⟨vp,pr,s',m,rfl,hq,hT,hF⟩:=hrel
   obtain⟨ao,ca,rfl,hca⟩:=row_slice (l:=pr) hq.rp
   have HQ:=Lib.hid hq
   have q2:=hq.ri.box.at_ 2 (.bool s'.bad) rfl
   clear hq H5
   cases m with
   | false=>
    obtain⟨e1,e2⟩:=hF rfl
    have E1:=Lib.hid e1
    clear e1 hT hF
    go_wp2_with fail
    go_meet
    case rel=>exact⟨_,pr,s',HQ.out,E1.out,e2⟩
   | true=>
    obtain⟨e1,e2,e3⟩:=hT rfl
    have E1:=Lib.hid e1
    clear e1 hT hF
    cases hb:s'.bad with
    | true=>
     have HB:=Lib.hid hb
     rw[hb] at q2
     clear hb
     go_wp2_with fail
     go_meet
     case rel=>exact⟨_,pr,s',HQ.out,by rw[E1.out];exact pairLoop_bad HB.out,by omega⟩
    | false=>
     have HB:=Lib.hid hb
     rw[hb] at q2
     clear hb
     obtain⟨n,hn⟩:∃n,gk=n+1:=⟨gk - 1,by omega⟩
     subst hn
     obtain⟨nm,s3,hnm⟩:∃nm s3,nameR s'=(nm,s3):=⟨_,_,rfl⟩
     have HNM:=Lib.hid hnm
     obtain⟨vl,s4,hvl⟩:∃vl s4,countR (-1000000000) 1000000000 (mustR mColon s3)=(vl,s4):=⟨_,_,rfl⟩
     have HVL:=Lib.hid hvl
     have HPR:Hid (pairR pr s'=(⟨nm,vl⟩,s4.orBad (seen pr nm pr.length))):=by show _=_;unfold pairR;rw[seen_all];simp only[hnm,hvl]
     have hpl:=pairR_len pr s'
     rw[HPR.out,orBad_rest] at hpl
     clear hnm hvl
     obtain⟨s5,hs5⟩:∃s5,s4.orBad (seen pr nm pr.length)=s5:=⟨_,rfl⟩
     rw[hs5] at HPR
     have hr5:s5.rest.length=s4.rest.length:=by rw[←hs5];rfl
     have HS5:=Lib.hid hs5
     clear hs5
     go_upto_block 1 with fail
     go_cut [6,7] (fun _ _ w=>∃v,QAt W0 b lv ts s5 x (qC {query0 with kind:=5,label:=tl} (.slice none 0 0) (.slice none 0 0) (.slice none 0 0) v) ⟨(.slice none 0 0),[],(.slice none 0 0),[],(.slice none 0 0),[],v,(pr++[⟨nm,vl⟩])⟩ w)
     case first=>
      have HY1:=Lib.hid (HQ.out.more #[.string ⟨#[]⟩,.int .i64 0] 91)
      clear HQ
      go_wp2_with fail
      obtain⟨Y,hY⟩:∃Y,Y=wr.heap.size:=⟨_,rfl⟩
      rw[←hY] at HY1⊢
      clear hY q2
      generalize wr.alloc (.cells #[.string ⟨#[]⟩,.int .i64 0] 91)=W6 at HY1⊢
      refine(nameIs HY1.out.q.ri HNM.out).mono ?_
      rintro e W7 ⟨rfl,h7,g7⟩
      have H7a:=HY1.out.call h7 g7
      have c0:=H7a.ly.at_ 0 (.string ⟨#[]⟩) rfl
      have f0:W7.frozen? ⟨Y,0,none⟩=false:=H7a.ly.free 0
      have H8:=Lib.hid (H7a.setY 0 (.string nm))
      clear h7 g7 H7a HY1
      go_wp2_with fail
      generalize W7.setCell ⟨Y,0,none⟩ (.string nm)=W8 at H8⊢
      clear c0 f0
      refine(must H8.out.q.ri mColon).mono ?_
      rintro e W9 ⟨rfl,h9,g9⟩
      have H9:=Lib.hid (H8.out.call h9 g9)
      clear h9 g9 H8
      go_wp2_with fail
      refine(countIs H9.out.q.ri HVL.out).mono ?_
      rintro e WA ⟨rfl,hA,gA⟩
      have HAa:=H9.out.call hA gA
      have c1:=HAa.ly.at_ 1 (.int .i64 0) rfl
      have f1:WA.frozen? ⟨Y,1,none⟩=false:=HAa.ly.free 1
      have HB1:Hid (QY W0 b lv ts s4 x (qC {query0 with kind:=5,label:=tl} (.slice none 0 0) (.slice none 0 0) (.slice none 0 0) (.slice ao pr.length ca)) ⟨(.slice none 0 0),[],(.slice none 0 0),[],(.slice none 0 0),[],(.slice ao pr.length ca),pr⟩ Y #[.string nm,.int .i64 vl] 91 (WA.setCell ⟨Y,1,none⟩ (.int .i64 vl))):=HAa.setY 1 (.int .i64 vl)
      clear hA gA HAa H9
      go_upto_block 2 with fail
      generalize WA.setCell ⟨Y,1,none⟩ (.int .i64 vl)=WB at HB1⊢
      clear c1 f1
      go_cut [7] (fun _ w=>QY W0 b lv ts (s4.orBad (seen pr nm pr.length)) x (qC {query0 with kind:=5,label:=tl} (.slice none 0 0) (.slice none 0 0) (.slice none 0 0) (.slice ao pr.length ca)) ⟨(.slice none 0 0),[],(.slice none 0 0),[],(.slice none 0 0),[],(.slice ao pr.length ca),pr⟩ Y #[.string nm,.int .i64 vl] 91 w)
      case first=>
       go_wp2_with fail
       go_loopg [7] pr.length (fun n iv w=>∃k:Nat,iv=.int .i64 (k:Int)∧k+n=pr.length∧QY W0 b lv ts (s4.orBad (seen pr nm k)) x (qC {query0 with kind:=5,label:=tl} (.slice none 0 0) (.slice none 0 0) (.slice none 0 0) (.slice ao pr.length ca)) ⟨(.slice none 0 0),[],(.slice none 0 0),[],(.slice none 0 0),[],(.slice ao pr.length ca),pr⟩ Y #[.string nm,.int .i64 vl] 91 w)
       case atStart=>exact⟨0,rfl,by omega,by rw[seen_zero,RS.orBad_no];exact HB1.out⟩
       case round=>
        obtain⟨k,rfl,hk,hq⟩:=hrel
        have HK:=Lib.hid hq
        have c16:=hq.q.lq.at_ 16 (.slice ao pr.length ca) rfl
        by_cases hlt:k<pr.length
        ·obtain⟨g,rfl,hcell⟩:=row_at (l:=pr) fPair (fun _=>rfl) hq.q.rp hlt
         have p0:wr.cell? ⟨g,k*2,none⟩=some (.string pr[k].key):=hcell 0 (by decide)
         have y0:=hq.ly.at_ 0 (.string nm) rfl
         have b2:=hq.q.ri.box.at_ 2 (.bool (s4.orBad (seen pr nm k)).bad) rfl
         have fb2:wr.frozen? ⟨b,2,none⟩=false:=hq.q.ri.box.free 2
         have hkb:k<9223372036854775807:=by omega
         have hki:(k:Int)<(pr.length:Int):=by omega
         obtain⟨key,hkey⟩:∃key,pr[k].key=key:=⟨_,rfl⟩
         have HNX:Hid (s4.orBad (seen pr nm (k+1))=⟨(s4.orBad (seen pr nm k)).rest,(s4.orBad (seen pr nm k)).bad || (key.toList==nm.toList)⟩):=by show _=_;rw[seen_next hlt,hkey];unfold RS.orBad eqB;simp[Bool.or_assoc]
         rw[hkey] at p0
         clear hq hcell hkey hlt
         cases hb:(s4.orBad (seen pr nm k)).bad with
         | true=>
          rw[hb] at b2
          go_upto_region 14 with fail
          go_region
          go_wp2_with fail
          go_roundg (gk - 1)
          case measure=>omega
          case rel=>exact⟨k+1,by simp,by omega,by rw[HNX.out,hb,Bool.true_or];exact(HK.out.setBad true).drew 1⟩
         | false=>
          rw[hb] at b2
          cases he:(key.toList==nm.toList) with
          | true=>
           go_upto_region 14 with fail
           go_region
           go_wp2_with fail
           go_roundg (gk - 1)
           case measure=>omega
           case rel=>exact⟨k+1,by simp,by omega,by rw[HNX.out,hb,he,Bool.false_or];exact(HK.out.setBad true).drew 1⟩
          | false=>
           go_upto_region 14 with fail
           go_region
           go_wp2_with fail
           go_roundg (gk - 1)
           case measure=>omega
           case rel=>exact⟨k+1,by simp,by omega,by rw[HNX.out,hb,he,Bool.false_or];exact(HK.out.setBad false).drew 1⟩
        ·have hki:¬(k:Int)<(pr.length:Int):=by omega
         go_wp2_with fail
         go_meet
         case rel=>
          have:k=pr.length:=by omega
          rw[this] at HK
          exact HK.out
      case rest=>
       rw[HS5.out] at hcut
       have HY:=Lib.hid hcut
       go_upto_region 15 with fail
       have y0:=hcut.ly.at_ 0 (.string nm) rfl
       have y1:=hcut.ly.at_ 1 (.int .i64 vl) rfl
       have x16:=hcut.q.lq.at_ 16 (.slice ao pr.length ca) rfl
       have fx16:wc.frozen? ⟨x,16,none⟩=false:=hcut.q.lq.free 16
       have HD:Hid (QAt W0 b lv ts s5 x (qC {query0 with kind:=5,label:=tl} (.slice none 0 0) (.slice none 0 0) (.slice none 0 0) (.slice ao pr.length ca)) ⟨(.slice none 0 0),[],(.slice none 0 0),[],(.slice none 0 0),[],(.slice ao pr.length ca),pr⟩ ((wc.alloc (.cells #[.string nm,.int .i64 vl] 91)).drew)):=(HY.out.q.alloc _).drew 1
       have xa16:(wc.alloc (.cells #[.string nm,.int .i64 vl] 91)).cell? ⟨x,16,none⟩=some (.slice ao pr.length ca):=(HD.out.lq.cell 16).trans rfl
       clear hcut HY
       go_region_law (refine step_append_lies _ rfl _ _ 27 rfl W0.heap.size 91 i1 (.agg #[.string ⟨#[]⟩,.int .i64 0]) 2 24 Tryz.underlying27 hj hy0 hy1 hy2 rfl (by decide) (.slice ao pr.length ca) _ _ (by simp[Act.eval]) HD.out.rp ⟨wc.heap.size,0,none⟩ 1 1 [.string nm,.int .i64 vl] (by simp[Act.eval]) rfl (World.news_of_block (heap_alloc_new wc _)) pair_one (by omega) (by unfold maxLen;simp only;omega) (by simp only;omega) HD.out.grown.size _ rfl ?_;intro g2 cap2 w5 hown hgrow _ _;have H5a:=HD.out.pairs (l:=[⟨nm,vl⟩]) hgrow (by rw[pairCells_snoc,List.length_append];exact hown);have c5:w5.cell? ⟨x,16,none⟩=some (.slice ao pr.length ca):=(H5a.lq.cell 16).trans rfl;have f5:w5.frozen? ⟨x,16,none⟩=false:=H5a.lq.free 16;have H5:=Lib.hid (H5a.set 16 (.slice (some ⟨g2,0,none⟩) (pr.length+1) cap2));clear H5a hown hgrow)
       all_goals
        go_wp2_with fail
        go_meet
        case rel=>exact⟨_,H5.out⟩
     case rest=>
      clear HQ q2
      obtain⟨v,hq⟩:=hcut
      have H6:=Lib.hid hq
      have q6:=hq.ri.box.at_ 2 (.bool s5.bad) rfl
      clear hq
      have hol:(pr++[(⟨nm,vl⟩:PPair)]).length=pr.length+1:=by simp
      cases hb2:s5.bad with
      | true=>
       have HB2:=Lib.hid hb2
       rw[hb2] at q6
       clear hb2
       go_wp2_with fail
       go_roundg n
       case measure=>omega
       case rel=>exact⟨_,pr++[⟨nm,vl⟩],s5,false,rfl,H6.out,fun h=>(by cases h),fun _=>⟨by rw[E1.out];exact pairLoop_last HB.out HPR.out (Or.inl HB2.out),by omega⟩⟩
      | false=>
       have HB2:=Lib.hid hb2
       rw[hb2] at q6
       clear hb2
       cases ha:peekR mComma s5 with
       | false=>
        have HAN:=Lib.hid ha
        clear ha
        go_wp2_with fail
        refine(has H6.out.ri mComma false HAN.out).mono ?_
        rintro e W7 ⟨rfl,h7,g7⟩
        rw[hasR_not HAN.out] at h7
        have H7:=Lib.hid (H6.out.call h7 g7)
        clear h7 g7 q6
        go_wp2_with fail
        go_roundg n
        case measure=>omega
        case rel=>exact⟨_,pr++[⟨nm,vl⟩],s5,false,rfl,H7.out,fun h=>(by cases h),fun _=>⟨by rw[E1.out];exact pairLoop_last HB.out HPR.out (Or.inr HAN.out),by omega⟩⟩
       | true=>
        have HAN:=Lib.hid ha
        have hless:=hasR_less ha
        clear ha
        go_wp2_with fail
        refine(has H6.out.ri mComma true HAN.out).mono ?_
        rintro e W7 ⟨rfl,h7,g7⟩
        have H7:=Lib.hid (H6.out.call h7 g7)
        clear h7 g7 q6
        go_wp2_with fail
        go_roundg n
        case measure=>omega
        case rel=>exact⟨_,pr++[⟨nm,vl⟩],hasR mComma s5,true,rfl,H7.out,fun _=>⟨by rw[E1.out];exact pairLoop_more HB.out HPR.out HB2.out HAN.out,by omega,by omega⟩,fun h=>(by cases h)⟩
 case rest=>
  obtain⟨vp,pr,s6,hq,hpl,hpn⟩:=hcut
  obtain⟨ao,ca,rfl,hca⟩:=row_slice (l:=pr) hq.rp
  have HPL:=Lib.hid hpl
  have H6:=Lib.hid hq
  clear hq hpl H5
  go_upto_if 85 with fail
  go_cut [] (fun w=>QAt W0 b lv ts (if m0 then mustR mUnbrace s6 else s6) x (qC {query0 with kind:=5,label:=tl} (.slice none 0 0) (.slice none 0 0) (.slice none 0 0) (.slice ao pr.length ca)) ⟨(.slice none 0 0),[],(.slice none 0 0),[],(.slice none 0 0),[],(.slice ao pr.length ca),pr⟩ w)
  case first=>
   cases m0 with
   | false=>
    go_wp2_with fail
    go_meet
    case rel=>exact H6.out
   | true=>
    go_wp2_with fail
    refine(must H6.out.ri mUnbrace).mono ?_
    rintro e W7 ⟨rfl,h7,g7⟩
    have H7:=Lib.hid (H6.out.call h7 g7)
    clear h7 g7 H6
    go_wp2_with fail
    go_meet
    case rel=>exact H7.out
  case rest=>
   obtain⟨s7,hs7⟩:∃s7,(if m0 then mustR mUnbrace s6 else s6)=s7:=⟨_,rfl⟩
   rw[hs7] at hcut
   have HS7:=Lib.hid hs7
   have H7:=Lib.hid hcut
   clear hs7 hcut H6
   go_wp2_with fail
   refine(must H7.out.ri mClose).mono ?_
   rintro e W8 ⟨rfl,h8,g8⟩
   obtain⟨s8,hs8⟩:∃s8,mustR mClose s7=s8:=⟨_,rfl⟩
   rw[hs8] at h8
   have HS8:=Lib.hid hs8
   have H8:=Lib.hid (H7.out.call h8 g8)
   have r2:=H8.out.ri.box.at_ 2 (.bool s8.bad) rfl
   have fr2:W8.frozen? ⟨b,2,none⟩=false:=H8.out.ri.box.free 2
   have z3:=H8.out.lq.at_ 16 (.slice ao pr.length ca) rfl
   clear h8 g8 H7 hs8
   have HIS:Hid (makeR st=((tl,pr),s8.orBad (decide (6<pr.length)))):=by
    show _=_;unfold makeR;simp only[HTL.out,HM0.out,HSB.out]
    have e1:(if m0=true then pairLoop (st.rest.length+1) [] sb else ([],s1))=(pr,s6):=by
     rw[←HPL.out]
     cases hm:m0 with
     | true=>rfl
     | false=>
      have:=HSB.out
      rw[hasR_not (by rw[HM0.out,hm])] at this
      rw[this]
    rw[e1]
    simp only
    rw[HS7.out,HS8.out]
   cases hb:s8.bad with
   | true=>
    rw[hb] at r2
    have HF:Hid (makeR st=((tl,pr),⟨s8.rest,true⟩)):=by show _=_;rw[HIS.out];unfold RS.orBad;simp only[hb];rfl
    clear hb
    go_wp2_with fail
    go_end0
    refine⟨rfl,.slice ao pr.length ca,?_⟩
    rw[HF.out]
    exact H8.out.setBad true
   | false=>
    rw[hb] at r2
    by_cases h6:6<pr.length
    ·have HF:Hid (makeR st=((tl,pr),⟨s8.rest,true⟩)):=by show _=_;rw[HIS.out];unfold RS.orBad;simp only[hb];simp[h6]
     clear hb
     have h6i:(6:Int)<pr.length:=by omega
     go_wp2_with fail
     go_end0
     refine⟨rfl,.slice ao pr.length ca,?_⟩
     rw[HF.out]
     exact H8.out.setBad true
    ·have HF:Hid (makeR st=((tl,pr),⟨s8.rest,false⟩)):=by show _=_;rw[HIS.out];unfold RS.orBad;simp only[hb];simp[h6]
     clear hb
     have h6i:¬(6:Int)<pr.length:=by omega
     have H6D:Hid (decide ((6:Int)<pr.length)=false):=decide_eq_false h6i
     go_wp2_with fail
     go_end0
     refine⟨rfl,.slice ao pr.length ca,?_⟩
     rw[HF.out,H6D.out]
     exact H8.out.setBad false
end Go.Proofs.YtobgbmfpicmpcaaGreatDoor

/- The reference's scope: is a variable one of the spots'? -/
namespace Go.Proofs.YtobgbmfpicmpcaaGreatDoor
open Go.RowKit
theorem bound_next {sp:List PSpot} {n:ByteArray} {k:Nat} (h:k<sp.length):boundR (sp.take (k+1)) n=(boundR (sp.take k) n || eqB sp[k].name n):=by
 have e:sp.take (k+1)=sp.take k++[sp[k]]:=by rw[List.take_add_one,List.getElem?_eq_getElem h];rfl
 unfold boundR;rw[e,List.any_append];simp
theorem bound_here {sp:List PSpot} {n:ByteArray} {k:Nat} (h:k<sp.length) (he:eqB sp[k].name n=true):boundR sp n=true:=by
 unfold boundR
 exact List.any_eq_true.2 ⟨sp[k],List.getElem_mem h,he⟩
theorem kept_none {W W':World} {B k n:Nat} {T:TypeId} {v:Value} {xs:List Value} (h:W.ownsRow B T k v n xs) (g:W.grownBy W' none):W'.ownsRow B T k v n xs:=
 h.kept g (by cases hv:v.ownBlock<;>simp)
set_option maxRecDepth 100000 in
set_option maxHeartbeats 4000000 in
theorem bound {B:Nat} {q:PQuery} {vs vc vi vp:Value} {sp:List PSpot} {n:ByteArray} {W:World} (h:W.ownsRow B 85 5 vs sp.length (spotCells sp)) (hlen:sp.length<9223372036854775807):
  Calls Tryz.prog 92 #[.agg (qC q vs vc vi vp),.string n] W fun e W'=>e=.returned (.bool (boundR sp n))∧Below W.heap.size W W':=by
 obtain⟨ao,ca,rfl,hca⟩:=row_slice (l:=sp) h
 have hB:Below W.heap.size W (W.alloc (.cells (qC q (.slice ao sp.length ca) vc vi vp) 29)):=Below.alloc (Below.refl _ _) (Nat.le_refl _) _
 have HB:=Lib.hid hB
 have h1:=kept_none h (grown_alloc W (.cells (qC q (.slice ao sp.length ca) vc vi vp) 29) none)
 have L1:Loc (W.alloc (.cells (qC q (.slice ao sp.length ca) vc vi vp) 29)) W.heap.size (qC q (.slice ao sp.length ca) vc vi vp) 29:=Loc.new W _ _
 have c1:(W.alloc (.cells (qC q (.slice ao sp.length ca) vc vi vp) 29)).cell? ⟨W.heap.size,1,none⟩=some (.slice ao sp.length ca):=(L1.cell 1).trans rfl
 have HR:=Lib.hid h1
 clear h h1 hB L1
 go_enter Tryz.func92,Tryz.ntmps92
 go_wp2_with fail
 generalize W.alloc (.cells (qC q (.slice ao sp.length ca) vc vi vp) 29)=Wb at HB HR c1⊢
 go_loopg [5] sp.length (fun m iv w=>∃k:Nat,iv=.int .i64 (k:Int)∧k+m=sp.length∧w=Wb∧boundR (sp.take k) n=false)
 case atStart=>exact⟨0,rfl,by omega,rfl,rfl⟩
 case round=>
  obtain⟨k,rfl,hk,rfl,hno⟩:=hrel
  have HNO:=Lib.hid hno
  clear hno
  by_cases hlt:k<sp.length
  ·obtain⟨g,rfl,hcell⟩:=row_at (l:=sp) fSpot (fun _=>rfl) HR.out hlt
   have p0:wr.cell? ⟨g,k*5,none⟩=some (.string sp[k].name):=hcell 0 (by decide)
   have hki:(k:Int)<(sp.length:Int):=by omega
   obtain⟨key,hkey⟩:∃key,sp[k].name=key:=⟨_,rfl⟩
   have HNX:Hid (boundR (sp.take (k+1)) n=(key.toList==n.toList)):=by show _=_;rw[bound_next hlt,hkey,HNO.out];rfl
   have HH:Hid ((key.toList==n.toList)=true→boundR sp n=true):=by intro e;exact bound_here hlt (by rw[hkey];exact e)
   rw[hkey] at p0
   clear hcell hkey hlt
   cases he:(key.toList==n.toList) with
   | true=>
    go_wp2_with fail
    refine bodyPost_ret (v:=.bool true) ?_ rfl ⟨?_,HB.out⟩
    ·simp[results,Tryz.results92,go_sem]
    ·rw[HH.out he]
   | false=>
    go_wp2_with fail
    go_roundg (gk - 1)
    case measure=>omega
    case rel=>exact⟨k+1,by simp,by omega,rfl,by rw[HNX.out];exact he⟩
  ·have hki:¬(k:Int)<(sp.length:Int):=by omega
   have hk2:k=sp.length:=by omega
   go_wp2_with fail
   refine bodyPost_ret (v:=.bool false) ?_ rfl ⟨?_,HB.out⟩
   ·simp[results,Tryz.results92,go_sem]
   ·have:=HNO.out
    rw[hk2,List.take_length] at this
    rw[this]
end Go.Proofs.YtobgbmfpicmpcaaGreatDoor

/- What stands in memory while the reference looks at a query's scope: the query's copy, its rows, the list of names. No walk in this text. -/
namespace Go.Proofs.YtobgbmfpicmpcaaGreatDoor
open Go.RowKit
def strs (l:List ByteArray):List Value:=l.map .string
theorem strs_append (a b:List ByteArray):strs (a++b)=strs a++strs b:=by unfold strs;rw[List.map_append]
theorem strs_length (a:List ByteArray):(strs a).length=a.length:=by unfold strs;rw[List.length_map]
theorem strs_flat (l:List ByteArray):strs l=l.flatMap fun s=>[.string s]:=by
 induction l with
 | nil=>rfl
 | cons a l ih=>unfold strs at *;rw[List.map_cons,ih];rfl
theorem Tryz.infoString:(Tryz.prog.info? 9).map (fun i=>(i.zero,i.size,i.bytes))=some (some (.string ⟨#[]⟩),1,16):=by kernel_rfl
structure SAt (W:World) (B X:Nat) (cs:Array Value) (q:PQuery) (vs vc vi v:Value) (ns:List ByteArray) (w:World):Prop where
 low:Below W.heap.size W w
 lq:Loc w X cs 29
 nx:W.heap.size≤X
 rs:w.ownsRow B 85 5 vs q.spots.length (spotCells q.spots)
 rc:w.ownsRow B 87 7 vc q.conds.length (condCells q.conds)
 rt:w.ownsRow B 89 2 vi q.items.length (itemCells q.items)
 rl:w.ownsRow W.heap.size 9 1 v ns.length (strs ns)
variable {W w w2:World} {B X:Nat} {cs:Array Value} {q:PQuery} {vs vc vi v:Value} {ns:List ByteArray}
theorem SAt.quiet (h:SAt W B X cs q vs vc vi v ns w) (g:w.grownBy w2 none):SAt W B X cs q vs vc vi v ns w2:=
 ⟨⟨g.os.trans h.low.os,g.tape.trans h.low.tape,g.output.trans h.low.output,Nat.le_trans h.low.size g.size,fun k hk=>(g.block k (Nat.lt_of_lt_of_le hk h.low.size) (by simp)).trans (h.low.block k hk)⟩,h.lq.grown g (by simp),h.nx,kept_none h.rs g,kept_none h.rc g,kept_none h.rt g,kept_none h.rl g⟩
theorem SAt.alloc (h:SAt W B X cs q vs vc vi v ns w) (o:Obj):SAt W B X cs q vs vc vi v ns (w.alloc o):=h.quiet (grown_alloc w o none)
theorem SAt.drew (h:SAt W B X cs q vs vc vi v ns w) (n:Nat):SAt W B X cs q vs vc vi v ns (w.drewN n):=h.quiet (grown_drew w n none)
theorem SAt.later (h:SAt W B X cs q vs vc vi v ns w) (hb:Below w.heap.size w w2):SAt W B X cs q vs vc vi v ns w2:=h.quiet (grown_below hb none)
theorem SAt.more {v2:Value} {l:List ByteArray} (h:SAt W B X cs q vs vc vi v ns w) (hg:w.grownBy w2 v.ownBlock) (ho:w2.ownsRow W.heap.size 9 1 v2 (ns++l).length (strs (ns++l))):SAt W B X cs q vs vc vi v2 (ns++l) w2:=
 ⟨⟨hg.os.trans h.low.os,hg.tape.trans h.low.tape,hg.output.trans h.low.output,Nat.le_trans h.low.size hg.size,fun k hk=>(hg.block k (Nat.lt_of_lt_of_le hk h.low.size) (by
   intro e
   have:=(h.rl.lt k e.symm).1
   omega)).trans (h.low.block k hk)⟩,
  h.lq.byRow h.rl hg (by decide),h.nx,h.rs.kept hg (row_row h.rs h.rl (by decide)),h.rc.kept hg (row_row h.rc h.rl (by decide)),h.rt.kept hg (row_row h.rt h.rl (by decide)),ho⟩
def condNames (l:List PCond):List ByteArray:=l.flatMap fun c=>[c.a.name,c.b.name]
def itemNames (l:List PItem):List ByteArray:=l.map fun x=>x.name
theorem condNames_next {l:List PCond} {k:Nat} (h:k<l.length):condNames (l.take (k+1))=condNames (l.take k)++[l[k].a.name,l[k].b.name]:=by
 have e:l.take (k+1)=l.take k++[l[k]]:=by rw[List.take_add_one,List.getElem?_eq_getElem h];rfl
 unfold condNames;rw[e,List.flatMap_append];simp
theorem itemNames_next {l:List PItem} {k:Nat} (h:k<l.length):itemNames (l.take (k+1))=itemNames (l.take k)++[l[k].name]:=by
 have e:l.take (k+1)=l.take k++[l[k]]:=by rw[List.take_add_one,List.getElem?_eq_getElem h];rfl
 unfold itemNames;rw[e,List.map_append];simp
theorem condNames_len (l:List PCond):(condNames l).length=l.length*2:=by
 induction l with
 | nil=>rfl
 | cons c l ih=>unfold condNames at *;rw[List.flatMap_cons,List.length_append,ih];simp;omega
theorem itemNames_len (l:List PItem):(itemNames l).length=l.length:=by unfold itemNames;rw[List.length_map]
end Go.Proofs.YtobgbmfpicmpcaaGreatDoor

/- Contracts of Go's library, laid at this program's own numbers by the shelf's one command and its plain mode. -/
namespace Go.Proofs
open Go.Shelf
def Tryz.lays156_ren : Go.Shelf.Ren := ⟨fun | 156 => 54 | 165 => 109 | 166 => 110 | 169 => 111 | 240 => 173 | 241 => 174 | 276 => 222 | 277 => 223 | n => n, fun | 31 => 56 | 9 => 9 | 3 => 3 | 4 => 4 | 0 => 0 | 20 => 20 | 72 => 174 | 76 => 178 | 70 => 172 | 37 => 168 | 75 => 177 | 127 => 247 | 164 => 288 | 5 => 5 | 80 => 79 | n => n, fun | n => n⟩
theorem Tryz.lays156 : Go.Proofs.Lays.n156 Tryz.prog Tryz.lays156_ren := {
  mixed := by kernel_rfl
  f156 := Tryz.func54.trans (congrArg some (by kernel_rfl))
  f165 := Tryz.func109.trans (congrArg some (by kernel_rfl))
  f166 := Tryz.func110.trans (congrArg some (by kernel_rfl))
  f169 := Tryz.func111.trans (congrArg some (by kernel_rfl))
  f240 := Tryz.func173.trans (congrArg some (by kernel_rfl))
  f241 := Tryz.func174.trans (congrArg some (by kernel_rfl))
  f276 := Tryz.func222.trans (congrArg some (by kernel_rfl))
  f277 := Tryz.func223.trans (congrArg some (by kernel_rfl))
  t0 := Tryz.underlying0
  a0 := Tryz.isAgg0
  z0 := Tryz.sizeOf0
  v0 := Tryz.zeroValue0
  t3 := Tryz.underlying3
  a3 := Tryz.isAgg3
  z3 := Tryz.sizeOf3
  v3 := Tryz.zeroValue3
  t4 := Tryz.underlying4
  a4 := Tryz.isAgg4
  z4 := Tryz.sizeOf4
  v4 := Tryz.zeroValue4
  t9 := Tryz.underlying9
  a9 := Tryz.isAgg9
  z9 := Tryz.sizeOf9
  v9 := Tryz.zeroValue9
  t20 := Tryz.underlying20
  a20 := Tryz.isAgg20
  z20 := Tryz.sizeOf20
  v20 := Tryz.zeroValue20
  t31 := Tryz.underlying56
  a31 := Tryz.isAgg56
  z31 := Tryz.sizeOf56
  v31 := Tryz.zeroValue56
  t37 := Tryz.underlying168
  a37 := Tryz.isAgg168
  z37 := Tryz.sizeOf168
  v37 := Tryz.zeroValue168
  t70 := Tryz.underlying172
  a70 := Tryz.isAgg172
  z70 := Tryz.sizeOf172
  v70 := Tryz.zeroValue172
  t72 := Tryz.underlying174
  a72 := Tryz.isAgg174
  z72 := Tryz.sizeOf174
  v72 := Tryz.zeroValue174
  t75 := Tryz.underlying177
  a75 := Tryz.isAgg177
  z75 := Tryz.sizeOf177
  v75 := Tryz.zeroValue177
  t76 := Tryz.underlying178
  a76 := Tryz.isAgg178
  z76 := Tryz.sizeOf178
  v76 := Tryz.zeroValue178
  t127 := Tryz.underlying247
  a127 := Tryz.isAgg247
  z127 := Tryz.sizeOf247
  v127 := Tryz.zeroValue247
  t164 := Tryz.underlying288
  a164 := Tryz.isAgg288
  z164 := Tryz.sizeOf288
  v164 := Tryz.zeroValue288 }
theorem Tryz.Builder_Extra_156 : Builder.Extra Tryz.prog Tryz.lays156_ren := {
  sizeBuilder := by kernel_rfl
  liesBuilder := by kernel_rfl
  t5 := Tryz.underlying5
  a5 := Tryz.isAgg5
  z5 := Tryz.sizeOf5
  v5 := Tryz.zeroValue5
  infoByte := by kernel_rfl
  cellsByte := by kernel_rfl
  sizeByte := by kernel_rfl
  neB5 := by decide }
open Go.RowKit in
theorem Tryz.strings_Join (bk o c : Nat) (xs : List ByteArray) (sep : ByteArray) (w : World) (hcells : ∀ (j : Nat) x, xs[j]? = some x → w.cell? ⟨bk, o + j, none⟩ = some (.string x)) (hbk : bk < w.heap.size) (hN : xs.length ≤ 140737488355328) (hcap : xs.length ≤ c) (hlen : (Lib.join (xs.map (·.data.toList)) sep.data.toList).length ≤ 140737488355328) :
    Calls Tryz.prog 54 #[.slice (some ⟨bk, o, none⟩) xs.length c, .string sep] w fun e w' => e = .returned (.string ⟨(Lib.join (xs.map (·.data.toList)) sep.data.toList).toArray⟩) ∧ Below w.heap.size w w' := Any.strings_Join Tryz.lays156 Tryz.Builder_Extra_156 bk o c xs sep w hcells hbk hN hcap hlen
def Tryz.laysM171_ren : Go.Shelf.Ren := ⟨fun | 171 => 36 | 243 => 77 | 246 => 149 | 283 => 206 | 284 => 207 | 285 => 208 | 286 => 209 | 129 => 253 | 317 => 269 | 318 => 270 | 319 => 271 | 320 => 272 | 337 => 316 | 338 => 317 | n => n, fun | 3 => 3 | 9 => 9 | 2 => 2 | 4 => 4 | 171 => 277 | 0 => 0 | 53 => 278 | 37 => 168 | 5 => 5 | 173 => 281 | 212 => 348 | 51 => 327 | 20 => 20 | 213 => 349 | 46 => 204 | 232 => 407 | 233 => 408 | n => n, fun | 17 => 0 | 18 => 2 | 19 => 3 | n => n⟩
theorem Tryz.laysM171 : Go.Proofs.LaysM.n171 Tryz.prog Tryz.laysM171_ren := {
  mixed := by kernel_rfl
  f129 := Tryz.func253.trans (congrArg some (by kernel_rfl))
  f171 := Tryz.func36.trans (congrArg some (by kernel_rfl))
  f243 := Tryz.func77.trans (congrArg some (by kernel_rfl))
  f246 := Tryz.func149.trans (congrArg some (by kernel_rfl))
  f283 := Tryz.func206.trans (congrArg some (by kernel_rfl))
  f284 := Tryz.func207.trans (congrArg some (by kernel_rfl))
  f285 := Tryz.func208.trans (congrArg some (by kernel_rfl))
  f286 := Tryz.func209.trans (congrArg some (by kernel_rfl))
  f317 := Tryz.func269.trans (congrArg some (by kernel_rfl))
  f318 := Tryz.func270.trans (congrArg some (by kernel_rfl))
  f319 := Tryz.func271.trans (congrArg some (by kernel_rfl))
  f320 := Tryz.func272.trans (congrArg some (by kernel_rfl))
  f337 := Tryz.func316.trans (congrArg some (by kernel_rfl))
  f338 := Tryz.func317.trans (congrArg some (by kernel_rfl))
  t0 := Tryz.underlying0
  a0 := Tryz.isAgg0
  z0 := Tryz.sizeOf0
  v0 := Tryz.zeroValue0
  t2 := Tryz.underlying2
  a2 := Tryz.isAgg2
  z2 := Tryz.sizeOf2
  v2 := Tryz.zeroValue2
  t3 := Tryz.underlying3
  a3 := Tryz.isAgg3
  z3 := Tryz.sizeOf3
  v3 := Tryz.zeroValue3
  t4 := Tryz.underlying4
  a4 := Tryz.isAgg4
  z4 := Tryz.sizeOf4
  v4 := Tryz.zeroValue4
  t5 := Tryz.underlying5
  a5 := Tryz.isAgg5
  z5 := Tryz.sizeOf5
  v5 := Tryz.zeroValue5
  t9 := Tryz.underlying9
  a9 := Tryz.isAgg9
  z9 := Tryz.sizeOf9
  v9 := Tryz.zeroValue9
  t20 := Tryz.underlying20
  a20 := Tryz.isAgg20
  z20 := Tryz.sizeOf20
  v20 := Tryz.zeroValue20
  t37 := Tryz.underlying168
  a37 := Tryz.isAgg168
  z37 := Tryz.sizeOf168
  v37 := Tryz.zeroValue168
  t46 := Tryz.underlying204
  a46 := Tryz.isAgg204
  z46 := Tryz.sizeOf204
  v46 := Tryz.zeroValue204
  t51 := Tryz.underlying327
  a51 := Tryz.isAgg327
  z51 := Tryz.sizeOf327
  v51 := Tryz.zeroValue327
  t53 := Tryz.underlying278
  a53 := Tryz.isAgg278
  z53 := Tryz.sizeOf278
  v53 := Tryz.zeroValue278
  t171 := Tryz.underlying277
  a171 := Tryz.isAgg277
  z171 := Tryz.sizeOf277
  v171 := Tryz.zeroValue277
  t173 := Tryz.underlying281
  a173 := Tryz.isAgg281
  z173 := Tryz.sizeOf281
  v173 := Tryz.zeroValue281
  t212 := Tryz.underlying348
  a212 := Tryz.isAgg348
  z212 := Tryz.sizeOf348
  v212 := Tryz.zeroValue348
  t213 := Tryz.underlying349
  a213 := Tryz.isAgg349
  z213 := Tryz.sizeOf349
  t232 := Tryz.underlying407
  a232 := Tryz.isAgg407
  z232 := Tryz.sizeOf407
  v232 := Tryz.zeroValue407
  t233 := Tryz.underlying408
  a233 := Tryz.isAgg408
  z233 := Tryz.sizeOf408
  v233 := Tryz.zeroValue408
  g17 := by kernel_rfl
  g18 := by kernel_rfl
  g19 := by kernel_rfl
  i0 := by kernel_rfl
  i2 := by kernel_rfl
  i3 := by kernel_rfl
  i4 := by kernel_rfl
  i5 := by kernel_rfl
  i9 := by kernel_rfl
  i20 := by kernel_rfl
  i37 := by kernel_rfl
  i46 := by kernel_rfl
  i51 := by kernel_rfl
  i53 := by kernel_rfl
  i171 := by kernel_rfl
  i173 := by kernel_rfl
  i212 := by kernel_rfl
  i232 := by kernel_rfl
  i233 := by kernel_rfl
  m17 := by kernel_rfl
  m18 := by kernel_rfl
  m19 := by kernel_rfl }
open Go.RowKit Go.Sort Go.Lib in
theorem Tryz.strconv_Itoa (n : Int) (h0 : -9223372036854775808 ≤ n) (h1 : n ≤ 9223372036854775807) (w : World) (htab : Lib.TabIs Tryz.prog w "internal/strconv.uint64pow10" .u64 Lib.pow10Tab) :
    Calls Tryz.prog 36 #[.int .i64 n] w fun e w' => e = .returned (.string ⟨(Lib.itoa n).toArray⟩) ∧ ∃ k os, w' = grow (w.drewN k) os := Any.strconv_Itoa Tryz.laysM171 n h0 h1 w htab
end Go.Proofs

/- The program's reader of queries, as plain functions on a list of tokens: each does, to the letter, what the program's function does, also behind a failure. No program in this text. -/
namespace Go.Proofs.YtobgbmfpicmpcaaGreatDoor
def failP:RS:=⟨[],true⟩
def peekP (s:ByteArray) (st:RS):Bool:=
 match st.rest with
 | []=>false
 | t::_=>eqB t.text s
def acceptP (s:ByteArray) (st:RS):RS:=if peekP s st then ⟨st.rest.tail,st.bad⟩ else st
def expectP (s:ByteArray) (st:RS):RS:=if peekP s st then acceptP s st else failP
def kindW (s:ByteArray):Int:=if isName s then 1 else if isTitle s then 2 else 3
def kindP (t:Tok):Int:=if t.kind=2 then 4 else if t.kind=3 then 5 else if t.kind=1 then kindW t.text else 0
def seesP (k:Int) (st:RS):Bool:=
 match st.rest with
 | []=>false
 | t::_=>decide (kindP t=k)
def takeP (k:Int) (st:RS):Tok × RS:=if seesP k st then (st.rest.headD tok0,⟨st.rest.tail,st.bad⟩) else (tok0,failP)
def nameP (st:RS):ByteArray × RS:=((takeP 1 st).1.text,(takeP 1 st).2)
def titleP (st:RS):ByteArray × RS:=((takeP 2 st).1.text,(takeP 2 st).2)
def numberP (lo hi:Int) (st:RS):Int × RS:=((takeP 4 st).1.val,if (takeP 4 st).1.val<lo∨hi<(takeP 4 st).1.val then failP else (takeP 4 st).2)
def listLoop {α:Type} (one:RS→α × RS) (sep:ByteArray):Nat→List α→RS→List α × RS
 | 0,out,st=>(out,st)
 | n+1,out,st=>if peekP sep st then listLoop one sep n (out++[(one (acceptP sep st)).1]) (one (acceptP sep st)).2 else (out,st)
def listP {α:Type} (one:RS→α × RS) (sep:ByteArray) (most:Nat) (st:RS):List α × RS:=
 let l:=listLoop one sep (one st).2.rest.length [(one st).1] (one st).2
 (l.1,if most<l.1.length then failP else l.2)
def spotP (x:PSpot) (st:RS):PSpot × RS:=
 let n:=nameP (expectP mOpen st)
 let l:=if peekP mColon n.2 then titleP (acceptP mColon n.2) else (x.label,n.2)
 (⟨n.1,l.1,x.type,x.least,x.most⟩,expectP mClose l.2)
def starP (st:RS):(Int × Int) × RS:=
 if peekP mStar st then
  let a:=numberP 0 4 (acceptP mStar st)
  let b:=numberP a.1 4 (expectP mDots a.2)
  ((a.1,b.1),b.2)
 else ((1,1),st)
def stepP (st:RS):PSpot × RS:=
 let t:=titleP st
 let s:=starP t.2
 (⟨e0,e0,t.1,s.1.1,s.1.2⟩,expectP mArrow s.2)
def hopP (st:RS):PSpot × RS:=spotP (stepP st).1 (stepP st).2
def spotsLoop:Nat→List PSpot→RS→List PSpot × RS
 | 0,out,st=>(out,st)
 | n+1,out,st=>
  if peekP mComma st then spotsLoop n (out++[(spotP spot0 (acceptP mComma st)).1]) (spotP spot0 (acceptP mComma st)).2
  else if peekP mTo st then spotsLoop n (out++[(hopP (acceptP mTo st)).1]) (hopP (acceptP mTo st)).2
  else (out,st)
def spotsP (st:RS):List PSpot × RS:=
 let l:=spotsLoop (spotP spot0 st).2.rest.length [(spotP spot0 st).1] (spotP spot0 st).2
 (l.1,if 6<l.1.length then failP else l.2)
def propP (st:RS):(ByteArray × ByteArray) × RS:=
 let n:=nameP st
 let k:=nameP (expectP mDot n.2)
 ((n.1,k.1),k.2)
def termP (st:RS):PTerm × RS:=
 if seesP 4 st then
  let v:=numberP (-1000000000) 1000000000 st
  (⟨e0,e0,v.1⟩,v.2)
 else
  let p:=propP st
  (⟨p.1.1,p.1.2,0⟩,p.2)
def opLoopP:List ByteArray→Int→RS→Int × RS
 | [],_,_=>(0,failP)
 | m::r,i,st=>if peekP m st then (i,acceptP m st) else opLoopP r (i+1) st
def condP (st:RS):PCond × RS:=
 let a:=termP st
 if peekP kIS a.2 then
  let s:=acceptP kIS a.2
  (⟨if peekP kNOT s then 8 else 7,a.1,term0⟩,expectP kNULL (acceptP kNOT s))
 else
  let o:=opLoopP opsR 1 a.2
  let b:=termP o.2
  (⟨o.1,a.1,b.1⟩,b.2)
def itemP (st:RS):PItem × RS:=
 if peekP kCOUNT st then (⟨e0,e0⟩,acceptP kCOUNT st)
 else
  let n:=nameP st
  if peekP mDot n.2 then
   let k:=nameP (acceptP mDot n.2)
   (⟨n.1,k.1⟩,k.2)
  else (⟨n.1,e0⟩,n.2)
def pairP (st:RS):PPair × RS:=
 let k:=nameP st
 let v:=numberP (-1000000000) 1000000000 (expectP mColon k.2)
 (⟨k.1,v.1⟩,v.2)
def twiceP:List PPair→List PPair→Bool
 | _,[]=>false
 | pre,x::r=>(pre.any fun y=>eqB y.key x.key) || twiceP (pre++[x]) r
def creationP (st:RS):(ByteArray × List PPair) × RS:=
 let t:=titleP (expectP mOpen st)
 let p:=if peekP mBrace t.2 then listP pairP mComma 6 (acceptP mBrace t.2) else ([],t.2)
 let u:=if peekP mBrace t.2 then expectP mUnbrace p.2 else p.2
 ((t.1,p.1),if twiceP [] p.1 then failP else expectP mClose u)
def orderP (k:Int) (st:RS):(Int × Bool) × RS:=
 if peekP kORDER st then
  let o:=numberP 1 k (expectP kBY (acceptP kORDER st))
  ((o.1,peekP kDESC o.2),acceptP kDESC o.2)
 else ((0,false),st)
def partP (word:ByteArray) (none:Int) (st:RS):Int × RS:=
 if peekP word st then numberP 0 1000000000 (acceptP word st) else (none,st)
def readP (st:RS):PItems × RS:=
 let x:=listP itemP mComma 6 st
 let o:=orderP x.1.length x.2
 let s:=partP kSKIP 0 o.2
 let l:=partP kLIMIT (-1) s.2
 (⟨x.1,o.1.1,o.1.2,s.1,l.1⟩,l.2)
def linkP (st:RS):(ByteArray × ByteArray × ByteArray) × RS:=
 let n:=nameP (expectP mOpen st)
 let t:=titleP (expectP mTo (expectP mClose n.2))
 let o:=nameP (expectP mOpen (expectP mArrow t.2))
 ((n.1,t.1,o.1),expectP mClose o.2)
def setP (st:RS):(ByteArray × ByteArray × PTerm) × RS:=
 let p:=propP st
 let v:=termP (expectP mEq p.2)
 ((p.1.1,p.1.2,v.1),v.2)
def actionP (q:PQuery) (st:RS):PQuery × RS:=
 if peekP kRETURN st then
  let x:=readP (acceptP kRETURN st)
  ({q with kind:=1,items:=x.1.items,order:=x.1.order,down:=x.1.down,skip:=x.1.skip,limit:=x.1.limit},x.2)
 else if peekP kSET st then
  let x:=setP (acceptP kSET st)
  ({q with kind:=2,name:=x.1.1,key:=x.1.2.1,value:=x.1.2.2},x.2)
 else if peekP kDELETE st then
  let x:=nameP (acceptP kDELETE st)
  ({q with kind:=3,name:=x.1},x.2)
 else if peekP kCREATE st then
  let x:=linkP (acceptP kCREATE st)
  ({q with kind:=4,name:=x.1.1,type:=x.1.2.1,«to»:=x.1.2.2},x.2)
 else (q,failP)
def whereP (st:RS):List PCond × RS:=if peekP kWHERE st then listP condP kAND 6 (acceptP kWHERE st) else ([],st)
def queryP (st:RS):PQuery × RS:=
 if peekP kCALL st then
  let x:=nameP (acceptP kCALL st)
  ({query0 with kind:=6,name:=x.1},x.2)
 else if peekP kCREATE st then
  let x:=creationP (acceptP kCREATE st)
  ({query0 with kind:=5,label:=x.1.1,pairs:=x.1.2},x.2)
 else
  let s:=spotsP (expectP kMATCH st)
  let c:=whereP s.2
  actionP {query0 with spots:=s.1,conds:=c.1} c.2
def usedP (q:PQuery):List ByteArray:=
 (q.conds.flatMap fun c=>[c.a.name,c.b.name])++q.items.map (fun x=>x.name)++(if q.kind≠6 then [q.name,q.to] else [])
def inScopeP (q:PQuery):Bool:=
 ((usedP q).all fun n=>n.toList.isEmpty || boundR q.spots n)&&(decide (q.kind≠2) || q.value.name.toList.isEmpty || eqB q.value.name q.name)
def parseP (ts:List Tok):PQuery × Int:=
 let x:=queryP ⟨ts,false⟩
 if x.2.bad || !x.2.rest.isEmpty then (query0,3)
 else if inScopeP x.1 then (x.1,0) else (query0,4)
end Go.Proofs.YtobgbmfpicmpcaaGreatDoor

