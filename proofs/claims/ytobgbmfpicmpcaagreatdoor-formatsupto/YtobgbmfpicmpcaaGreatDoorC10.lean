/- The reference's reader: what stands behind RETURN. -/
import Derived.Test.YtobgbmfpicmpcaaGreatDoorC05
import Derived.Lib.QuietBelow
namespace Go.Proofs.YtobgbmfpicmpcaaGreatDoor
open Go.RowKit
theorem itemLoop_bad {n:Nat} {out:List PItem} {st:RS} (h:st.bad=true):itemLoop n out st=(out,st):=by
 cases n with
 | zero=>rfl
 | succ n=>simp only[itemLoop];rw[h];rfl
theorem itemLoop_more {n:Nat} {out:List PItem} {l:PItem} {st s2:RS} (h:st.bad=false) (hp:itemR st=(l,s2)) (hb:s2.bad=false) (hc:peekR mComma s2=true):itemLoop (n+1) out st=itemLoop n (out++[l]) (hasR mComma s2):=by
 simp only[itemLoop];rw[h,hp];simp only[hb,hc];rfl
theorem itemLoop_last {n:Nat} {out:List PItem} {l:PItem} {st s2:RS} (h:st.bad=false) (hp:itemR st=(l,s2)) (hc:s2.bad=true∨peekR mComma s2=false):itemLoop (n+1) out st=(out++[l],s2):=by
 simp only[itemLoop];rw[h,hp]
 rcases hc with hc|hc
 ·simp[hc]
 ·simp[hc]
theorem itemR_len (st:RS):(itemR st).2.rest.length≤st.rest.length:=by
 unfold itemR
 have h1:=nameR_len st
 split
 ·exact hasR_len _ _
 ·simp only
  split
  ·have h2:=nameR_len (hasR mDot (nameR st).2)
   have h3:=hasR_len mDot (nameR st).2
   simp only
   omega
  ·exact h1
set_option maxRecDepth 100000 in
set_option maxHeartbeats 9000000 in
theorem items {b x:Nat} {lv vs vc:Value} {sp:List PSpot} {cd:List PCond} {ts:List Tok} {st:RS} {W0 W:World} (h:QAt W0 b lv ts st x (qC {query0 with kind:=1} vs vc (.slice none 0 0) (.slice none 0 0)) ⟨vs,sp,vc,cd,(.slice none 0 0),[],(.slice none 0 0),[]⟩ W):
  Calls Tryz.prog 90 #[.pointer (some ⟨b,0,none⟩),.pointer (some ⟨x,0,none⟩)] W fun e W'=>e=.returned (.tuple #[])∧∃vi,QAt W0 b lv ts (itemsR st).2 x (qC {query0 with kind:=1,order:=(itemsR st).1.order,down:=(itemsR st).1.down,skip:=(itemsR st).1.skip,limit:=(itemsR st).1.limit} vs vc vi (.slice none 0 0)) ⟨vs,sp,vc,cd,vi,(itemsR st).1.items,(.slice none 0 0),[]⟩ W':=by
 obtain⟨i1,hj,hy0,hy1,hy2⟩:=info_parts Tryz.infoItem
 have HI:=Lib.hid h
 have hlen:=h.ri.len
 have hrl:st.rest.length≤ts.length:=by obtain⟨_,_,_,_,_,_,_,e,_⟩:=h.ri.seen;exact e
 clear h
 go_enter Tryz.func90,Tryz.ntmps90
 go_upto_block 0 with fail
 go_cut [4,5,6,7] (fun _ _ _ _ w=>∃vi it s',QAt W0 b lv ts s' x (qC {query0 with kind:=1} vs vc vi (.slice none 0 0)) ⟨vs,sp,vc,cd,vi,it,(.slice none 0 0),[]⟩ w∧itemLoop (st.rest.length+1) [] st=(it,s')∧it.length+s'.rest.length≤2002)
 case first=>
  go_wp2_with fail
  go_loopg [4] (st.rest.length+1) (fun n more w=>∃vi it s' m,more=.bool m∧QAt W0 b lv ts s' x (qC {query0 with kind:=1} vs vc vi (.slice none 0 0)) ⟨vs,sp,vc,cd,vi,it,(.slice none 0 0),[]⟩ w∧(m=true→itemLoop (st.rest.length+1) [] st=itemLoop n it s'∧s'.rest.length+1≤n∧it.length+s'.rest.length≤2001)∧(m=false→itemLoop (st.rest.length+1) [] st=(it,s')∧it.length+s'.rest.length≤2002))
  case atStart=>exact⟨_,[],_,true,rfl,HI.out,fun _=>⟨rfl,by omega,by simp;omega⟩,fun h=>by cases h⟩
  case round=>
   obtain⟨vi,it,s',m,rfl,hq,hT,hF⟩:=hrel
   have HQ:=Lib.hid hq
   have q2:=hq.ri.box.at_ 2 (.bool s'.bad) rfl
   clear hq HI
   cases m with
   | false=>
    obtain⟨e1,e2⟩:=hF rfl
    have E1:=Lib.hid e1
    clear e1 hT hF
    go_wp2_with fail
    go_meet
    case rel=>exact⟨vi,it,s',HQ.out,E1.out,e2⟩
   | true=>
    obtain⟨e1,e2,e3⟩:=hT rfl
    have E1:=Lib.hid e1
    clear e1 hT hF
    cases hb:s'.bad with
    | true=>
     have HB:=Lib.hid hb
     rw[hb] at q2
     clear hb
     go_wp2_with fail
     go_meet
     case rel=>exact⟨vi,it,s',HQ.out,by rw[E1.out];exact itemLoop_bad HB.out,by omega⟩
    | false=>
     have HB:=Lib.hid hb
     rw[hb] at q2
     clear hb
     obtain⟨n,hn⟩:∃n,gk=n+1:=⟨gk - 1,by omega⟩
     subst hn
     go_upto_block 1 with fail
     go_cut [5,6,7] (fun _ _ _ w=>∃v i s2,QAt W0 b lv ts s2 x (qC {query0 with kind:=1} vs vc v (.slice none 0 0)) ⟨vs,sp,vc,cd,v,(it++[i]),(.slice none 0 0),[]⟩ w∧itemR s'=(i,s2))
     case first=>
      clear q2
      cases hk:peekR kCOUNT s' with
      | true=>
       have HK:=Lib.hid hk
       obtain⟨s2,hs2⟩:∃s2,s2=hasR kCOUNT s':=⟨_,rfl⟩
       have HIT:Hid (itemR s'=(⟨⟨#[]⟩,⟨#[]⟩⟩,s2)):=by show _=_;unfold itemR;rw[hk,hs2];rfl
       clear hk
       go_wp2_with fail
       refine(has HQ.out.ri kCOUNT true HK.out).mono ?_
       rintro e W3 ⟨rfl,h3,g3⟩
       rw[←hs2] at h3
       clear hs2
       have HY:=Lib.hid ((HQ.out.call h3 g3).more #[.string ⟨#[]⟩,.string ⟨#[]⟩] 89)
       clear h3 g3
       go_upto_region 10 with fail
       obtain⟨Y,hY⟩:∃Y,Y=W3.heap.size:=⟨_,rfl⟩
       rw[←hY] at HY⊢
       clear hY
       generalize W3.alloc (.cells #[.string ⟨#[]⟩,.string ⟨#[]⟩] 89)=W4 at HY⊢
       have y0:=HY.out.ly.at_ 0 (.string ⟨#[]⟩) rfl
       have y1:=HY.out.ly.at_ 1 (.string ⟨#[]⟩) rfl
       have x3:=HY.out.q.lq.at_ 3 vi rfl
       have fx3:W4.frozen? ⟨x,3,none⟩=false:=HY.out.q.lq.free 3
       have HD:Hid (QAt W0 b lv ts s2 x (qC {query0 with kind:=1} vs vc vi (.slice none 0 0)) ⟨vs,sp,vc,cd,vi,it,(.slice none 0 0),[]⟩ ((W4.alloc (.cells #[.string ⟨#[]⟩,.string ⟨#[]⟩] 89)).drew)):=(HY.out.q.alloc _).drew 1
       have xa3:(W4.alloc (.cells #[.string ⟨#[]⟩,.string ⟨#[]⟩] 89)).cell? ⟨x,3,none⟩=some vi:=(HD.out.lq.cell 3).trans rfl
       clear HY
       go_region_law (refine step_append_lies _ rfl _ _ 24 rfl W0.heap.size 89 i1 (.agg #[.string ⟨#[]⟩,.string ⟨#[]⟩]) 2 32 Tryz.underlying24 hj hy0 hy1 hy2 rfl (by decide) vi _ _ (by simp[Act.eval]) HD.out.rt ⟨W4.heap.size,0,none⟩ 1 1 [.string ⟨#[]⟩,.string ⟨#[]⟩] (by simp[Act.eval]) rfl (World.news_of_block (heap_alloc_new W4 _)) two_one (by omega) (by unfold maxLen;simp only;omega) (by simp only;omega) HD.out.grown.size _ rfl ?_;intro g2 cap2 w5 hown hgrow _ _;have H5a:=HD.out.items (l:=[⟨⟨#[]⟩,⟨#[]⟩⟩]) hgrow (by rw[itemCells_snoc,List.length_append];exact hown);have c5:w5.cell? ⟨x,3,none⟩=some vi:=(H5a.lq.cell 3).trans rfl;have f5:w5.frozen? ⟨x,3,none⟩=false:=H5a.lq.free 3;have H5:=Lib.hid (H5a.set 3 (.slice (some ⟨g2,0,none⟩) (it.length+1) cap2));clear H5a hown hgrow)
       all_goals
        go_wp2_with fail
        go_meet
        case rel=>exact⟨_,⟨⟨#[]⟩,⟨#[]⟩⟩,s2,H5.out,HIT.out⟩
      | false=>
       have HK:=Lib.hid hk
       obtain⟨nm,s3,hnm⟩:∃nm s3,nameR s'=(nm,s3):=⟨_,_,rfl⟩
       have HNM:=Lib.hid hnm
       clear hnm hk
       go_wp2_with fail
       refine(has HQ.out.ri kCOUNT false HK.out).mono ?_
       rintro e W3 ⟨rfl,h3,g3⟩
       rw[hasR_not HK.out] at h3
       have H3:=Lib.hid ((HQ.out.call h3 g3).more #[.string ⟨#[]⟩,.string ⟨#[]⟩] 89)
       clear h3 g3
       go_wp2_with fail
       obtain⟨Y,hY⟩:∃Y,Y=W3.heap.size:=⟨_,rfl⟩
       rw[←hY] at H3⊢
       clear hY
       generalize W3.alloc (.cells #[.string ⟨#[]⟩,.string ⟨#[]⟩] 89)=W4 at H3⊢
       refine(nameIs H3.out.q.ri HNM.out).mono ?_
       rintro e W5 ⟨rfl,h5,g5⟩
       have H5a:=H3.out.call h5 g5
       have c0:=H5a.ly.at_ 0 (.string ⟨#[]⟩) rfl
       have f0:W5.frozen? ⟨Y,0,none⟩=false:=H5a.ly.free 0
       have H6:=Lib.hid (H5a.setY 0 (.string nm))
       clear h5 g5 H5a
       go_upto_region 7 with fail
       generalize W5.setCell ⟨Y,0,none⟩ (.string nm)=W6 at H6⊢
       clear c0 f0 H3 HQ
       have q6:=H6.out.q.ri.box.at_ 2 (.bool s3.bad) rfl
       cases hb3:s3.bad with
       | true=>
        obtain⟨s2,hs2⟩:∃s2,s2=s3:=⟨_,rfl⟩
        have HIT:Hid (itemR s'=(⟨nm,⟨#[]⟩⟩,s2)):=by show _=_;unfold itemR;rw[HK.out];simp only[HNM.out,hb3];rw[hs2];rfl
        rw[hb3] at q6
        have HY:Hid (QY W0 b lv ts s2 x (qC {query0 with kind:=1} vs vc vi (.slice none 0 0)) ⟨vs,sp,vc,cd,vi,it,(.slice none 0 0),[]⟩ Y #[.string nm,.string ⟨#[]⟩] 89 W6):=by rw[hs2];exact H6.out
        clear hb3 hs2 H6
        go_upto_region 10 with fail
        clear q6
        have y0:=HY.out.ly.at_ 0 (.string nm) rfl
        have y1:=HY.out.ly.at_ 1 (.string ⟨#[]⟩) rfl
        have x3:=HY.out.q.lq.at_ 3 vi rfl
        have fx3:W6.frozen? ⟨x,3,none⟩=false:=HY.out.q.lq.free 3
        have HD:Hid (QAt W0 b lv ts s2 x (qC {query0 with kind:=1} vs vc vi (.slice none 0 0)) ⟨vs,sp,vc,cd,vi,it,(.slice none 0 0),[]⟩ ((W6.alloc (.cells #[.string nm,.string ⟨#[]⟩] 89)).drew)):=(HY.out.q.alloc _).drew 1
        have xa3:(W6.alloc (.cells #[.string nm,.string ⟨#[]⟩] 89)).cell? ⟨x,3,none⟩=some vi:=(HD.out.lq.cell 3).trans rfl
        clear HY
        go_region_law (refine step_append_lies _ rfl _ _ 24 rfl W0.heap.size 89 i1 (.agg #[.string ⟨#[]⟩,.string ⟨#[]⟩]) 2 32 Tryz.underlying24 hj hy0 hy1 hy2 rfl (by decide) vi _ _ (by simp[Act.eval]) HD.out.rt ⟨W6.heap.size,0,none⟩ 1 1 [.string nm,.string ⟨#[]⟩] (by simp[Act.eval]) rfl (World.news_of_block (heap_alloc_new W6 _)) two_one (by omega) (by unfold maxLen;simp only;omega) (by simp only;omega) HD.out.grown.size _ rfl ?_;intro g2 cap2 w5 hown hgrow _ _;have H5a:=HD.out.items (l:=[⟨nm,⟨#[]⟩⟩]) hgrow (by rw[itemCells_snoc,List.length_append];exact hown);have c5:w5.cell? ⟨x,3,none⟩=some vi:=(H5a.lq.cell 3).trans rfl;have f5:w5.frozen? ⟨x,3,none⟩=false:=H5a.lq.free 3;have H5:=Lib.hid (H5a.set 3 (.slice (some ⟨g2,0,none⟩) (it.length+1) cap2));clear H5a hown hgrow)
        all_goals
         go_wp2_with fail
         go_meet
         case rel=>exact⟨_,⟨nm,⟨#[]⟩⟩,s2,H5.out,HIT.out⟩
       | false=>
        rw[hb3] at q6
        cases hd:peekR mDot s3 with
        | false=>
         have HDT:=Lib.hid hd
         obtain⟨s2,hs2⟩:∃s2,s2=s3:=⟨_,rfl⟩
         have HIT:Hid (itemR s'=(⟨nm,⟨#[]⟩⟩,s2)):=by show _=_;unfold itemR;rw[HK.out];simp only[HNM.out,hb3,hd];rw[hs2];rfl
         clear hb3 hd
         go_wp2_with fail
         refine(has H6.out.q.ri mDot false HDT.out).mono ?_
         rintro e W7 ⟨rfl,h7,g7⟩
         rw[hasR_not HDT.out,←hs2] at h7
         have HY:Hid (QY W0 b lv ts s2 x (qC {query0 with kind:=1} vs vc vi (.slice none 0 0)) ⟨vs,sp,vc,cd,vi,it,(.slice none 0 0),[]⟩ Y #[.string nm,.string ⟨#[]⟩] 89 W7):=H6.out.call h7 g7
         clear h7 g7 hs2 H6 q6
         go_upto_region 10 with fail
         have y0:=HY.out.ly.at_ 0 (.string nm) rfl
         have y1:=HY.out.ly.at_ 1 (.string ⟨#[]⟩) rfl
         have x3:=HY.out.q.lq.at_ 3 vi rfl
         have fx3:W7.frozen? ⟨x,3,none⟩=false:=HY.out.q.lq.free 3
         have HD:Hid (QAt W0 b lv ts s2 x (qC {query0 with kind:=1} vs vc vi (.slice none 0 0)) ⟨vs,sp,vc,cd,vi,it,(.slice none 0 0),[]⟩ ((W7.alloc (.cells #[.string nm,.string ⟨#[]⟩] 89)).drew)):=(HY.out.q.alloc _).drew 1
         have xa3:(W7.alloc (.cells #[.string nm,.string ⟨#[]⟩] 89)).cell? ⟨x,3,none⟩=some vi:=(HD.out.lq.cell 3).trans rfl
         clear HY
         go_region_law (refine step_append_lies _ rfl _ _ 24 rfl W0.heap.size 89 i1 (.agg #[.string ⟨#[]⟩,.string ⟨#[]⟩]) 2 32 Tryz.underlying24 hj hy0 hy1 hy2 rfl (by decide) vi _ _ (by simp[Act.eval]) HD.out.rt ⟨W7.heap.size,0,none⟩ 1 1 [.string nm,.string ⟨#[]⟩] (by simp[Act.eval]) rfl (World.news_of_block (heap_alloc_new W7 _)) two_one (by omega) (by unfold maxLen;simp only;omega) (by simp only;omega) HD.out.grown.size _ rfl ?_;intro g2 cap2 w5 hown hgrow _ _;have H5a:=HD.out.items (l:=[⟨nm,⟨#[]⟩⟩]) hgrow (by rw[itemCells_snoc,List.length_append];exact hown);have c5:w5.cell? ⟨x,3,none⟩=some vi:=(H5a.lq.cell 3).trans rfl;have f5:w5.frozen? ⟨x,3,none⟩=false:=H5a.lq.free 3;have H5:=Lib.hid (H5a.set 3 (.slice (some ⟨g2,0,none⟩) (it.length+1) cap2));clear H5a hown hgrow)
         all_goals
          go_wp2_with fail
          go_meet
          case rel=>exact⟨_,⟨nm,⟨#[]⟩⟩,s2,H5.out,HIT.out⟩
        | true=>
         have HDT:=Lib.hid hd
         obtain⟨ky,s2,hky⟩:∃ky s2,nameR (hasR mDot s3)=(ky,s2):=⟨_,_,rfl⟩
         have HKY:=Lib.hid hky
         have HIT:Hid (itemR s'=(⟨nm,ky⟩,s2)):=by show _=_;unfold itemR;rw[HK.out];simp only[HNM.out,hb3,hd,hky];rfl
         clear hb3 hd hky
         go_wp2_with fail
         refine(has H6.out.q.ri mDot true HDT.out).mono ?_
         rintro e W7 ⟨rfl,h7,g7⟩
         have H7:=Lib.hid (H6.out.call h7 g7)
         clear h7 g7 H6 q6
         go_wp2_with fail
         refine(nameIs H7.out.q.ri HKY.out).mono ?_
         rintro e W8 ⟨rfl,h8,g8⟩
         have H8a:=H7.out.call h8 g8
         have c1:=H8a.ly.at_ 1 (.string ⟨#[]⟩) rfl
         have f1:W8.frozen? ⟨Y,1,none⟩=false:=H8a.ly.free 1
         have H9:=Lib.hid (H8a.setY 1 (.string ky))
         clear h8 g8 H8a
         go_upto_region 10 with fail
         generalize W8.setCell ⟨Y,1,none⟩ (.string ky)=W9 at H9⊢
         clear c1 f1 H7
         have HY:Hid (QY W0 b lv ts s2 x (qC {query0 with kind:=1} vs vc vi (.slice none 0 0)) ⟨vs,sp,vc,cd,vi,it,(.slice none 0 0),[]⟩ Y #[.string nm,.string ky] 89 W9):=H9.out
         clear H9
         have y0:=HY.out.ly.at_ 0 (.string nm) rfl
         have y1:=HY.out.ly.at_ 1 (.string ky) rfl
         have x3:=HY.out.q.lq.at_ 3 vi rfl
         have fx3:W9.frozen? ⟨x,3,none⟩=false:=HY.out.q.lq.free 3
         have HD:Hid (QAt W0 b lv ts s2 x (qC {query0 with kind:=1} vs vc vi (.slice none 0 0)) ⟨vs,sp,vc,cd,vi,it,(.slice none 0 0),[]⟩ ((W9.alloc (.cells #[.string nm,.string ky] 89)).drew)):=(HY.out.q.alloc _).drew 1
         have xa3:(W9.alloc (.cells #[.string nm,.string ky] 89)).cell? ⟨x,3,none⟩=some vi:=(HD.out.lq.cell 3).trans rfl
         clear HY
         go_region_law (refine step_append_lies _ rfl _ _ 24 rfl W0.heap.size 89 i1 (.agg #[.string ⟨#[]⟩,.string ⟨#[]⟩]) 2 32 Tryz.underlying24 hj hy0 hy1 hy2 rfl (by decide) vi _ _ (by simp[Act.eval]) HD.out.rt ⟨W9.heap.size,0,none⟩ 1 1 [.string nm,.string ky] (by simp[Act.eval]) rfl (World.news_of_block (heap_alloc_new W9 _)) two_one (by omega) (by unfold maxLen;simp only;omega) (by simp only;omega) HD.out.grown.size _ rfl ?_;intro g2 cap2 w5 hown hgrow _ _;have H5a:=HD.out.items (l:=[⟨nm,ky⟩]) hgrow (by rw[itemCells_snoc,List.length_append];exact hown);have c5:w5.cell? ⟨x,3,none⟩=some vi:=(H5a.lq.cell 3).trans rfl;have f5:w5.frozen? ⟨x,3,none⟩=false:=H5a.lq.free 3;have H5:=Lib.hid (H5a.set 3 (.slice (some ⟨g2,0,none⟩) (it.length+1) cap2));clear H5a hown hgrow)
         all_goals
          go_wp2_with fail
          go_meet
          case rel=>exact⟨_,⟨nm,ky⟩,s2,H5.out,HIT.out⟩
     case rest=>
      obtain⟨v,i,s2,hq2,hit⟩:=hcut
      have H6:=Lib.hid hq2
      have HIT:=Lib.hid hit
      have q6:=hq2.ri.box.at_ 2 (.bool s2.bad) rfl
      have hil:=itemR_len s'
      rw[hit] at hil
      clear hq2 hit HQ q2
      have hol:(it++[i]).length=it.length+1:=by simp
      cases hb2:s2.bad with
      | true=>
       have HB2:=Lib.hid hb2
       rw[hb2] at q6
       clear hb2
       go_wp2_with fail
       go_roundg n
       case measure=>omega
       case rel=>exact⟨_,it++[i],s2,false,rfl,H6.out,fun h=>(by cases h),fun _=>⟨by rw[E1.out];exact itemLoop_last HB.out HIT.out (Or.inl HB2.out),by omega⟩⟩
      | false=>
       have HB2:=Lib.hid hb2
       rw[hb2] at q6
       clear hb2
       cases ha:peekR mComma s2 with
       | false=>
        have HAN:=Lib.hid ha
        clear ha
        go_wp2_with fail
        refine(has H6.out.ri mComma false HAN.out).mono ?_
        rintro e W7 ⟨rfl,h7,g7⟩
        rw[hasR_not HAN.out] at h7
        have H7:=Lib.hid (H6.out.call h7 g7)
        clear h7 g7 q6
        go_wp2_with fail
        go_roundg n
        case measure=>omega
        case rel=>exact⟨_,it++[i],s2,false,rfl,H7.out,fun h=>(by cases h),fun _=>⟨by rw[E1.out];exact itemLoop_last HB.out HIT.out (Or.inr HAN.out),by omega⟩⟩
       | true=>
        have HAN:=Lib.hid ha
        have hless:=hasR_less ha
        clear ha
        go_wp2_with fail
        refine(has H6.out.ri mComma true HAN.out).mono ?_
        rintro e W7 ⟨rfl,h7,g7⟩
        have H7:=Lib.hid (H6.out.call h7 g7)
        clear h7 g7 q6
        go_wp2_with fail
        go_roundg n
        case measure=>omega
        case rel=>exact⟨_,it++[i],hasR mComma s2,true,rfl,H7.out,fun _=>⟨by rw[E1.out];exact itemLoop_more HB.out HIT.out HB2.out HAN.out,by omega,by omega⟩,fun h=>(by cases h)⟩
 case rest=>
  obtain⟨vi,it,s1,hq,hms,hos⟩:=hcut
  obtain⟨ao,ca,rfl⟩:∃ao ca,vi=.slice ao it.length ca:=by
   rcases hq.rt.2 with ⟨e,e0⟩|⟨g,cap,cur,e,_⟩
   ·exact⟨none,0,(show vi=.slice none 0 0 from e).trans (by rw[show it.length=0 from e0])⟩
   ·exact⟨_,_,e⟩
  obtain⟨vi,hvi⟩:∃vi,vi=Value.slice ao it.length ca:=⟨_,rfl⟩
  rw[←hvi] at hq
  have HVI:=Lib.hid hvi
  clear hvi
  have HMS:=Lib.hid hms
  have c7:=hq.lq.at_ 7 (.int .i64 0) rfl
  have f7:wc.frozen? ⟨x,7,none⟩=false:=hq.lq.free 7
  have HQ:Hid (QAt W0 b lv ts s1 x (qC {query0 with kind:=1,order:=0,down:=false,skip:=0,limit:=-1} vs vc vi (.slice none 0 0)) ⟨vs,sp,vc,cd,vi,it,(.slice none 0 0),[]⟩ (wc.setCell ⟨x,7,none⟩ (.int .i64 (-1)))):=hq.set 7 (.int .i64 (-1))
  clear hq hms HI
  go_upto_region 12 with fail
  generalize wc.setCell ⟨x,7,none⟩ (.int .i64 (-1))=wd at HQ⊢
  clear c7 f7
  go_upto_region 12 with fail
  go_cut [8] (fun v w=>∃m s2,v=.bool m∧QAt W0 b lv ts s2 x (qC {query0 with kind:=1,order:=0,down:=false,skip:=0,limit:=-1} vs vc vi (.slice none 0 0)) ⟨vs,sp,vc,cd,vi,it,(.slice none 0 0),[]⟩ w∧((m=true∧s1.bad=false∧peekR kORDER s1=true∧s2=hasR kORDER s1)∨(m=false∧s2=s1∧(s1.bad=true∨peekR kORDER s1=false))))
  case first=>
   have qb:=HQ.out.ri.box.at_ 2 (.bool s1.bad) rfl
   cases hb:s1.bad with
   | true=>
    have HB:=Lib.hid hb
    rw[hb] at qb
    clear hb
    go_wp2_with fail
    go_meet
    case rel=>exact⟨false,s1,rfl,HQ.out,Or.inr ⟨rfl,rfl,Or.inl HB.out⟩⟩
   | false=>
    have HB:=Lib.hid hb
    rw[hb] at qb
    clear hb
    cases hw:peekR kORDER s1 with
    | false=>
     have HW:=Lib.hid hw
     clear hw
     go_wp2_with fail
     refine(has HQ.out.ri kORDER false HW.out).mono ?_
     rintro e W6 ⟨rfl,h6,g6⟩
     rw[hasR_not HW.out] at h6
     have H6:=Lib.hid (HQ.out.call h6 g6)
     clear h6 g6 qb
     go_wp2_with fail
     go_meet
     case rel=>exact⟨false,s1,rfl,H6.out,Or.inr ⟨rfl,rfl,Or.inr HW.out⟩⟩
    | true=>
     have HW:=Lib.hid hw
     clear hw
     go_wp2_with fail
     refine(has HQ.out.ri kORDER true HW.out).mono ?_
     rintro e W6 ⟨rfl,h6,g6⟩
     have H6:=Lib.hid (HQ.out.call h6 g6)
     clear h6 g6 qb
     go_wp2_with fail
     go_meet
     case rel=>exact⟨true,hasR kORDER s1,rfl,H6.out,Or.inl ⟨rfl,HB.out,HW.out,rfl⟩⟩
  case rest=>
   clear HQ
   obtain⟨m,s2,rfl,hq2,hcase⟩:=hcut
   have H2:=Lib.hid hq2
   have HCASE:=Lib.hid hcase
   clear hq2 hcase
   go_upto_if 70 with fail
   go_cut [] (fun w=>∃s3 o d,QAt W0 b lv ts s3 x (qC {query0 with kind:=1,order:=o,down:=d,skip:=0,limit:=-1} vs vc vi (.slice none 0 0)) ⟨vs,sp,vc,cd,vi,it,(.slice none 0 0),[]⟩ w∧orderR it.length s1=((o,d),s3))
   case first=>
    cases m with
    | false=>
     go_wp2_with fail
     go_meet
     case rel=>
      rcases HCASE.out with ⟨e,_⟩|⟨_,rfl,hc⟩
      ·cases e
      ·exact⟨_,0,false,H2.out,by unfold orderR;rcases hc with hc|hc<;>simp[hc]⟩
    | true=>
     obtain⟨o,s3,ho⟩:∃o s3,countR 1 it.length (mustR kBY s2)=(o,s3):=⟨_,_,rfl⟩
     have HO:=Lib.hid ho
     clear ho
     go_wp2_with fail
     refine(must H2.out.ri kBY).mono ?_
     rintro e W3 ⟨rfl,h3,g3⟩
     have H3a:=H2.out.call h3 g3
     have c3:W3.cell? ⟨x,3,none⟩=some (.slice ao it.length ca):=(H3a.lq.cell 3).trans (by rw[HVI.out];rfl)
     have H3:=Lib.hid H3a
     clear h3 g3 H3a
     go_wp2_with fail
     refine(countIs H3.out.ri HO.out).mono ?_
     rintro e W5 ⟨rfl,h5,g5⟩
     have H5a:=H3.out.call h5 g5
     have c5:=H5a.lq.at_ 4 (.int .i64 0) rfl
     have f5:W5.frozen? ⟨x,4,none⟩=false:=H5a.lq.free 4
     have H5:=Lib.hid (H5a.set 4 (.int .i64 o))
     clear h5 g5 H5a c3
     go_wp2_with fail
     generalize W5.setCell ⟨x,4,none⟩ (.int .i64 o)=W6 at H5⊢
     clear c5 f5
     obtain⟨d,hd⟩:∃d,peekR kDESC s3=d:=⟨_,rfl⟩
     have HDD:=Lib.hid hd
     clear hd
     refine(has H5.out.ri kDESC d HDD.out).mono ?_
     rintro e W7 ⟨rfl,h7,g7⟩
     have H7a:=H5.out.call h7 g7
     have c7:=H7a.lq.at_ 5 (.bool false) rfl
     have f7:W7.frozen? ⟨x,5,none⟩=false:=H7a.lq.free 5
     have H7:=Lib.hid (H7a.set 5 (.bool d))
     clear h7 g7 H7a
     go_wp2_with fail
     go_meet
     case rel=>
      rcases HCASE.out with ⟨_,hb,hp,rfl⟩|⟨e,_⟩
      ·exact⟨_,o,d,H7.out,by unfold orderR;simp only[hb,hp];simp only[Bool.not_false,Bool.and_self,if_true,HO.out,HDD.out]⟩
      ·cases e
   case rest=>
    obtain⟨s4,o,d,hq4,hor⟩:=hcut
    have H4:=Lib.hid hq4
    have HOR:=Lib.hid hor
    clear hq4 hor H2 HCASE
    go_upto_region 17 with fail
    go_cut [9] (fun v w=>∃m s2,v=.bool m∧QAt W0 b lv ts s2 x (qC {query0 with kind:=1,order:=o,down:=d,skip:=0,limit:=-1} vs vc vi (.slice none 0 0)) ⟨vs,sp,vc,cd,vi,it,(.slice none 0 0),[]⟩ w∧((m=true∧s4.bad=false∧peekR kSKIP s4=true∧s2=hasR kSKIP s4)∨(m=false∧s2=s4∧(s4.bad=true∨peekR kSKIP s4=false))))
    case first=>
     have qb:=H4.out.ri.box.at_ 2 (.bool s4.bad) rfl
     cases hb:s4.bad with
     | true=>
      have HB:=Lib.hid hb
      rw[hb] at qb
      clear hb
      go_wp2_with fail
      go_meet
      case rel=>exact⟨false,s4,rfl,H4.out,Or.inr ⟨rfl,rfl,Or.inl HB.out⟩⟩
     | false=>
      have HB:=Lib.hid hb
      rw[hb] at qb
      clear hb
      cases hw:peekR kSKIP s4 with
      | false=>
       have HW:=Lib.hid hw
       clear hw
       go_wp2_with fail
       refine(has H4.out.ri kSKIP false HW.out).mono ?_
       rintro e W6 ⟨rfl,h6,g6⟩
       rw[hasR_not HW.out] at h6
       have H6:=Lib.hid (H4.out.call h6 g6)
       clear h6 g6 qb
       go_wp2_with fail
       go_meet
       case rel=>exact⟨false,s4,rfl,H6.out,Or.inr ⟨rfl,rfl,Or.inr HW.out⟩⟩
      | true=>
       have HW:=Lib.hid hw
       clear hw
       go_wp2_with fail
       refine(has H4.out.ri kSKIP true HW.out).mono ?_
       rintro e W6 ⟨rfl,h6,g6⟩
       have H6:=Lib.hid (H4.out.call h6 g6)
       clear h6 g6 qb
       go_wp2_with fail
       go_meet
       case rel=>exact⟨true,hasR kSKIP s4,rfl,H6.out,Or.inl ⟨rfl,HB.out,HW.out,rfl⟩⟩
    case rest=>
     clear H4
     obtain⟨m,s2,rfl,hq2,hcase⟩:=hcut
     have H2:=Lib.hid hq2
     have HCASE:=Lib.hid hcase
     clear hq2 hcase
     go_upto_if 97 with fail
     go_cut [] (fun w=>∃s3 k,QAt W0 b lv ts s3 x (qC {query0 with kind:=1,order:=o,down:=d,skip:=k,limit:=-1} vs vc vi (.slice none 0 0)) ⟨vs,sp,vc,cd,vi,it,(.slice none 0 0),[]⟩ w∧partR kSKIP (0) s4=(k,s3))
     case first=>
      cases m with
      | false=>
       go_wp2_with fail
       go_meet
       case rel=>
        rcases HCASE.out with ⟨e,_⟩|⟨_,rfl,hc⟩
        ·cases e
        ·exact⟨_,0,H2.out,by unfold partR;rcases hc with hc|hc<;>simp[hc]⟩
      | true=>
       obtain⟨k0,s3,hk0⟩:∃k0 s3,countR 0 1000000000 s2=(k0,s3):=⟨_,_,rfl⟩
       have HK0:=Lib.hid hk0
       clear hk0
       go_wp2_with fail
       refine(countIs H2.out.ri HK0.out).mono ?_
       rintro e W5 ⟨rfl,h5,g5⟩
       have H5a:=H2.out.call h5 g5
       have c5:=H5a.lq.at_ 6 (.int .i64 (0)) rfl
       have f5:W5.frozen? ⟨x,6,none⟩=false:=H5a.lq.free 6
       have H5:=Lib.hid (H5a.set 6 (.int .i64 k0))
       clear h5 g5 H5a
       go_wp2_with fail
       go_meet
       case rel=>
        rcases HCASE.out with ⟨_,hb,hp,rfl⟩|⟨e,_⟩
        ·exact⟨s3,k0,H5.out,by unfold partR;simp only[hb,hp];exact HK0.out⟩
        ·cases e
     case rest=>
      obtain⟨s5,k,hq5,hsk⟩:=hcut
      have H5:=Lib.hid hq5
      have HSK:=Lib.hid hsk
      clear hq5 hsk H2 HCASE
      go_upto_region 20 with fail
      go_cut [10] (fun v w=>∃m s2,v=.bool m∧QAt W0 b lv ts s2 x (qC {query0 with kind:=1,order:=o,down:=d,skip:=k,limit:=-1} vs vc vi (.slice none 0 0)) ⟨vs,sp,vc,cd,vi,it,(.slice none 0 0),[]⟩ w∧((m=true∧s5.bad=false∧peekR kLIMIT s5=true∧s2=hasR kLIMIT s5)∨(m=false∧s2=s5∧(s5.bad=true∨peekR kLIMIT s5=false))))
      case first=>
       have qb:=H5.out.ri.box.at_ 2 (.bool s5.bad) rfl
       cases hb:s5.bad with
       | true=>
        have HB:=Lib.hid hb
        rw[hb] at qb
        clear hb
        go_wp2_with fail
        go_meet
        case rel=>exact⟨false,s5,rfl,H5.out,Or.inr ⟨rfl,rfl,Or.inl HB.out⟩⟩
       | false=>
        have HB:=Lib.hid hb
        rw[hb] at qb
        clear hb
        cases hw:peekR kLIMIT s5 with
        | false=>
         have HW:=Lib.hid hw
         clear hw
         go_wp2_with fail
         refine(has H5.out.ri kLIMIT false HW.out).mono ?_
         rintro e W6 ⟨rfl,h6,g6⟩
         rw[hasR_not HW.out] at h6
         have H6:=Lib.hid (H5.out.call h6 g6)
         clear h6 g6 qb
         go_wp2_with fail
         go_meet
         case rel=>exact⟨false,s5,rfl,H6.out,Or.inr ⟨rfl,rfl,Or.inr HW.out⟩⟩
        | true=>
         have HW:=Lib.hid hw
         clear hw
         go_wp2_with fail
         refine(has H5.out.ri kLIMIT true HW.out).mono ?_
         rintro e W6 ⟨rfl,h6,g6⟩
         have H6:=Lib.hid (H5.out.call h6 g6)
         clear h6 g6 qb
         go_wp2_with fail
         go_meet
         case rel=>exact⟨true,hasR kLIMIT s5,rfl,H6.out,Or.inl ⟨rfl,HB.out,HW.out,rfl⟩⟩
      case rest=>
       clear H5
       obtain⟨m,s2,rfl,hq2,hcase⟩:=hcut
       have H2:=Lib.hid hq2
       have HCASE:=Lib.hid hcase
       clear hq2 hcase
       go_upto_if 112 with fail
       go_cut [] (fun w=>∃s3 l,QAt W0 b lv ts s3 x (qC {query0 with kind:=1,order:=o,down:=d,skip:=k,limit:=l} vs vc vi (.slice none 0 0)) ⟨vs,sp,vc,cd,vi,it,(.slice none 0 0),[]⟩ w∧partR kLIMIT (-1) s5=(l,s3))
       case first=>
        cases m with
        | false=>
         go_wp2_with fail
         go_meet
         case rel=>
          rcases HCASE.out with ⟨e,_⟩|⟨_,rfl,hc⟩
          ·cases e
          ·exact⟨_,-1,H2.out,by unfold partR;rcases hc with hc|hc<;>simp[hc]⟩
        | true=>
         obtain⟨k0,s3,hk0⟩:∃k0 s3,countR 0 1000000000 s2=(k0,s3):=⟨_,_,rfl⟩
         have HK0:=Lib.hid hk0
         clear hk0
         go_wp2_with fail
         refine(countIs H2.out.ri HK0.out).mono ?_
         rintro e W5 ⟨rfl,h5,g5⟩
         have H5a:=H2.out.call h5 g5
         have c5:=H5a.lq.at_ 7 (.int .i64 (-1)) rfl
         have f5:W5.frozen? ⟨x,7,none⟩=false:=H5a.lq.free 7
         have H5:=Lib.hid (H5a.set 7 (.int .i64 k0))
         clear h5 g5 H5a
         go_wp2_with fail
         go_meet
         case rel=>
          rcases HCASE.out with ⟨_,hb,hp,rfl⟩|⟨e,_⟩
          ·exact⟨s3,k0,H5.out,by unfold partR;simp only[hb,hp];exact HK0.out⟩
          ·cases e
       case rest=>
        obtain⟨s6,l,hq6,hli⟩:=hcut
        have H9:=Lib.hid hq6
        have HLI:=Lib.hid hli
        have r2:=hq6.ri.box.at_ 2 (.bool s6.bad) rfl
        have fr2:wc.frozen? ⟨b,2,none⟩=false:=hq6.ri.box.free 2
        have z3:wc.cell? ⟨x,3,none⟩=some (.slice ao it.length ca):=(hq6.lq.cell 3).trans (by rw[HVI.out];rfl)
        clear hq6 hli H2 HCASE
        have HIS:Hid (itemsR st=(⟨it,o,d,k,l⟩,s6.orBad (decide (6<it.length)))):=by
         show _=_;unfold itemsR;simp only[HMS.out,HOR.out,HSK.out,HLI.out]
        cases hb:s6.bad with
        | true=>
         rw[hb] at r2
         have HF:Hid (itemsR st=(⟨it,o,d,k,l⟩,⟨s6.rest,true⟩)):=by show _=_;rw[HIS.out];unfold RS.orBad;simp only[hb];rfl
         clear hb
         go_wp2_with fail
         go_end0
         refine⟨rfl,vi,?_⟩
         rw[HF.out]
         exact H9.out.setBad true
        | false=>
         rw[hb] at r2
         by_cases h6:6<it.length
         ·have HF:Hid (itemsR st=(⟨it,o,d,k,l⟩,⟨s6.rest,true⟩)):=by show _=_;rw[HIS.out];unfold RS.orBad;simp only[hb];simp[h6]
          clear hb
          have h6i:(6:Int)<it.length:=by omega
          go_wp2_with fail
          go_end0
          refine⟨rfl,vi,?_⟩
          rw[HF.out]
          exact H9.out.setBad true
         ·have HF:Hid (itemsR st=(⟨it,o,d,k,l⟩,⟨s6.rest,false⟩)):=by show _=_;rw[HIS.out];unfold RS.orBad;simp only[hb];simp[h6]
          clear hb
          have h6i:¬(6:Int)<it.length:=by omega
          go_wp2_with fail
          go_end0
          refine⟨rfl,vi,?_⟩
          rw[HF.out]
          exact H9.out.setBad false
end Go.Proofs.YtobgbmfpicmpcaaGreatDoor

/- The reference's reader: what stands behind a match. -/
namespace Go.Proofs.YtobgbmfpicmpcaaGreatDoor
open Go.RowKit
set_option maxRecDepth 100000 in
set_option maxHeartbeats 9000000 in
theorem behindRead {b x:Nat} {lv vs vc:Value} {sp:List PSpot} {cd:List PCond} {ts:List Tok} {st:RS} {W0 W:World} (h:QAt W0 b lv ts st x (qC query0 vs vc (.slice none 0 0) (.slice none 0 0)) ⟨vs,sp,vc,cd,(.slice none 0 0),[],(.slice none 0 0),[]⟩ W) (hr:peekR kRETURN st=true):
  Calls Tryz.prog 42 #[.pointer (some ⟨b,0,none⟩),.pointer (some ⟨x,0,none⟩)] W fun e W'=>e=.returned (.tuple #[])∧∃vi,QAt W0 b lv ts (behindR {query0 with spots:=sp,conds:=cd} st).2 x (qC (behindR {query0 with spots:=sp,conds:=cd} st).1 vs vc vi (.slice none 0 0)) ⟨vs,sp,vc,cd,vi,(behindR {query0 with spots:=sp,conds:=cd} st).1.items,(.slice none 0 0),[]⟩ W':=by
 have Phr:=Lib.hid hr
 clear hr
 have HI:=Lib.hid h
 clear h
 go_enter Tryz.func42,Tryz.ntmps42
 go_wp2_with fail
 refine(has HI.out.ri kRETURN true Phr.out).mono ?_
 rintro e P1 ⟨rfl,h,g⟩
 obtain⟨s0,hs0⟩:∃s0,hasR kRETURN st=s0:=⟨_,rfl⟩
 rw[hs0] at h
 have E0:=Lib.hid hs0
 have H0:=Lib.hid (HI.out.call h g)
 clear h g HI hs0
 have c0:=H0.out.lq.at_ 0 (.int .i64 0) rfl
 have f0:P1.frozen? ⟨x,0,none⟩=false:=H0.out.lq.free 0
 have HK:Hid (QAt W0 b lv ts s0 x (qC {query0 with kind:=1} vs vc (.slice none 0 0) (.slice none 0 0)) ⟨vs,sp,vc,cd,(.slice none 0 0),[],(.slice none 0 0),[]⟩ (P1.setCell ⟨x,0,none⟩ (.int .i64 1))):=H0.out.set 0 (.int .i64 1)
 clear H0
 go_wp2_with fail
 generalize P1.setCell ⟨x,0,none⟩ (.int .i64 1)=Pk at HK⊢;clear c0 f0
 refine(items HK.out).mono ?_
 rintro e Q1 ⟨rfl,vi,hq⟩
 have HQ:=Lib.hid hq
 clear hq HK
 go_wp2_with fail
 go_end0
 refine⟨rfl,vi,?_⟩
 unfold behindR
 simp only[Phr.out,E0.out,if_true]
 exact HQ.out
set_option maxRecDepth 100000 in
set_option maxHeartbeats 9000000 in
theorem behindSet {b x:Nat} {lv vs vc:Value} {sp:List PSpot} {cd:List PCond} {ts:List Tok} {st:RS} {W0 W:World} (h:QAt W0 b lv ts st x (qC query0 vs vc (.slice none 0 0) (.slice none 0 0)) ⟨vs,sp,vc,cd,(.slice none 0 0),[],(.slice none 0 0),[]⟩ W) (hr:peekR kRETURN st=false) (hs:peekR kSET st=true):
  Calls Tryz.prog 42 #[.pointer (some ⟨b,0,none⟩),.pointer (some ⟨x,0,none⟩)] W fun e W'=>e=.returned (.tuple #[])∧∃vi,QAt W0 b lv ts (behindR {query0 with spots:=sp,conds:=cd} st).2 x (qC (behindR {query0 with spots:=sp,conds:=cd} st).1 vs vc vi (.slice none 0 0)) ⟨vs,sp,vc,cd,vi,(behindR {query0 with spots:=sp,conds:=cd} st).1.items,(.slice none 0 0),[]⟩ W':=by
 have Phr:=Lib.hid hr
 have Phs:=Lib.hid hs
 clear hr hs
 have HI:=Lib.hid h
 clear h
 go_enter Tryz.func42,Tryz.ntmps42
 go_wp2_with fail
 refine(has HI.out.ri kRETURN false Phr.out).mono ?_
 rintro e P1 ⟨rfl,h,g⟩
 rw[hasR_not Phr.out] at h
 have H0:=Lib.hid (HI.out.call h g)
 clear h g HI
 go_wp2_with fail
 refine(has H0.out.ri kSET true Phs.out).mono ?_
 rintro e P2 ⟨rfl,h,g⟩
 obtain⟨s0,hs0⟩:∃s0,hasR kSET st=s0:=⟨_,rfl⟩
 rw[hs0] at h
 have E0:=Lib.hid hs0
 have H1:=Lib.hid (H0.out.call h g)
 clear h g H0 hs0
 have c0:=H1.out.lq.at_ 0 (.int .i64 0) rfl
 have f0:P2.frozen? ⟨x,0,none⟩=false:=H1.out.lq.free 0
 have HK:Hid (QAt W0 b lv ts s0 x (qC {query0 with kind:=2} vs vc (.slice none 0 0) (.slice none 0 0)) ⟨vs,sp,vc,cd,(.slice none 0 0),[],(.slice none 0 0),[]⟩ (P2.setCell ⟨x,0,none⟩ (.int .i64 2))):=H1.out.set 0 (.int .i64 2)
 clear H1
 obtain⟨vqs1,qs1,hqs1⟩:∃n sz,nameR s0=(n,sz):=⟨_,_,rfl⟩
 have Eqs1:=Lib.hid hqs1
 clear hqs1
 go_wp2_with fail
 generalize P2.setCell ⟨x,0,none⟩ (.int .i64 2)=Pk at HK⊢;clear c0 f0
 refine(nameIs HK.out.ri Eqs1.out).mono ?_
 rintro e Q1 ⟨rfl,h,g⟩
 have Ha:=HK.out.call h g
 have cc:=Ha.lq.at_ 8 (.string ⟨#[]⟩) rfl
 have cf:Q1.frozen? ⟨x,8,none⟩=false:=Ha.lq.free 8
 have Hqs1:Hid (QAt W0 b lv ts qs1 x (qC {query0 with kind:=2,name:=vqs1} vs vc (.slice none 0 0) (.slice none 0 0)) ⟨vs,sp,vc,cd,(.slice none 0 0),[],(.slice none 0 0),[]⟩ (Q1.setCell ⟨x,8,none⟩ (.string vqs1))):=Ha.set 8 (.string vqs1)
 clear h g Ha HK
 obtain⟨qs2,hqs2⟩:∃sz,mustR mDot qs1=sz:=⟨_,rfl⟩
 have Eqs2:=Lib.hid hqs2
 go_wp2_with fail
 generalize Q1.setCell ⟨x,8,none⟩ (.string vqs1)=Q1x at Hqs1⊢;clear cc cf
 refine(must Hqs1.out.ri mDot).mono ?_
 rintro e Q2 ⟨rfl,h,g⟩
 rw[hqs2] at h
 have Hqs2:Hid (QAt W0 b lv ts qs2 x (qC {query0 with kind:=2,name:=vqs1} vs vc (.slice none 0 0) (.slice none 0 0)) ⟨vs,sp,vc,cd,(.slice none 0 0),[],(.slice none 0 0),[]⟩ Q2):=Hqs1.out.call h g
 clear h g hqs2 Hqs1
 obtain⟨vqs3,qs3,hqs3⟩:∃n sz,nameR qs2=(n,sz):=⟨_,_,rfl⟩
 have Eqs3:=Lib.hid hqs3
 clear hqs3
 go_wp2_with fail
 refine(nameIs Hqs2.out.ri Eqs3.out).mono ?_
 rintro e Q3 ⟨rfl,h,g⟩
 have Ha:=Hqs2.out.call h g
 have cc:=Ha.lq.at_ 9 (.string ⟨#[]⟩) rfl
 have cf:Q3.frozen? ⟨x,9,none⟩=false:=Ha.lq.free 9
 have Hqs3:Hid (QAt W0 b lv ts qs3 x (qC {query0 with kind:=2,name:=vqs1,key:=vqs3} vs vc (.slice none 0 0) (.slice none 0 0)) ⟨vs,sp,vc,cd,(.slice none 0 0),[],(.slice none 0 0),[]⟩ (Q3.setCell ⟨x,9,none⟩ (.string vqs3))):=Ha.set 9 (.string vqs3)
 clear h g Ha Hqs2
 obtain⟨qs4,hqs4⟩:∃sz,mustR mEq qs3=sz:=⟨_,rfl⟩
 have Eqs4:=Lib.hid hqs4
 go_wp2_with fail
 generalize Q3.setCell ⟨x,9,none⟩ (.string vqs3)=Q3x at Hqs3⊢;clear cc cf
 refine(must Hqs3.out.ri mEq).mono ?_
 rintro e Q4 ⟨rfl,h,g⟩
 rw[hqs4] at h
 have Hqs4:Hid (QAt W0 b lv ts qs4 x (qC {query0 with kind:=2,name:=vqs1,key:=vqs3} vs vc (.slice none 0 0) (.slice none 0 0)) ⟨vs,sp,vc,cd,(.slice none 0 0),[],(.slice none 0 0),[]⟩ Q4):=Hqs3.out.call h g
 clear h g hqs4 Hqs3
 obtain⟨vqs5,qs5,hqs5⟩:∃n sz,termR qs4=(n,sz):=⟨_,_,rfl⟩
 have Eqs5:=Lib.hid hqs5
 clear hqs5
 go_wp2_with fail
 refine(termIs Hqs4.out.ri Eqs5.out).mono ?_
 rintro e Q5 ⟨rfl,h,g⟩
 have Ha:=Hqs4.out.call h g
 have c10:=Ha.lq.at_ 10 (.string ⟨#[]⟩) rfl
 have f10:Q5.frozen? ⟨x,10,none⟩=false:=Ha.lq.free 10
 have c11:=Ha.lq.at_ 11 (.string ⟨#[]⟩) rfl
 have f11:Q5.frozen? ⟨x,11,none⟩=false:=Ha.lq.free 11
 have c12:=Ha.lq.at_ 12 (.int .i64 0) rfl
 have f12:Q5.frozen? ⟨x,12,none⟩=false:=Ha.lq.free 12
 have Hqs5:Hid (QAt W0 b lv ts qs5 x (qC {query0 with kind:=2,name:=vqs1,key:=vqs3,value:=vqs5} vs vc (.slice none 0 0) (.slice none 0 0)) ⟨vs,sp,vc,cd,(.slice none 0 0),[],(.slice none 0 0),[]⟩ (((Q5.setCell ⟨x,10,none⟩ (.string vqs5.name)).setCell ⟨x,11,none⟩ (.string vqs5.key)).setCell ⟨x,12,none⟩ (.int .i64 vqs5.val))):=((Ha.set 10 (.string vqs5.name)).set 11 (.string vqs5.key)).set 12 (.int .i64 vqs5.val)
 clear h g Ha Hqs4
 go_wp2_with fail
 go_end0
 refine⟨rfl,.slice none 0 0,?_⟩
 have e:behindR {query0 with spots:=sp,conds:=cd} st=({query0 with spots:=sp,conds:=cd,kind:=2,name:=vqs1,key:=vqs3,value:=vqs5},qs5):=by
  unfold behindR setR
  simp only[Phr.out,Phs.out,E0.out,Eqs1.out,Eqs2.out,Eqs3.out,Eqs4.out,Eqs5.out,Bool.false_eq_true,if_false,if_true]
 rw[e]
 exact Hqs5.out
set_option maxRecDepth 100000 in
set_option maxHeartbeats 9000000 in
theorem behindDel {b x:Nat} {lv vs vc:Value} {sp:List PSpot} {cd:List PCond} {ts:List Tok} {st:RS} {W0 W:World} (h:QAt W0 b lv ts st x (qC query0 vs vc (.slice none 0 0) (.slice none 0 0)) ⟨vs,sp,vc,cd,(.slice none 0 0),[],(.slice none 0 0),[]⟩ W) (hr:peekR kRETURN st=false) (hs:peekR kSET st=false) (hd:peekR kDELETE st=true):
  Calls Tryz.prog 42 #[.pointer (some ⟨b,0,none⟩),.pointer (some ⟨x,0,none⟩)] W fun e W'=>e=.returned (.tuple #[])∧∃vi,QAt W0 b lv ts (behindR {query0 with spots:=sp,conds:=cd} st).2 x (qC (behindR {query0 with spots:=sp,conds:=cd} st).1 vs vc vi (.slice none 0 0)) ⟨vs,sp,vc,cd,vi,(behindR {query0 with spots:=sp,conds:=cd} st).1.items,(.slice none 0 0),[]⟩ W':=by
 have Phr:=Lib.hid hr
 have Phs:=Lib.hid hs
 have Phd:=Lib.hid hd
 clear hr hs hd
 have HI:=Lib.hid h
 clear h
 go_enter Tryz.func42,Tryz.ntmps42
 go_wp2_with fail
 refine(has HI.out.ri kRETURN false Phr.out).mono ?_
 rintro e P1 ⟨rfl,h,g⟩
 rw[hasR_not Phr.out] at h
 have H0:=Lib.hid (HI.out.call h g)
 clear h g HI
 go_wp2_with fail
 refine(has H0.out.ri kSET false Phs.out).mono ?_
 rintro e P2 ⟨rfl,h,g⟩
 rw[hasR_not Phs.out] at h
 have H1:=Lib.hid (H0.out.call h g)
 clear h g H0
 go_wp2_with fail
 refine(has H1.out.ri kDELETE true Phd.out).mono ?_
 rintro e P3 ⟨rfl,h,g⟩
 obtain⟨s0,hs0⟩:∃s0,hasR kDELETE st=s0:=⟨_,rfl⟩
 rw[hs0] at h
 have E0:=Lib.hid hs0
 have H2:=Lib.hid (H1.out.call h g)
 clear h g H1 hs0
 have c0:=H2.out.lq.at_ 0 (.int .i64 0) rfl
 have f0:P3.frozen? ⟨x,0,none⟩=false:=H2.out.lq.free 0
 have HK:Hid (QAt W0 b lv ts s0 x (qC {query0 with kind:=3} vs vc (.slice none 0 0) (.slice none 0 0)) ⟨vs,sp,vc,cd,(.slice none 0 0),[],(.slice none 0 0),[]⟩ (P3.setCell ⟨x,0,none⟩ (.int .i64 3))):=H2.out.set 0 (.int .i64 3)
 clear H2
 obtain⟨vqs1,qs1,hqs1⟩:∃n sz,nameR s0=(n,sz):=⟨_,_,rfl⟩
 have Eqs1:=Lib.hid hqs1
 clear hqs1
 go_wp2_with fail
 generalize P3.setCell ⟨x,0,none⟩ (.int .i64 3)=Pk at HK⊢;clear c0 f0
 refine(nameIs HK.out.ri Eqs1.out).mono ?_
 rintro e Q1 ⟨rfl,h,g⟩
 have Ha:=HK.out.call h g
 have cc:=Ha.lq.at_ 8 (.string ⟨#[]⟩) rfl
 have cf:Q1.frozen? ⟨x,8,none⟩=false:=Ha.lq.free 8
 have Hqs1:Hid (QAt W0 b lv ts qs1 x (qC {query0 with kind:=3,name:=vqs1} vs vc (.slice none 0 0) (.slice none 0 0)) ⟨vs,sp,vc,cd,(.slice none 0 0),[],(.slice none 0 0),[]⟩ (Q1.setCell ⟨x,8,none⟩ (.string vqs1))):=Ha.set 8 (.string vqs1)
 clear h g Ha HK
 go_wp2_with fail
 go_end0
 refine⟨rfl,.slice none 0 0,?_⟩
 have e:behindR {query0 with spots:=sp,conds:=cd} st=({query0 with spots:=sp,conds:=cd,kind:=3,name:=vqs1},qs1):=by
  unfold behindR
  simp only[Phr.out,Phs.out,Phd.out,E0.out,Eqs1.out,Bool.false_eq_true,if_false,if_true]
 rw[e]
 exact Hqs1.out
set_option maxRecDepth 100000 in
set_option maxHeartbeats 9000000 in
theorem behindLink {b x:Nat} {lv vs vc:Value} {sp:List PSpot} {cd:List PCond} {ts:List Tok} {st:RS} {W0 W:World} (h:QAt W0 b lv ts st x (qC query0 vs vc (.slice none 0 0) (.slice none 0 0)) ⟨vs,sp,vc,cd,(.slice none 0 0),[],(.slice none 0 0),[]⟩ W) (hr:peekR kRETURN st=false) (hs:peekR kSET st=false) (hd:peekR kDELETE st=false):
  Calls Tryz.prog 42 #[.pointer (some ⟨b,0,none⟩),.pointer (some ⟨x,0,none⟩)] W fun e W'=>e=.returned (.tuple #[])∧∃vi,QAt W0 b lv ts (behindR {query0 with spots:=sp,conds:=cd} st).2 x (qC (behindR {query0 with spots:=sp,conds:=cd} st).1 vs vc vi (.slice none 0 0)) ⟨vs,sp,vc,cd,vi,(behindR {query0 with spots:=sp,conds:=cd} st).1.items,(.slice none 0 0),[]⟩ W':=by
 have Phr:=Lib.hid hr
 have Phs:=Lib.hid hs
 have Phd:=Lib.hid hd
 clear hr hs hd
 have HI:=Lib.hid h
 clear h
 go_enter Tryz.func42,Tryz.ntmps42
 go_wp2_with fail
 refine(has HI.out.ri kRETURN false Phr.out).mono ?_
 rintro e P1 ⟨rfl,h,g⟩
 rw[hasR_not Phr.out] at h
 have H0:=Lib.hid (HI.out.call h g)
 clear h g HI
 go_wp2_with fail
 refine(has H0.out.ri kSET false Phs.out).mono ?_
 rintro e P2 ⟨rfl,h,g⟩
 rw[hasR_not Phs.out] at h
 have H1:=Lib.hid (H0.out.call h g)
 clear h g H0
 go_wp2_with fail
 refine(has H1.out.ri kDELETE false Phd.out).mono ?_
 rintro e P3 ⟨rfl,h,g⟩
 rw[hasR_not Phd.out] at h
 have H2:=Lib.hid (H1.out.call h g)
 clear h g H1
 have c0:=H2.out.lq.at_ 0 (.int .i64 0) rfl
 have f0:P3.frozen? ⟨x,0,none⟩=false:=H2.out.lq.free 0
 have HK:Hid (QAt W0 b lv ts st x (qC {query0 with kind:=4} vs vc (.slice none 0 0) (.slice none 0 0)) ⟨vs,sp,vc,cd,(.slice none 0 0),[],(.slice none 0 0),[]⟩ (P3.setCell ⟨x,0,none⟩ (.int .i64 4))):=H2.out.set 0 (.int .i64 4)
 clear H2
 obtain⟨qs1,hqs1⟩:∃sz,mustR kCREATE st=sz:=⟨_,rfl⟩
 have Eqs1:=Lib.hid hqs1
 go_wp2_with fail
 generalize P3.setCell ⟨x,0,none⟩ (.int .i64 4)=Pk at HK⊢;clear c0 f0
 refine(must HK.out.ri kCREATE).mono ?_
 rintro e Q1 ⟨rfl,h,g⟩
 rw[hqs1] at h
 have Hqs1:Hid (QAt W0 b lv ts qs1 x (qC {query0 with kind:=4} vs vc (.slice none 0 0) (.slice none 0 0)) ⟨vs,sp,vc,cd,(.slice none 0 0),[],(.slice none 0 0),[]⟩ Q1):=HK.out.call h g
 clear h g hqs1 HK
 obtain⟨qs2,hqs2⟩:∃sz,mustR mOpen qs1=sz:=⟨_,rfl⟩
 have Eqs2:=Lib.hid hqs2
 go_wp2_with fail
 refine(must Hqs1.out.ri mOpen).mono ?_
 rintro e Q2 ⟨rfl,h,g⟩
 rw[hqs2] at h
 have Hqs2:Hid (QAt W0 b lv ts qs2 x (qC {query0 with kind:=4} vs vc (.slice none 0 0) (.slice none 0 0)) ⟨vs,sp,vc,cd,(.slice none 0 0),[],(.slice none 0 0),[]⟩ Q2):=Hqs1.out.call h g
 clear h g hqs2 Hqs1
 obtain⟨vqs3,qs3,hqs3⟩:∃n sz,nameR qs2=(n,sz):=⟨_,_,rfl⟩
 have Eqs3:=Lib.hid hqs3
 clear hqs3
 go_wp2_with fail
 refine(nameIs Hqs2.out.ri Eqs3.out).mono ?_
 rintro e Q3 ⟨rfl,h,g⟩
 have Ha:=Hqs2.out.call h g
 have cc:=Ha.lq.at_ 8 (.string ⟨#[]⟩) rfl
 have cf:Q3.frozen? ⟨x,8,none⟩=false:=Ha.lq.free 8
 have Hqs3:Hid (QAt W0 b lv ts qs3 x (qC {query0 with kind:=4,name:=vqs3} vs vc (.slice none 0 0) (.slice none 0 0)) ⟨vs,sp,vc,cd,(.slice none 0 0),[],(.slice none 0 0),[]⟩ (Q3.setCell ⟨x,8,none⟩ (.string vqs3))):=Ha.set 8 (.string vqs3)
 clear h g Ha Hqs2
 obtain⟨qs4,hqs4⟩:∃sz,mustR mClose qs3=sz:=⟨_,rfl⟩
 have Eqs4:=Lib.hid hqs4
 go_wp2_with fail
 generalize Q3.setCell ⟨x,8,none⟩ (.string vqs3)=Q3x at Hqs3⊢;clear cc cf
 refine(must Hqs3.out.ri mClose).mono ?_
 rintro e Q4 ⟨rfl,h,g⟩
 rw[hqs4] at h
 have Hqs4:Hid (QAt W0 b lv ts qs4 x (qC {query0 with kind:=4,name:=vqs3} vs vc (.slice none 0 0) (.slice none 0 0)) ⟨vs,sp,vc,cd,(.slice none 0 0),[],(.slice none 0 0),[]⟩ Q4):=Hqs3.out.call h g
 clear h g hqs4 Hqs3
 obtain⟨qs5,hqs5⟩:∃sz,mustR mTo qs4=sz:=⟨_,rfl⟩
 have Eqs5:=Lib.hid hqs5
 go_wp2_with fail
 refine(must Hqs4.out.ri mTo).mono ?_
 rintro e Q5 ⟨rfl,h,g⟩
 rw[hqs5] at h
 have Hqs5:Hid (QAt W0 b lv ts qs5 x (qC {query0 with kind:=4,name:=vqs3} vs vc (.slice none 0 0) (.slice none 0 0)) ⟨vs,sp,vc,cd,(.slice none 0 0),[],(.slice none 0 0),[]⟩ Q5):=Hqs4.out.call h g
 clear h g hqs5 Hqs4
 obtain⟨vqs6,qs6,hqs6⟩:∃n sz,titleR qs5=(n,sz):=⟨_,_,rfl⟩
 have Eqs6:=Lib.hid hqs6
 clear hqs6
 go_wp2_with fail
 refine(titleIs Hqs5.out.ri Eqs6.out).mono ?_
 rintro e Q6 ⟨rfl,h,g⟩
 have Ha:=Hqs5.out.call h g
 have cc:=Ha.lq.at_ 13 (.string ⟨#[]⟩) rfl
 have cf:Q6.frozen? ⟨x,13,none⟩=false:=Ha.lq.free 13
 have Hqs6:Hid (QAt W0 b lv ts qs6 x (qC {query0 with kind:=4,name:=vqs3,type:=vqs6} vs vc (.slice none 0 0) (.slice none 0 0)) ⟨vs,sp,vc,cd,(.slice none 0 0),[],(.slice none 0 0),[]⟩ (Q6.setCell ⟨x,13,none⟩ (.string vqs6))):=Ha.set 13 (.string vqs6)
 clear h g Ha Hqs5
 obtain⟨qs7,hqs7⟩:∃sz,mustR mArrow qs6=sz:=⟨_,rfl⟩
 have Eqs7:=Lib.hid hqs7
 go_wp2_with fail
 generalize Q6.setCell ⟨x,13,none⟩ (.string vqs6)=Q6x at Hqs6⊢;clear cc cf
 refine(must Hqs6.out.ri mArrow).mono ?_
 rintro e Q7 ⟨rfl,h,g⟩
 rw[hqs7] at h
 have Hqs7:Hid (QAt W0 b lv ts qs7 x (qC {query0 with kind:=4,name:=vqs3,type:=vqs6} vs vc (.slice none 0 0) (.slice none 0 0)) ⟨vs,sp,vc,cd,(.slice none 0 0),[],(.slice none 0 0),[]⟩ Q7):=Hqs6.out.call h g
 clear h g hqs7 Hqs6
 obtain⟨qs8,hqs8⟩:∃sz,mustR mOpen qs7=sz:=⟨_,rfl⟩
 have Eqs8:=Lib.hid hqs8
 go_wp2_with fail
 refine(must Hqs7.out.ri mOpen).mono ?_
 rintro e Q8 ⟨rfl,h,g⟩
 rw[hqs8] at h
 have Hqs8:Hid (QAt W0 b lv ts qs8 x (qC {query0 with kind:=4,name:=vqs3,type:=vqs6} vs vc (.slice none 0 0) (.slice none 0 0)) ⟨vs,sp,vc,cd,(.slice none 0 0),[],(.slice none 0 0),[]⟩ Q8):=Hqs7.out.call h g
 clear h g hqs8 Hqs7
 obtain⟨vqs9,qs9,hqs9⟩:∃n sz,nameR qs8=(n,sz):=⟨_,_,rfl⟩
 have Eqs9:=Lib.hid hqs9
 clear hqs9
 go_wp2_with fail
 refine(nameIs Hqs8.out.ri Eqs9.out).mono ?_
 rintro e Q9 ⟨rfl,h,g⟩
 have Ha:=Hqs8.out.call h g
 have cc:=Ha.lq.at_ 14 (.string ⟨#[]⟩) rfl
 have cf:Q9.frozen? ⟨x,14,none⟩=false:=Ha.lq.free 14
 have Hqs9:Hid (QAt W0 b lv ts qs9 x (qC {query0 with kind:=4,name:=vqs3,type:=vqs6,«to»:=vqs9} vs vc (.slice none 0 0) (.slice none 0 0)) ⟨vs,sp,vc,cd,(.slice none 0 0),[],(.slice none 0 0),[]⟩ (Q9.setCell ⟨x,14,none⟩ (.string vqs9))):=Ha.set 14 (.string vqs9)
 clear h g Ha Hqs8
 obtain⟨qs10,hqs10⟩:∃sz,mustR mClose qs9=sz:=⟨_,rfl⟩
 have Eqs10:=Lib.hid hqs10
 go_wp2_with fail
 generalize Q9.setCell ⟨x,14,none⟩ (.string vqs9)=Q9x at Hqs9⊢;clear cc cf
 refine(must Hqs9.out.ri mClose).mono ?_
 rintro e Q10 ⟨rfl,h,g⟩
 rw[hqs10] at h
 have Hqs10:Hid (QAt W0 b lv ts qs10 x (qC {query0 with kind:=4,name:=vqs3,type:=vqs6,«to»:=vqs9} vs vc (.slice none 0 0) (.slice none 0 0)) ⟨vs,sp,vc,cd,(.slice none 0 0),[],(.slice none 0 0),[]⟩ Q10):=Hqs9.out.call h g
 clear h g hqs10 Hqs9
 go_wp2_with fail
 go_end0
 refine⟨rfl,.slice none 0 0,?_⟩
 have e:behindR {query0 with spots:=sp,conds:=cd} st=({query0 with spots:=sp,conds:=cd,kind:=4,name:=vqs3,type:=vqs6,«to»:=vqs9},qs10):=by
  unfold behindR linkR
  simp only[Phr.out,Phs.out,Phd.out,Eqs1.out,Eqs2.out,Eqs3.out,Eqs4.out,Eqs5.out,Eqs6.out,Eqs7.out,Eqs8.out,Eqs9.out,Eqs10.out,Bool.false_eq_true,if_false]
 rw[e]
 exact Hqs10.out
theorem behind {b x:Nat} {lv vs vc:Value} {sp:List PSpot} {cd:List PCond} {ts:List Tok} {st:RS} {W0 W:World} (h:QAt W0 b lv ts st x (qC query0 vs vc (.slice none 0 0) (.slice none 0 0)) ⟨vs,sp,vc,cd,(.slice none 0 0),[],(.slice none 0 0),[]⟩ W):
  Calls Tryz.prog 42 #[.pointer (some ⟨b,0,none⟩),.pointer (some ⟨x,0,none⟩)] W fun e W'=>e=.returned (.tuple #[])∧∃vi,QAt W0 b lv ts (behindR {query0 with spots:=sp,conds:=cd} st).2 x (qC (behindR {query0 with spots:=sp,conds:=cd} st).1 vs vc vi (.slice none 0 0)) ⟨vs,sp,vc,cd,vi,(behindR {query0 with spots:=sp,conds:=cd} st).1.items,(.slice none 0 0),[]⟩ W':=by
 cases hr:peekR kRETURN st with
 | true=>exact behindRead h hr
 | false=>
  cases hs:peekR kSET st with
  | true=>exact behindSet h hr hs
  | false=>
   cases hd:peekR kDELETE st with
   | true=>exact behindDel h hr hs hd
   | false=>exact behindLink h hr hs hd
end Go.Proofs.YtobgbmfpicmpcaaGreatDoor

/- The reference's scope: does each variable stand for something? -/
namespace Go.Proofs.YtobgbmfpicmpcaaGreatDoor
open Go.RowKit Go.Sort
theorem str_one {a:ByteArray}:∀u∈[Value.string a],u.oneCell'=true:=by
 intro u hu
 simp at hu
 subst hu;rfl
theorem str_three {a b c:ByteArray}:∀u∈[Value.string a,.string b,.string c],u.oneCell'=true:=by
 intro u hu
 simp at hu
 rcases hu with rfl|rfl|rfl<;>rfl
set_option maxRecDepth 100000 in
set_option maxHeartbeats 9000000 in
theorem scope_ {B:Nat} {q:PQuery} {vs vc vi vp:Value} {W:World} (hrs:W.ownsRow B 85 5 vs q.spots.length (spotCells q.spots)) (hrc:W.ownsRow B 87 7 vc q.conds.length (condCells q.conds)) (hrt:W.ownsRow B 89 2 vi q.items.length (itemCells q.items)) (hl1:q.spots.length≤3000) (hl2:q.conds.length≤3000) (hl3:q.items.length≤3000):
  Calls Tryz.prog 43 #[.agg (qC q vs vc vi vp)] W fun e W'=>e=.returned (.bool (scopedR q))∧Below W.heap.size W W':=by
 obtain⟨i1,hj,hy0,hy1,hy2⟩:=info_parts Tryz.infoString
 obtain⟨aos,cas,rfl,hcas⟩:=row_slice (l:=q.spots) hrs
 obtain⟨aoc,cac,rfl,hcac⟩:=row_slice (l:=q.conds) hrc
 obtain⟨aoi,cai,rfl,hcai⟩:=row_slice (l:=q.items) hrt
 have g0:=grown_alloc W (.cells (qC q (.slice aos q.spots.length cas) (.slice aoc q.conds.length cac) (.slice aoi q.items.length cai) vp) 29) none
 have H0:Hid (SAt W B W.heap.size (qC q (.slice aos q.spots.length cas) (.slice aoc q.conds.length cac) (.slice aoi q.items.length cai) vp) q (.slice aos q.spots.length cas) (.slice aoc q.conds.length cac) (.slice aoi q.items.length cai) (.slice none 0 0) [] (W.alloc (.cells (qC q (.slice aos q.spots.length cas) (.slice aoc q.conds.length cac) (.slice aoi q.items.length cai) vp) 29))):=
  ⟨Below.alloc (Below.refl _ _) (Nat.le_refl _) _,Loc.new W _ _,Nat.le_refl _,kept_none hrs g0,kept_none hrc g0,kept_none hrt g0,World.ownsRow_nil _ _ _ _⟩
 clear hrs hrc hrt g0
 go_enter Tryz.func43,Tryz.ntmps43
 go_upto_block 0 with fail
 obtain⟨X,hX⟩:∃X,X=W.heap.size:=⟨_,rfl⟩
 rw[←hX] at H0⊢
 generalize W.alloc (.cells (qC q (.slice aos q.spots.length cas) (.slice aoc q.conds.length cac) (.slice aoi q.items.length cai) vp) 29)=W1 at H0⊢
 have hXW:W.heap.size≤X:=by omega
 clear hX
 go_cut [3,4] (fun v _ w=>SAt W B X (qC q (.slice aos q.spots.length cas) (.slice aoc q.conds.length cac) (.slice aoi q.items.length cai) vp) q (.slice aos q.spots.length cas) (.slice aoc q.conds.length cac) (.slice aoi q.items.length cai) v (condNames q.conds) w)
 case first=>
  go_wp2_with fail
  go_loopg [3,4] q.conds.length (fun m v iv w=>∃k:Nat,iv=.int .i64 (k:Int)∧k+m=q.conds.length∧SAt W B X (qC q (.slice aos q.spots.length cas) (.slice aoc q.conds.length cac) (.slice aoi q.items.length cai) vp) q (.slice aos q.spots.length cas) (.slice aoc q.conds.length cac) (.slice aoi q.items.length cai) v (condNames (q.conds.take k)) w)
  case atStart=>exact⟨0,rfl,by omega,H0.out⟩
  case round=>
   obtain⟨k,rfl,hk,hq⟩:=hrel
   have HQ:=Lib.hid hq
   have c2:=hq.lq.at_ 2 (.slice aoc q.conds.length cac) rfl
   by_cases hlt:k<q.conds.length
   ·obtain⟨g,rfl,hcell⟩:=row_at (l:=q.conds) fCond (fun _=>rfl) hq.rc hlt
    have p1:wr.cell? ⟨g,k*7+1,none⟩=some (.string q.conds[k].a.name):=hcell 1 (by decide)
    have p4:wr.cell? ⟨g,k*7+4,none⟩=some (.string q.conds[k].b.name):=hcell 4 (by decide)
    have hki:(k:Int)<(q.conds.length:Int):=by omega
    obtain⟨na,hna⟩:∃na,q.conds[k].a.name=na:=⟨_,rfl⟩
    obtain⟨nb,hnb⟩:∃nb,q.conds[k].b.name=nb:=⟨_,rfl⟩
    have HNX:Hid (condNames (q.conds.take (k+1))=condNames (q.conds.take k)++[na,nb]):=by show _=_;rw[condNames_next hlt,hna,hnb]
    rw[hna] at p1
    rw[hnb] at p4
    have hnl:=condNames_len (q.conds.take k)
    rw[List.length_take_of_le (by omega)] at hnl
    clear hcell hna hnb hq
    obtain⟨ns,hns⟩:∃ns,condNames (q.conds.take k)=ns:=⟨_,rfl⟩
    rw[hns] at HQ HNX hnl
    have hnb:ns.length≤6000:=by omega
    clear hns hlt hnl
    go_upto_region 5 with fail
    have HD:Hid (SAt W B X (qC q (.slice aos q.spots.length cas) (.slice (some ⟨g,0,none⟩) q.conds.length cac) (.slice aoi q.items.length cai) vp) q (.slice aos q.spots.length cas) (.slice (some ⟨g,0,none⟩) q.conds.length cac) (.slice aoi q.items.length cai) u3 ns ((wr.alloc (.cells #[.string na,.string nb] 9)).drew)):=(HQ.out.alloc _).drew 1
    go_region_law (refine step_append_lies _ rfl _ _ 56 rfl W.heap.size 9 i1 (.string ⟨#[]⟩) 1 16 Tryz.underlying56 hj hy0 hy1 hy2 rfl (by decide) u3 _ _ (by simp[Act.eval]) HD.out.rl ⟨wr.heap.size,0,none⟩ 2 2 [.string na,.string nb] (by simp[Act.eval]) rfl (World.news_of_block (heap_alloc_new wr _)) two_one (by omega) (by unfold maxLen;omega) (by omega) HD.out.low.size _ rfl ?_;intro g2 cap2 w5 hown hgrow _ _;have H5:=Lib.hid (HD.out.more (l:=[na,nb]) hgrow (by rw[strs_append,List.length_append];exact hown));clear hown hgrow)
    all_goals
     go_wp2_with fail
     go_roundg (gk - 1)
     case measure=>omega
     case rel=>exact⟨k+1,by simp,by omega,by rw[HNX.out];exact H5.out⟩
   ·have hki:¬(k:Int)<(q.conds.length:Int):=by omega
    have hk2:k=q.conds.length:=by omega
    go_wp2_with fail
    go_meet
    case rel=>
     rw[hk2,List.take_length] at HQ
     exact HQ.out
 case rest=>
  clear H0
  have H1:=Lib.hid hcut
  have hn0:=condNames_len q.conds
  obtain⟨n0,hns0⟩:∃n0,condNames q.conds=n0:=⟨_,rfl⟩
  rw[hns0] at H1 hn0
  have HN0:=Lib.hid hns0
  have hn0b:n0.length≤6000:=by omega
  clear hcut hns0 hn0
  go_upto_block 2 with fail
  go_cut [3,5] (fun v _ w=>SAt W B X (qC q (.slice aos q.spots.length cas) (.slice aoc q.conds.length cac) (.slice aoi q.items.length cai) vp) q (.slice aos q.spots.length cas) (.slice aoc q.conds.length cac) (.slice aoi q.items.length cai) v (n0++itemNames q.items) w)
  case first=>
   go_wp2_with fail
   go_loopg [3,5] q.items.length (fun m v iv w=>∃k:Nat,iv=.int .i64 (k:Int)∧k+m=q.items.length∧SAt W B X (qC q (.slice aos q.spots.length cas) (.slice aoc q.conds.length cac) (.slice aoi q.items.length cai) vp) q (.slice aos q.spots.length cas) (.slice aoc q.conds.length cac) (.slice aoi q.items.length cai) v (n0++itemNames (q.items.take k)) w)
   case atStart=>exact⟨0,rfl,by omega,by rw[show itemNames (q.items.take 0)=[] from rfl,List.append_nil];exact H1.out⟩
   case round=>
    obtain⟨k,rfl,hk,hq⟩:=hrel
    have HQ:=Lib.hid hq
    have c3:=hq.lq.at_ 3 (.slice aoi q.items.length cai) rfl
    clear H1
    by_cases hlt:k<q.items.length
    ·obtain⟨g,rfl,hcell⟩:=row_at (l:=q.items) fItem (fun _=>rfl) hq.rt hlt
     have p0:wr.cell? ⟨g,k*2,none⟩=some (.string q.items[k].name):=hcell 0 (by decide)
     have hki:(k:Int)<(q.items.length:Int):=by omega
     obtain⟨na,hna⟩:∃na,q.items[k].name=na:=⟨_,rfl⟩
     have HNX:Hid (n0++itemNames (q.items.take (k+1))=(n0++itemNames (q.items.take k))++[na]):=by show _=_;rw[itemNames_next hlt,hna,List.append_assoc]
     rw[hna] at p0
     have hnl:=itemNames_len (q.items.take k)
     rw[List.length_take_of_le (by omega)] at hnl
     have hnb:(n0++itemNames (q.items.take k)).length≤9000:=by rw[List.length_append];omega
     clear hcell hna hq hnl
     obtain⟨ns,hns⟩:∃ns,n0++itemNames (q.items.take k)=ns:=⟨_,rfl⟩
     rw[hns] at HQ HNX hnb
     clear hns hlt
     have HD:Hid (SAt W B X (qC q (.slice aos q.spots.length cas) (.slice aoc q.conds.length cac) (.slice (some ⟨g,0,none⟩) q.items.length cai) vp) q (.slice aos q.spots.length cas) (.slice aoc q.conds.length cac) (.slice (some ⟨g,0,none⟩) q.items.length cai) u3 ns (wr.alloc (.cells #[.string na] 9))):=HQ.out.alloc _
     go_wp2_with (at_builtin;go_must (refine wpList_append_lies _ rfl _ _ 56 rfl W.heap.size 9 i1 (.string ⟨#[]⟩) 1 16 Tryz.underlying56 hj hy0 hy1 hy2 rfl (by decide) u3 _ _ rfl HD.out.rl _ 1 1 [.string na] rfl rfl (World.news_of_block (heap_alloc_new wr _)) str_one (by omega) (by unfold maxLen;omega) (by omega) HD.out.low.size _ rfl ?_;intro g2 cap2 w5 hown hgrow _ _;have H5:=Lib.hid (HD.out.more (l:=[na]) hgrow (by rw[strs_append,List.length_append];exact hown));clear hown hgrow))
     go_roundg (gk - 1)
     case measure=>omega
     case rel=>exact⟨k+1,by simp,by omega,by rw[HNX.out];exact H5.out⟩
    ·have hki:¬(k:Int)<(q.items.length:Int):=by omega
     have hk2:k=q.items.length:=by omega
     go_wp2_with fail
     go_meet
     case rel=>
      rw[hk2,List.take_length] at HQ
      exact HQ.out
  case rest=>
   clear H1
   have hn1:=itemNames_len q.items
   have H2:=Lib.hid hcut
   have hn1b:(n0++itemNames q.items).length≤9000:=by rw[List.length_append];omega
   obtain⟨n1,hns1⟩:∃n1,n0++itemNames q.items=n1:=⟨_,rfl⟩
   rw[hns1] at H2 hn1b
   have HN1:=Lib.hid hns1
   clear hcut hns1 hn1
   go_upto_region 10 with fail
   go_cut [55] (fun v w=>v=.bool (decide (2≤q.kind∧q.kind≤4))∧SAt W B X (qC q (.slice aos q.spots.length cas) (.slice aoc q.conds.length cac) (.slice aoi q.items.length cai) vp) q (.slice aos q.spots.length cas) (.slice aoc q.conds.length cac) (.slice aoi q.items.length cai) u3 n1 w)
   case first=>
    have c0:=H2.out.lq.at_ 0 (.int .i64 q.kind) rfl
    by_cases h2:(2:Int)≤q.kind
    ·by_cases h4:q.kind≤(4:Int)
     ·have HD:Hid (decide (2≤q.kind∧q.kind≤4)=true):=decide_eq_true ⟨h2,h4⟩
      go_wp2_with fail
      go_meet
      case rel=>exact⟨by rw[HD.out],H2.out⟩
     ·have HD:Hid (decide (2≤q.kind∧q.kind≤4)=false):=decide_eq_false (fun e=>h4 e.2)
      go_wp2_with fail
      go_meet
      case rel=>exact⟨by rw[HD.out],H2.out⟩
    ·have HD:Hid (decide (2≤q.kind∧q.kind≤4)=false):=decide_eq_false (fun e=>h2 e.1)
     go_wp2_with fail
     go_meet
     case rel=>exact⟨by rw[HD.out],H2.out⟩
   case rest=>
    obtain⟨rfl,hq⟩:=hcut
    have H3:=Lib.hid hq
    clear hq H2
    obtain⟨kd,hkd⟩:∃kd,decide (2≤q.kind∧q.kind≤4)=kd:=⟨_,rfl⟩
    have HKD:=Lib.hid hkd
    rw[hkd]
    clear hkd
    go_upto_if 55 with fail
    go_cut [3] (fun v w=>SAt W B X (qC q (.slice aos q.spots.length cas) (.slice aoc q.conds.length cac) (.slice aoi q.items.length cai) vp) q (.slice aos q.spots.length cas) (.slice aoc q.conds.length cac) (.slice aoi q.items.length cai) v (n1++if kd then [q.name,q.to,q.value.name] else []) w)
    case first=>
     cases kd with
     | false=>
      go_wp2_with fail
      go_meet
      case rel=>exact(by rw[show (n1++if false=true then [q.name,q.to,q.value.name] else [])=n1 from List.append_nil _];exact H3.out)
     | true=>
      have c8:=H3.out.lq.at_ 8 (.string q.name) rfl
      have c14:=H3.out.lq.at_ 14 (.string q.to) rfl
      have c10:=H3.out.lq.at_ 10 (.string q.value.name) rfl
      have HD:Hid (SAt W B X (qC q (.slice aos q.spots.length cas) (.slice aoc q.conds.length cac) (.slice aoi q.items.length cai) vp) q (.slice aos q.spots.length cas) (.slice aoc q.conds.length cac) (.slice aoi q.items.length cai) u3 n1 (wc.alloc (.cells #[.string q.name,.string q.to,.string q.value.name] 9))):=H3.out.alloc _
      go_wp2_with (at_builtin;go_must (refine wpList_append_lies _ rfl _ _ 56 rfl W.heap.size 9 i1 (.string ⟨#[]⟩) 1 16 Tryz.underlying56 hj hy0 hy1 hy2 rfl (by decide) u3 _ _ rfl HD.out.rl _ 3 3 [.string q.name,.string q.to,.string q.value.name] rfl rfl (World.news_of_block (heap_alloc_new wc _)) str_three (by omega) (by unfold maxLen;omega) (by omega) HD.out.low.size _ rfl ?_;intro g2 cap2 w5 hown hgrow _ _;have H5:=Lib.hid (HD.out.more (l:=[q.name,q.to,q.value.name]) hgrow (by rw[strs_append,List.length_append];exact hown));clear hown hgrow))
      go_meet
      case rel=>exact H5.out
    case rest=>
     have H4:=Lib.hid hcut
     obtain⟨n2,hns2⟩:∃n2,(n1++if kd then [q.name,q.to,q.value.name] else [])=n2:=⟨_,rfl⟩
     have hn2b:(n1++if kd then [q.name,q.to,q.value.name] else []).length≤9003:=by rw[List.length_append];split<;>simp<;>omega
     rw[hns2] at H4 hn2b
     have HN2:Hid (namesR q=n2):=by
      show _=_
      unfold namesR
      rw[←hns2,←HN1.out,←HN0.out,←HKD.out]
      unfold condNames itemNames
      by_cases hk:2≤q.kind∧q.kind≤4<;>simp[hk]
     clear hcut hns2 H3
     obtain⟨al,cl,hu3,hcl⟩:=row_slice (l:=n2) H4.out.rl
     subst hu3
     go_upto_block 4 with fail
     go_wp2_with fail
     go_loopg [6] n2.length (fun m iv w=>∃k:Nat,iv=.int .i64 (k:Int)∧k+m=n2.length∧SAt W B X (qC q (.slice aos q.spots.length cas) (.slice aoc q.conds.length cac) (.slice aoi q.items.length cai) vp) q (.slice aos q.spots.length cas) (.slice aoc q.conds.length cac) (.slice aoi q.items.length cai) (.slice al n2.length cl) n2 w∧(n2.take k).all (fun n=>n.toList.isEmpty || boundR q.spots n)=true)
     case atStart=>exact⟨0,rfl,by omega,H4.out,rfl⟩
     case round=>
      obtain⟨k,rfl,hk,hq,hall⟩:=hrel
      have HQ:=Lib.hid hq
      have HALL:=Lib.hid hall
      clear H4 hall
      by_cases hlt:k<n2.length
      ·obtain⟨g,rfl,hcell⟩:=row_at (l:=n2) (fun s=>[.string s]) (fun _=>rfl) (by rw[←strs_flat];exact hq.rl) hlt
       have p0:wr.cell? ⟨g,k,none⟩=some (.string n2[k]):=by have:=hcell 0 (by decide);simpa using this
       have hki:(k:Int)<(n2.length:Int):=by omega
       obtain⟨nm,hnm⟩:∃nm,n2[k]=nm:=⟨_,rfl⟩
       have HNX:Hid ((n2.take (k+1)).all (fun n=>n.toList.isEmpty || boundR q.spots n)=(nm.toList.isEmpty || boundR q.spots nm)):=by
        show _=_
        rw[show n2.take (k+1)=n2.take k++[n2[k]] by rw[List.take_add_one,List.getElem?_eq_getElem hlt];rfl,List.all_append,HALL.out,hnm]
        simp
       have HNO:Hid ((nm.toList.isEmpty || boundR q.spots nm)=false→n2.all (fun n=>n.toList.isEmpty || boundR q.spots n)=false):=by
        intro e
        rw[List.all_eq_false]
        exact⟨n2[k],List.getElem_mem hlt,by rw[hnm,e];simp⟩
       rw[hnm] at p0
       clear hcell hnm hlt hq
       cases he:nm.toList.isEmpty with
       | true=>
        go_upto_region 15 with fail
        go_quiet (fail)
        have H5:=Lib.hid (HQ.out.drew nq)
        go_wp2_with fail
        go_roundg (gk - 1)
        case measure=>omega
        case rel=>exact⟨k+1,by simp,by omega,H5.out,by rw[HNX.out,he];rfl⟩
       | false=>
        have d0:=cell_regrown (show wr.cell? ⟨X,0,none⟩=some (.int .i64 q.kind) from (HQ.out.lq.cell 0).trans rfl)
        have d1:=cell_regrown (show wr.cell? ⟨X,1,none⟩=some (.slice aos q.spots.length cas) from (HQ.out.lq.cell 1).trans rfl)
        have d2:=cell_regrown (show wr.cell? ⟨X,2,none⟩=some (.slice aoc q.conds.length cac) from (HQ.out.lq.cell 2).trans rfl)
        have d3:=cell_regrown (show wr.cell? ⟨X,3,none⟩=some (.slice aoi q.items.length cai) from (HQ.out.lq.cell 3).trans rfl)
        have d4:=cell_regrown (show wr.cell? ⟨X,4,none⟩=some (.int .i64 q.order) from (HQ.out.lq.cell 4).trans rfl)
        have d5:=cell_regrown (show wr.cell? ⟨X,5,none⟩=some (.bool q.down) from (HQ.out.lq.cell 5).trans rfl)
        have d6:=cell_regrown (show wr.cell? ⟨X,6,none⟩=some (.int .i64 q.skip) from (HQ.out.lq.cell 6).trans rfl)
        have d7:=cell_regrown (show wr.cell? ⟨X,7,none⟩=some (.int .i64 q.limit) from (HQ.out.lq.cell 7).trans rfl)
        have d8:=cell_regrown (show wr.cell? ⟨X,8,none⟩=some (.string q.name) from (HQ.out.lq.cell 8).trans rfl)
        have d9:=cell_regrown (show wr.cell? ⟨X,9,none⟩=some (.string q.key) from (HQ.out.lq.cell 9).trans rfl)
        have d10:=cell_regrown (show wr.cell? ⟨X,10,none⟩=some (.string q.value.name) from (HQ.out.lq.cell 10).trans rfl)
        have d11:=cell_regrown (show wr.cell? ⟨X,11,none⟩=some (.string q.value.key) from (HQ.out.lq.cell 11).trans rfl)
        have d12:=cell_regrown (show wr.cell? ⟨X,12,none⟩=some (.int .i64 q.value.val) from (HQ.out.lq.cell 12).trans rfl)
        have d13:=cell_regrown (show wr.cell? ⟨X,13,none⟩=some (.string q.type) from (HQ.out.lq.cell 13).trans rfl)
        have d14:=cell_regrown (show wr.cell? ⟨X,14,none⟩=some (.string q.to) from (HQ.out.lq.cell 14).trans rfl)
        have d15:=cell_regrown (show wr.cell? ⟨X,15,none⟩=some (.string q.label) from (HQ.out.lq.cell 15).trans rfl)
        have d16:=cell_regrown (show wr.cell? ⟨X,16,none⟩=some (vp) from (HQ.out.lq.cell 16).trans rfl)
        have e0:=cell_regrown p0
        have cB:∀d os,Calls Tryz.prog 92 #[.agg #[.int .i64 q.kind,.slice aos q.spots.length cas,.slice aoc q.conds.length cac,.slice aoi q.items.length cai,.int .i64 q.order,.bool q.down,.int .i64 q.skip,.int .i64 q.limit,.string q.name,.string q.key,.string q.value.name,.string q.value.key,.int .i64 q.value.val,.string q.type,.string q.to,.string q.label,vp],.string nm] (grow (redrawn wr d) os) fun e w''=>e=.returned (.bool (boundR q.spots nm))∧∃p:Regrown,w''=grow (redrawn wr p.d) p.os:=fun d os=>Calls.regrown_of (bound (q:=q) (HQ.out.later (below_regrown wr d os)).rs (by omega))
        go_upto_region 15 with fail
        refine wp_region_quiet_below (by kernel_rfl) (by kernel_rfl) ?_
        repeat (quiet_step (exact cB _ _))
        refine wpQuiet_nil ?_
        intro W5 hw5
        have H5:Hid (SAt W B X (qC q (.slice aos q.spots.length cas) (.slice aoc q.conds.length cac) (.slice aoi q.items.length cai) vp) q (.slice aos q.spots.length cas) (.slice aoc q.conds.length cac) (.slice aoi q.items.length cai) (.slice (some ⟨g,0,none⟩) n2.length cl) n2 W5):=by
         obtain⟨⟨dq,osq⟩,rfl⟩:=hw5
         exact HQ.out.later (below_regrown wr dq osq)
        clear hw5 cB e0 d0 d1 d2 d3 d4 d5 d6 d7 d8 d9 d10 d11 d12 d13 d14 d15 d16
        obtain⟨bd,hbd⟩:∃bd,boundR q.spots nm=bd:=⟨_,rfl⟩
        have HBD:=Lib.hid hbd
        rw[hbd]
        clear hbd
        cases bd with
        | true=>
         go_wp2_with fail
         go_roundg (gk - 1)
         case measure=>omega
         case rel=>exact⟨k+1,by simp,by omega,H5.out,by rw[HNX.out,HBD.out];simp⟩
        | false=>
         have HR:Hid (scopedR q=false):=by
          show _=_
          unfold scopedR
          rw[HN2.out,HNO.out (by rw[he,HBD.out];rfl)]
          rfl
         go_wp2_with fail
         refine bodyPost_ret (v:=.bool false) ?_ rfl ⟨?_,H5.out.low⟩
         ·simp[results,Tryz.results43,go_sem]
         ·rw[HR.out]
      ·have hki:¬(k:Int)<(n2.length:Int):=by omega
       have hk2:k=n2.length:=by omega
       have c8:=HQ.out.lq.at_ 8 (.string q.name) rfl
       have c10:=HQ.out.lq.at_ 10 (.string q.value.name) rfl
       have HSC:Hid (scopedR q=(q.value.name.toList.isEmpty || (q.value.name.toList==q.name.toList))):=by
        show _=_
        have:=HALL.out
        rw[hk2,List.take_length] at this
        unfold scopedR
        rw[HN2.out,this]
        rfl
       clear hq
       cases he:q.value.name.toList.isEmpty with
       | true=>
        go_wp2_with fail
        refine bodyPost_ret (v:=.bool true) ?_ rfl ⟨?_,HQ.out.low⟩
        ·simp[results,Tryz.results43,go_sem]
        ·rw[HSC.out,he];rfl
       | false=>
        cases hf:(q.value.name.toList==q.name.toList) with
        | true=>
         go_wp2_with fail
         refine bodyPost_ret (v:=.bool true) ?_ rfl ⟨?_,HQ.out.low⟩
         ·simp[results,Tryz.results43,go_sem]
         ·rw[HSC.out,he,hf];rfl
        | false=>
         go_wp2_with fail
         refine bodyPost_ret (v:=.bool false) ?_ rfl ⟨?_,HQ.out.low⟩
         ·simp[results,Tryz.results43,go_sem]
         ·rw[HSC.out,he,hf];rfl
end Go.Proofs.YtobgbmfpicmpcaaGreatDoor

