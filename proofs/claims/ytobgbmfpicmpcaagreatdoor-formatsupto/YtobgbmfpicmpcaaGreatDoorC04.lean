/- The reference's reader: a path is read into a new row of spots. -/
import Derived.Test.YtobgbmfpicmpcaaGreatDoorC03
import Derived.Deep.DeepMust
namespace Go.Proofs.YtobgbmfpicmpcaaGreatDoor
open Go.RowKit
theorem five_at {w:World} {a b c d e:Value} {T:TypeId} {B:Nat} (hB:w.heap.size=B):∀(j:Nat) (u:Value),[a,b,c,d,e][j]?=some u→(w.alloc (.cells #[a,b,c,d,e] T)).cell? ((⟨B,0,none⟩:Addr).add j)=some u:=by
 subst hB;exact five_cells
set_option maxRecDepth 100000 in
set_option maxHeartbeats 4000000 in
theorem path {b:Nat} {lv:Value} {ts:List Tok} {st:RS} {W:World} (h:RI b lv ts st W):
  Calls Tryz.prog 88 #[.pointer (some ⟨b,0,none⟩)] W fun e W'=>∃v,e=.returned v∧W'.ownsRow W.heap.size 85 5 v (pathR st).1.length (spotCells (pathR st).1)∧RI b lv ts (pathR st).2 W'∧W.grownBy W' (some b):=by
 obtain⟨i0,hi,hz0,hz1,hz2⟩:=info_parts Tryz.infoSpot
 have HI:=Lib.hid h
 have hbl:=h.box.lt
 have hlen:=h.len
 have hrl:st.rest.length≤ts.length:=by obtain⟨_,_,_,_,_,_,_,e,_⟩:=h.seen;exact e
 obtain⟨p0,s1,hp0⟩:∃p s,spotR spot0 st=(p,s):=⟨_,_,rfl⟩
 have HP0:=Lib.hid hp0
 have hl1:s1.rest.length≤st.rest.length:=by have:=spotR_len spot0 st;rw[hp0] at this;exact this
 have HPA:Hid (pathR st=pathLoop s1.rest.length [p0] s1):=by show _=_;unfold pathR;rw[hp0]
 clear h hp0
 go_enter Tryz.func88,Tryz.ntmps88
 go_wp2_with fail
 refine(spotIs HI.out spot0 p0 HP0.out).mono ?_
 rintro e W1 ⟨rfl,h1,g1⟩
 have hs1:=g1.size
 have H1:Hid (PathAt W b lv ts s1 W1.heap.size #[.string p0.name,.string p0.label,.string p0.type,.int .i64 p0.least,.int .i64 p0.most] (.slice none 0 0) [] (W1.alloc (.cells #[.string p0.name,.string p0.label,.string p0.type,.int .i64 p0.least,.int .i64 p0.most] 85))):=by
  have O:=One.start h1 #[.string p0.name,.string p0.label,.string p0.type,.int .i64 p0.least,.int .i64 p0.most] 85
  exact⟨⟨O.ri,O.lx,grown_trans g1 O.grown,by omega,O.xb,O.xl⟩,World.ownsRow_nil _ _ _ _,by simp[Value.ownBlock]⟩
 clear h1 g1
 have hsz1:=H1.out.one.grown.size
 go_wp2_with (at_builtin;go_must (refine wpList_append_lies _ rfl _ _ 22 rfl W.heap.size 85 i0 (.agg #[.string ⟨#[]⟩,.string ⟨#[]⟩,.string ⟨#[]⟩,.int .i64 0,.int .i64 0]) 5 64 Tryz.underlying22 hi hz0 hz1 hz2 rfl (by decide) (.slice none 0 0) _ _ rfl (H1.out.row.alloc _) _ 1 1 [.string p0.name,.string p0.label,.string p0.type,.int .i64 p0.least,.int .i64 p0.most] rfl rfl (five_at (by simp)) five_one (by omega) (by unfold maxLen;simp only[List.length_nil];omega) (by simp only[List.length_nil];omega) (by simp;omega) _ rfl ?_;intro g cap w2 hown hgrow hat _))
 have H2:Hid (PathAt W b lv ts s1 W1.heap.size #[.string p0.name,.string p0.label,.string p0.type,.int .i64 p0.least,.int .i64 p0.most] (.slice (some ⟨g,0,none⟩) 1 cap) [p0] w2):=H1.out.added (p:=p0) hown hgrow (by simpa using hat)
 clear hown hgrow hat H1 hsz1
 go_wp2
 obtain⟨X,hX⟩:∃X,X=W1.heap.size:=⟨_,rfl⟩
 rw[←hX] at H2⊢
 clear hX hs1
 go_loopg [3] s1.rest.length (fun n v wr=>∃(out:List PSpot) (s':RS) (lastp:PSpot),PathAt W b lv ts s' X #[.string lastp.name,.string lastp.label,.string lastp.type,.int .i64 lastp.least,.int .i64 lastp.most] v out wr∧s'.rest.length≤n∧out.length+n≤2001∧pathR st=pathLoop n out s')
 case atStart=>exact⟨[p0],s1,p0,H2.out,Nat.le_refl _,by simp;omega,HPA.out⟩
 case round=>
  obtain⟨out,s',lastp,hpa,hrn,hon,hpl⟩:=hrel
  have HA:=Lib.hid hpa
  have HPL:=Lib.hid hpl
  have hbx:=hpa.one.ri.box
  have q2:=hbx.at_ 2 (.bool s'.bad) rfl
  clear hpa hpl hbx H2
  cases hb:s'.bad with
  | true=>
   have HN:Hid (pathR st=(out,s')):=by
    show _=_
    rw[HPL.out]
    cases gk with
    | zero=>rfl
    | succ n=>simp only[pathLoop];rw[hb];rfl
   rw[hb] at q2
   clear hb
   go_wp2_with fail
   refine bodyPost_ret (v:=u3) ?_ rfl ⟨_,rfl,by rw[HN.out];exact HA.out.row,by rw[HN.out];exact HA.out.one.ri,HA.out.one.grown⟩
   simp[results,Tryz.results88,go_sem]
  | false=>
   rw[hb] at q2
   have HB:=Lib.hid hb
   clear hb
   cases hpk:peekR mTo s' with
   | false=>
    have HPK:=Lib.hid hpk
    have HN:Hid (pathR st=(out,s')):=by
     show _=_
     rw[HPL.out]
     cases gk with
     | zero=>rfl
     | succ n=>simp only[pathLoop];rw[hpk];simp
    have hh:Hid (hasR mTo s'=s'):=by show _=_;unfold hasR;rw[hpk];rfl
    clear hpk
    go_wp2_with fail
    refine(has HA.out.one.ri mTo false HPK.out).mono ?_
    rintro e W3 ⟨rfl,h3,g3⟩
    rw[hh.out] at h3
    have H3:=Lib.hid (HA.out.call h3 g3)
    clear h3 g3 hh q2
    go_wp2_with fail
    refine bodyPost_ret (v:=u3) ?_ rfl ⟨_,rfl,by rw[HN.out];exact H3.out.row,by rw[HN.out];exact H3.out.one.ri,H3.out.one.grown⟩
    simp[results,Tryz.results88,go_sem]
   | true=>
    have HPK:=Lib.hid hpk
    obtain⟨n,hn⟩:∃n,gk=n+1:=by
     cases gk with
     | succ n=>exact⟨n,rfl⟩
     | zero=>
      exfalso
      have h0:s'.rest=[]:=List.length_eq_zero_iff.1 (by omega)
      unfold peekR at hpk
      rw[h0] at hpk
      simp at hpk
    subst hn
    have hl3:(hasR mTo s').rest.length≤n:=by
     unfold hasR;rw[hpk];simp only[if_true,List.length_tail];omega
    clear hpk
    obtain⟨ty,s3,hty⟩:∃ty s3,titleR (hasR mTo s')=(ty,s3):=⟨_,_,rfl⟩
    have HTY:=Lib.hid hty
    clear hty
    go_wp2_with fail
    refine(has HA.out.one.ri mTo true HPK.out).mono ?_
    rintro e W3 ⟨rfl,h3,g3⟩
    have H3:=Lib.hid ((HA.out.call h3 g3).more #[.string ⟨#[]⟩,.string ⟨#[]⟩,.string ⟨#[]⟩,.int .i64 1,.int .i64 1])
    clear h3 g3 q2
    go_wp2_with fail
    obtain⟨Y,hY⟩:∃Y,Y=W3.heap.size:=⟨_,rfl⟩
    rw[←hY] at H3⊢
    clear hY
    generalize W3.alloc (.cells #[.string ⟨#[]⟩,.string ⟨#[]⟩,.string ⟨#[]⟩,.int .i64 1,.int .i64 1] 85)=W4 at H3⊢
    refine(titleIs H3.out.two.ri HTY.out).mono ?_
    rintro e W5 ⟨rfl,h5,g5⟩
    have H5a:=H3.out.call h5 g5
    have f2:W5.frozen? ⟨Y,2,none⟩=false:=H5a.two.ly.free 2
    have c2:=H5a.two.ly.at_ 2 (.string ⟨#[]⟩) rfl
    have H5:=Lib.hid (H5a.setY 2 (.string ty))
    clear h5 g5 H5a
    go_wp2_with fail
    generalize W5.setCell ⟨Y,2,none⟩ (.string ty)=W6 at H5⊢
    clear f2 c2
    cases hsr:peekR mStar s3 with
    | false=>
     have HSP:=Lib.hid hsr
     obtain⟨s4,hs4⟩:∃s4,s4=s3:=⟨_,rfl⟩
     have HSR:Hid (starR s3=((1,1),s4)):=by show _=_;unfold starR;rw[hsr,hs4];rfl
     have hh:hasR mStar s3=s4:=by unfold hasR;rw[hsr,hs4];rfl
     clear hsr hs4
     have HH:=Lib.hid hh
     clear hh
     refine(has H5.out.two.ri mStar false HSP.out).mono ?_
     rintro e W7 ⟨rfl,h7,g7⟩
     rw[HH.out] at h7
     have H7:=Lib.hid (H5.out.call h7 g7)
     clear h7 g7
     go_wp2_with fail
     obtain⟨q2,s6,hq2⟩:∃q s,spotR ⟨e0,e0,ty,1,1⟩ (mustR mArrow s4)=(q,s):=⟨_,_,rfl⟩
     have HQ2:=Lib.hid hq2
     have HST:Hid (stepR (hasR mTo s')=(q2,s6)):=by show _=_;unfold stepR;simp only[HTY.out,HSR.out];exact hq2
     have HPL2:Hid (pathR st=pathLoop n (out++[q2]) s6):=by
      show _=_
      rw[HPL.out]
      simp only[pathLoop]
      rw[HB.out,HPK.out,HST.out];rfl
     have hl6:s6.rest.length≤n:=by
      have:=stepR_len (hasR mTo s')
      rw[HST.out] at this
      exact Nat.le_trans this hl3
     clear hq2
     refine(must H7.out.two.ri mArrow).mono ?_
     rintro e W8 ⟨rfl,h8,g8⟩
     have H8:=Lib.hid (H7.out.call h8 g8)
     clear h8 g8
     have y0:=H8.out.two.ly.at_ 0 (.string ⟨#[]⟩) rfl
     have y1:=H8.out.two.ly.at_ 1 (.string ⟨#[]⟩) rfl
     have y2:=H8.out.two.ly.at_ 2 (.string ty) rfl
     have y3:=H8.out.two.ly.at_ 3 (.int .i64 1) rfl
     have y4:=H8.out.two.ly.at_ 4 (.int .i64 1) rfl
     go_wp2_with fail
     refine(spotIs H8.out.two.ri ⟨e0,e0,ty,1,1⟩ q2 HQ2.out).mono ?_
     rintro e W9 ⟨rfl,h9,g9⟩
     have H9:=Lib.hid ((H8.out.call h9 g9).less)
     clear h9 g9 y0 y1 y2 y3 y4
     have x0:=H9.out.one.lx.at_ 0 (.string lastp.name) rfl
     have x1:=H9.out.one.lx.at_ 1 (.string lastp.label) rfl
     have x2:=H9.out.one.lx.at_ 2 (.string lastp.type) rfl
     have x3:=H9.out.one.lx.at_ 3 (.int .i64 lastp.least) rfl
     have x4:=H9.out.one.lx.at_ 4 (.int .i64 lastp.most) rfl
     have f0:=H9.out.one.lx.free 0
     have f1:=H9.out.one.lx.free 1
     have f2:=H9.out.one.lx.free 2
     have f3:=H9.out.one.lx.free 3
     have f4:=H9.out.one.lx.free 4
     have hsz9:=H9.out.one.grown.size
     have HS:Hid (PathAt W b lv ts s6 X #[.string q2.name,.string q2.label,.string q2.type,.int .i64 q2.least,.int .i64 q2.most] u3 out (((((W9.setCell ⟨X,0,none⟩ (.string q2.name)).setCell ⟨X,1,none⟩ (.string q2.label)).setCell ⟨X,2,none⟩ (.string q2.type)).setCell ⟨X,3,none⟩ (.int .i64 q2.least)).setCell ⟨X,4,none⟩ (.int .i64 q2.most))):=(((((H9.out.setX 0 (.string q2.name)).setX 1 (.string q2.label)).setX 2 (.string q2.type)).setX 3 (.int .i64 q2.least)).setX 4 (.int .i64 q2.most))
     go_wp2_with (at_builtin;go_must (refine wpList_append_lies _ rfl _ _ 22 rfl W.heap.size 85 i0 (.agg #[.string ⟨#[]⟩,.string ⟨#[]⟩,.string ⟨#[]⟩,.int .i64 0,.int .i64 0]) 5 64 Tryz.underlying22 hi hz0 hz1 hz2 rfl (by decide) u3 _ _ rfl (HS.out.row.alloc _) _ 1 1 [.string q2.name,.string q2.label,.string q2.type,.int .i64 q2.least,.int .i64 q2.most] rfl rfl (five_at (by simp[World.setCell])) five_one (by omega) (by unfold maxLen;omega) (by omega) (by simp[World.setCell];omega) _ rfl ?_;intro g2 cap2 w10 hown hgrow hat _))
     have H10:Hid (PathAt W b lv ts s6 X #[.string q2.name,.string q2.label,.string q2.type,.int .i64 q2.least,.int .i64 q2.most] (.slice (some ⟨g2,0,none⟩) (out.length+1) cap2) (out++[q2]) w10):=HS.out.added (p:=q2) hown hgrow (by simpa using hat)
     clear hown hgrow hat HS H9 hsz9 x0 x1 x2 x3 x4 f0 f1 f2 f3 f4
     go_wp2
     go_roundg n
     case measure=>omega
     case rel=>exact⟨out++[q2],s6,q2,H10.out,hl6,by simp;omega,HPL2.out⟩
    | true=>
     have HSP:=Lib.hid hsr
     obtain⟨lo,sa,hlo⟩:∃lo sa,countR 0 4 (hasR mStar s3)=(lo,sa):=⟨_,_,rfl⟩
     obtain⟨mo,s4,hmo⟩:∃mo sb,countR lo 4 (mustR mDots sa)=(mo,sb):=⟨_,_,rfl⟩
     have HSR:Hid (starR s3=((lo,mo),s4)):=by show _=_;unfold starR;rw[hsr];simp only[if_true,hlo,hmo]
     have HLO:=Lib.hid hlo
     have HMO:=Lib.hid hmo
     clear hsr hlo hmo
     refine(has H5.out.two.ri mStar true HSP.out).mono ?_
     rintro e Wa ⟨rfl,h7,g7⟩
     have Ha:=Lib.hid (H5.out.call h7 g7)
     clear h7 g7
     go_wp2_with fail
     refine(countIs Ha.out.two.ri HLO.out).mono ?_
     rintro e Wb ⟨rfl,h7,g7⟩
     have Hb0:=Ha.out.call h7 g7
     have f3:Wb.frozen? ⟨Y,3,none⟩=false:=Hb0.two.ly.free 3
     have c3:=Hb0.two.ly.at_ 3 (.int .i64 1) rfl
     have Hb:=Lib.hid (Hb0.setY 3 (.int .i64 lo))
     clear h7 g7 Hb0
     go_wp2_with fail
     generalize Wb.setCell ⟨Y,3,none⟩ (.int .i64 lo)=Wc at Hb⊢
     clear f3 c3
     refine(must Hb.out.two.ri mDots).mono ?_
     rintro e Wd ⟨rfl,h7,g7⟩
     have Hd:=Lib.hid (Hb.out.call h7 g7)
     clear h7 g7
     have c3:=Hd.out.two.ly.at_ 3 (.int .i64 lo) rfl
     go_wp2_with fail
     refine(countIs Hd.out.two.ri HMO.out).mono ?_
     rintro e We ⟨rfl,h7,g7⟩
     have He0:=Hd.out.call h7 g7
     have f4:We.frozen? ⟨Y,4,none⟩=false:=He0.two.ly.free 4
     have c4:=He0.two.ly.at_ 4 (.int .i64 1) rfl
     have H7:=Lib.hid (He0.setY 4 (.int .i64 mo))
     clear h7 g7 He0 c3
     go_wp2_with fail
     generalize We.setCell ⟨Y,4,none⟩ (.int .i64 mo)=W7 at H7⊢
     clear f4 c4
     obtain⟨q2,s6,hq2⟩:∃q s,spotR ⟨e0,e0,ty,lo,mo⟩ (mustR mArrow s4)=(q,s):=⟨_,_,rfl⟩
     have HQ2:=Lib.hid hq2
     have HST:Hid (stepR (hasR mTo s')=(q2,s6)):=by show _=_;unfold stepR;simp only[HTY.out,HSR.out];exact hq2
     have HPL2:Hid (pathR st=pathLoop n (out++[q2]) s6):=by
      show _=_
      rw[HPL.out]
      simp only[pathLoop]
      rw[HB.out,HPK.out,HST.out];rfl
     have hl6:s6.rest.length≤n:=by
      have:=stepR_len (hasR mTo s')
      rw[HST.out] at this
      exact Nat.le_trans this hl3
     clear hq2
     refine(must H7.out.two.ri mArrow).mono ?_
     rintro e W8 ⟨rfl,h8,g8⟩
     have H8:=Lib.hid (H7.out.call h8 g8)
     clear h8 g8
     have y0:=H8.out.two.ly.at_ 0 (.string ⟨#[]⟩) rfl
     have y1:=H8.out.two.ly.at_ 1 (.string ⟨#[]⟩) rfl
     have y2:=H8.out.two.ly.at_ 2 (.string ty) rfl
     have y3:=H8.out.two.ly.at_ 3 (.int .i64 lo) rfl
     have y4:=H8.out.two.ly.at_ 4 (.int .i64 mo) rfl
     go_wp2_with fail
     refine(spotIs H8.out.two.ri ⟨e0,e0,ty,lo,mo⟩ q2 HQ2.out).mono ?_
     rintro e W9 ⟨rfl,h9,g9⟩
     have H9:=Lib.hid ((H8.out.call h9 g9).less)
     clear h9 g9 y0 y1 y2 y3 y4
     have x0:=H9.out.one.lx.at_ 0 (.string lastp.name) rfl
     have x1:=H9.out.one.lx.at_ 1 (.string lastp.label) rfl
     have x2:=H9.out.one.lx.at_ 2 (.string lastp.type) rfl
     have x3:=H9.out.one.lx.at_ 3 (.int .i64 lastp.least) rfl
     have x4:=H9.out.one.lx.at_ 4 (.int .i64 lastp.most) rfl
     have f0:=H9.out.one.lx.free 0
     have f1:=H9.out.one.lx.free 1
     have f2:=H9.out.one.lx.free 2
     have f3:=H9.out.one.lx.free 3
     have f4:=H9.out.one.lx.free 4
     have hsz9:=H9.out.one.grown.size
     have HS:Hid (PathAt W b lv ts s6 X #[.string q2.name,.string q2.label,.string q2.type,.int .i64 q2.least,.int .i64 q2.most] u3 out (((((W9.setCell ⟨X,0,none⟩ (.string q2.name)).setCell ⟨X,1,none⟩ (.string q2.label)).setCell ⟨X,2,none⟩ (.string q2.type)).setCell ⟨X,3,none⟩ (.int .i64 q2.least)).setCell ⟨X,4,none⟩ (.int .i64 q2.most))):=(((((H9.out.setX 0 (.string q2.name)).setX 1 (.string q2.label)).setX 2 (.string q2.type)).setX 3 (.int .i64 q2.least)).setX 4 (.int .i64 q2.most))
     go_wp2_with (at_builtin;go_must (refine wpList_append_lies _ rfl _ _ 22 rfl W.heap.size 85 i0 (.agg #[.string ⟨#[]⟩,.string ⟨#[]⟩,.string ⟨#[]⟩,.int .i64 0,.int .i64 0]) 5 64 Tryz.underlying22 hi hz0 hz1 hz2 rfl (by decide) u3 _ _ rfl (HS.out.row.alloc _) _ 1 1 [.string q2.name,.string q2.label,.string q2.type,.int .i64 q2.least,.int .i64 q2.most] rfl rfl (five_at (by simp[World.setCell])) five_one (by omega) (by unfold maxLen;omega) (by omega) (by simp[World.setCell];omega) _ rfl ?_;intro g2 cap2 w10 hown hgrow hat _))
     have H10:Hid (PathAt W b lv ts s6 X #[.string q2.name,.string q2.label,.string q2.type,.int .i64 q2.least,.int .i64 q2.most] (.slice (some ⟨g2,0,none⟩) (out.length+1) cap2) (out++[q2]) w10):=HS.out.added (p:=q2) hown hgrow (by simpa using hat)
     clear hown hgrow hat HS H9 hsz9 x0 x1 x2 x3 x4 f0 f1 f2 f3 f4
     go_wp2
     go_roundg n
     case measure=>omega
     case rel=>exact⟨out++[q2],s6,q2,H10.out,hl6,by simp;omega,HPL2.out⟩
end Go.Proofs.YtobgbmfpicmpcaaGreatDoor

/- The reference's reader beside the query that it fills: what stands where, and what an append or a store leaves. No walk in this text. -/
namespace Go.Proofs.YtobgbmfpicmpcaaGreatDoor
open Go.RowKit
theorem row_loc {W:World} {B k n x:Nat} {T T':TypeId} {v:Value} {xs:List Value} {cs:Array Value} (ho:W.ownsRow B T k v n xs) (hl:Loc W x cs T') (hT:T≠T'):v.ownBlock≠some x:=by
 intro he
 rcases ho.2 with ⟨rfl,_⟩|⟨g,cap,cur,rfl,hb,hg,_⟩
 ·simp[Value.ownBlock] at he
 ·simp[Value.ownBlock] at he
  subst he
  unfold Loc at hl
  rw[hg] at hl
  simp at hl
  exact hT hl.2
theorem row_row {W:World} {B k n B' k' n':Nat} {T T':TypeId} {v v':Value} {xs xs':List Value} (ho:W.ownsRow B T k v n xs) (ho':W.ownsRow B' T' k' v' n' xs') (hT:T≠T'):v.ownBlock=none∨v.ownBlock≠v'.ownBlock:=by
 rcases ho.2 with ⟨rfl,_⟩|⟨g,cap,cur,rfl,hb,hg,_⟩
 ·left;simp[Value.ownBlock]
 ·right
  intro he
  rcases ho'.2 with ⟨rfl,_⟩|⟨g2,cap2,cur2,rfl,hb2,hg2,_⟩
  ·simp[Value.ownBlock] at he
  ·simp[Value.ownBlock] at he
   subst he
   rw[hg] at hg2
   simp at hg2
   exact hT hg2.2
theorem RI.byRow {W w2:World} {b:Nat} {lv:Value} {ts:List Tok} {st:RS} {B k n:Nat} {T:TypeId} {v:Value} {xs:List Value} (h:RI b lv ts st W) (ho:W.ownsRow B T k v n xs) (hg:W.grownBy w2 v.ownBlock) (h1:T≠76) (h2:153≠T):RI b lv ts st w2:=by
 obtain⟨B',ho'⟩:=h.row
 exact h.kept hg (fun e=>row_loc ho h.box h1 e.symm) (row_row ho' ho h2)
theorem Loc.byRow {W w2:World} {x:Nat} {cs:Array Value} {T':TypeId} {B k n:Nat} {T:TypeId} {v:Value} {xs:List Value} (h:Loc W x cs T') (ho:W.ownsRow B T k v n xs) (hg:W.grownBy w2 v.ownBlock) (h1:T≠T'):Loc w2 x cs T':=
 h.grown hg (fun e=>row_loc ho h h1 e.symm)
theorem grown_byRow {W0 W w2:World} {b k n:Nat} {T:TypeId} {v:Value} {xs:List Value} (h:W0.grownBy W (some b)) (ho:W.ownsRow W0.heap.size T k v n xs) (hg:W.grownBy w2 v.ownBlock):W0.grownBy w2 (some b):=by
 have hs:=h.size
 refine⟨hg.os.trans h.os,hg.tape.trans h.tape,hg.output.trans h.output,Nat.le_trans hs hg.size,?_⟩
 intro j hj hjb
 refine(hg.block j (by omega) ?_).trans (h.block j hj hjb)
 intro e
 have:=(ho.lt j e.symm).1
 omega
def condCells (l:List PCond):List Value:=l.flatMap fun c=>[.int .i64 c.op,.string c.a.name,.string c.a.key,.int .i64 c.a.val,.string c.b.name,.string c.b.key,.int .i64 c.b.val]
theorem condCells_snoc (l:List PCond) (c:PCond):condCells (l++[c])=condCells l++[.int .i64 c.op,.string c.a.name,.string c.a.key,.int .i64 c.a.val,.string c.b.name,.string c.b.key,.int .i64 c.b.val]:=by
 unfold condCells;rw[List.flatMap_append];simp
def itemCells (l:List PItem):List Value:=l.flatMap fun c=>[.string c.name,.string c.key]
theorem itemCells_snoc (l:List PItem) (c:PItem):itemCells (l++[c])=itemCells l++[.string c.name,.string c.key]:=by
 unfold itemCells;rw[List.flatMap_append];simp
def pairCells (l:List PPair):List Value:=l.flatMap fun c=>[.string c.key,.int .i64 c.val]
theorem pairCells_snoc (l:List PPair) (c:PPair):pairCells (l++[c])=pairCells l++[.string c.key,.int .i64 c.val]:=by
 unfold pairCells;rw[List.flatMap_append];simp
theorem spotCells_append (l m:List PSpot):spotCells (l++m)=spotCells l++spotCells m:=by unfold spotCells;rw[List.flatMap_append]
theorem spotCells_length (l:List PSpot):(spotCells l).length=l.length*5:=by
 induction l with
 | nil=>rfl
 | cons x l ih=>show ([_,_,_,_,_]++spotCells l).length=_;rw[List.length_append,ih];simp;omega
theorem spotCells_one (l:List PSpot):∀u∈spotCells l,u.oneCell'=true:=by
 intro u hu
 unfold spotCells at hu
 obtain⟨x,_,hx⟩:=List.mem_flatMap.1 hu
 exact five_one u hx
structure QRow where
 vs:Value
 sp:List PSpot
 vc:Value
 cd:List PCond
 vi:Value
 it:List PItem
 vp:Value
 pr:List PPair
structure QAt (W0:World) (b:Nat) (lv:Value) (ts:List Tok) (st:RS) (x:Nat) (cs:Array Value) (R:QRow) (W:World):Prop where
 ri:RI b lv ts st W
 lq:Loc W x cs 29
 grown:W0.grownBy W (some b)
 nx:W0.heap.size≤x
 rs:W.ownsRow W0.heap.size 85 5 R.vs R.sp.length (spotCells R.sp)
 rc:W.ownsRow W0.heap.size 87 7 R.vc R.cd.length (condCells R.cd)
 rt:W.ownsRow W0.heap.size 89 2 R.vi R.it.length (itemCells R.it)
 rp:W.ownsRow W0.heap.size 91 2 R.vp R.pr.length (pairCells R.pr)
variable {W0 W W' w2:World} {b x:Nat} {lv:Value} {ts:List Tok} {st st':RS} {cs:Array Value} {R:QRow}
theorem QAt.xb (h:QAt W0 b lv ts st x cs R W):x≠b:=by
 rintro rfl
 have h1:=h.lq
 have h2:=h.ri.box
 unfold Loc at h1 h2
 rw[h1] at h2
 simp at h2
theorem QAt.call (h:QAt W0 b lv ts st x cs R W) (h1:RI b lv ts st' W') (g1:W.grownBy W' (some b)):QAt W0 b lv ts st' x cs R W':=
 ⟨h1,h.lq.grown g1 (by simpa using h.xb),grown_trans h.grown g1,h.nx,h.rs.kept g1 (Or.inr (row_loc h.rs h.ri.box (by decide))),h.rc.kept g1 (Or.inr (row_loc h.rc h.ri.box (by decide))),h.rt.kept g1 (Or.inr (row_loc h.rt h.ri.box (by decide))),h.rp.kept g1 (Or.inr (row_loc h.rp h.ri.box (by decide)))⟩
theorem QAt.alloc (h:QAt W0 b lv ts st x cs R W) (o:Obj):QAt W0 b lv ts st x cs R (W.alloc o):=h.call (h.ri.alloc o) (grown_alloc W o _)
theorem QAt.drew (h:QAt W0 b lv ts st x cs R W) (n:Nat):QAt W0 b lv ts st x cs R (W.drewN n):=h.call (h.ri.drew n) (grown_drew W n _)
theorem QAt.setBad (h:QAt W0 b lv ts st x cs R W) (y:Bool):QAt W0 b lv ts ⟨st.rest,y⟩ x cs R (W.setCell ⟨b,2,none⟩ (.bool y)):=h.call (h.ri.setBad y) (grown_set W b 2 _)
theorem QAt.set (h:QAt W0 b lv ts st x cs R W) (j:Nat) (u:Value):QAt W0 b lv ts st x (cs.setIfInBounds j u) R (W.setCell ⟨x,j,none⟩ u):=by
 have g:=grown_set W x j u
 obtain⟨B,ho⟩:=h.ri.row
 exact⟨h.ri.setOther (fun e=>h.xb e.symm) (row_loc ho h.lq (by decide)) j u,h.lq.set j u,grown_own h.grown h.nx j u,h.nx,h.rs.kept g (Or.inr (row_loc h.rs h.lq (by decide))),h.rc.kept g (Or.inr (row_loc h.rc h.lq (by decide))),h.rt.kept g (Or.inr (row_loc h.rt h.lq (by decide))),h.rp.kept g (Or.inr (row_loc h.rp h.lq (by decide)))⟩
theorem QAt.spots {v:Value} {l:List PSpot} (h:QAt W0 b lv ts st x cs R W) (hg:W.grownBy w2 R.vs.ownBlock) (ho:w2.ownsRow W0.heap.size 85 5 v (R.sp++l).length (spotCells (R.sp++l))):QAt W0 b lv ts st x cs {R with vs:=v,sp:=R.sp++l} w2:=
 ⟨h.ri.byRow h.rs hg (by decide) (by decide),h.lq.byRow h.rs hg (by decide),grown_byRow h.grown h.rs hg,h.nx,ho,h.rc.kept hg (row_row h.rc h.rs (by decide)),h.rt.kept hg (row_row h.rt h.rs (by decide)),h.rp.kept hg (row_row h.rp h.rs (by decide))⟩
theorem QAt.conds {v:Value} {l:List PCond} (h:QAt W0 b lv ts st x cs R W) (hg:W.grownBy w2 R.vc.ownBlock) (ho:w2.ownsRow W0.heap.size 87 7 v (R.cd++l).length (condCells (R.cd++l))):QAt W0 b lv ts st x cs {R with vc:=v,cd:=R.cd++l} w2:=
 ⟨h.ri.byRow h.rc hg (by decide) (by decide),h.lq.byRow h.rc hg (by decide),grown_byRow h.grown h.rc hg,h.nx,h.rs.kept hg (row_row h.rs h.rc (by decide)),ho,h.rt.kept hg (row_row h.rt h.rc (by decide)),h.rp.kept hg (row_row h.rp h.rc (by decide))⟩
theorem QAt.items {v:Value} {l:List PItem} (h:QAt W0 b lv ts st x cs R W) (hg:W.grownBy w2 R.vi.ownBlock) (ho:w2.ownsRow W0.heap.size 89 2 v (R.it++l).length (itemCells (R.it++l))):QAt W0 b lv ts st x cs {R with vi:=v,it:=R.it++l} w2:=
 ⟨h.ri.byRow h.rt hg (by decide) (by decide),h.lq.byRow h.rt hg (by decide),grown_byRow h.grown h.rt hg,h.nx,h.rs.kept hg (row_row h.rs h.rt (by decide)),h.rc.kept hg (row_row h.rc h.rt (by decide)),ho,h.rp.kept hg (row_row h.rp h.rt (by decide))⟩
theorem QAt.pairs {v:Value} {l:List PPair} (h:QAt W0 b lv ts st x cs R W) (hg:W.grownBy w2 R.vp.ownBlock) (ho:w2.ownsRow W0.heap.size 91 2 v (R.pr++l).length (pairCells (R.pr++l))):QAt W0 b lv ts st x cs {R with vp:=v,pr:=R.pr++l} w2:=
 ⟨h.ri.byRow h.rp hg (by decide) (by decide),h.lq.byRow h.rp hg (by decide),grown_byRow h.grown h.rp hg,h.nx,h.rs.kept hg (row_row h.rs h.rp (by decide)),h.rc.kept hg (row_row h.rc h.rp (by decide)),h.rt.kept hg (row_row h.rt h.rp (by decide)),ho⟩
end Go.Proofs.YtobgbmfpicmpcaaGreatDoor

/- The reference's reader: conditions. -/
namespace Go.Proofs.YtobgbmfpicmpcaaGreatDoor
open Go.RowKit
def condC (c:PCond):Array Value:=#[.int .i64 c.op,.string c.a.name,.string c.a.key,.int .i64 c.a.val,.string c.b.name,.string c.b.key,.int .i64 c.b.val]
def opAt (k:Nat):ByteArray:=opsR.getD k e0
theorem opLoop_miss {m:ByteArray} {r:List ByteArray} {i:Int} {st:RS} (h:peekR m st=false):opLoop (m::r) i st=opLoop r (i+1) st:=by
 simp only[opLoop];rw[h];rfl
theorem opLoop_hit {m:ByteArray} {r:List ByteArray} {i:Int} {st:RS} (h:peekR m st=true):opLoop (m::r) i st=(i,hasR m st):=by
 simp only[opLoop];rw[h];rfl
theorem ops_drop {k:Nat} (h:k<6):opsR.drop k=opAt k::opsR.drop (k+1):=by
 have hl:opsR.length=6:=rfl
 rw[List.drop_eq_getElem_cons (by omega)]
 congr 1
 unfold opAt
 rw[List.getD_eq_getElem?_getD,List.getElem?_eq_getElem (by omega)];rfl
structure CondAt (W0:World) (b:Nat) (lv:Value) (ts:List Tok) (st:RS) (x y g:Nat) (cy:Array Value) (W:World):Prop where
 two:Two W0 b lv ts st x #[.int .i64 0,.string ⟨#[]⟩,.string ⟨#[]⟩,.int .i64 0,.string ⟨#[]⟩,.string ⟨#[]⟩,.int .i64 0] 87 y cy 87 W
 lg:Loc W g #[.string ⟨#[61]⟩,.string ⟨#[60,62]⟩,.string ⟨#[60]⟩,.string ⟨#[60,61]⟩,.string ⟨#[62]⟩,.string ⟨#[62,61]⟩] 9
 gb:g≠b
 gy:g≠y
theorem CondAt.call {W0 W W':World} {b:Nat} {lv:Value} {ts:List Tok} {st st':RS} {x y g:Nat} {cy:Array Value} (h:CondAt W0 b lv ts st x y g cy W) (h1:RI b lv ts st' W') (g1:W.grownBy W' (some b)):CondAt W0 b lv ts st' x y g cy W':=
 ⟨h.two.call h1 g1,h.lg.grown g1 (by simpa using h.gb),h.gb,h.gy⟩
theorem CondAt.setY {W0 W:World} {b:Nat} {lv:Value} {ts:List Tok} {st:RS} {x y g:Nat} {cy:Array Value} (h:CondAt W0 b lv ts st x y g cy W) (j:Nat) (u:Value):CondAt W0 b lv ts st x y g (cy.setIfInBounds j u) (W.setCell ⟨y,j,none⟩ u):=
 ⟨h.two.setY j u,h.lg.setOther h.gy j u,h.gb,h.gy⟩
theorem CondAt.opCell {W0 W:World} {b:Nat} {lv:Value} {ts:List Tok} {st:RS} {x y g:Nat} {cy:Array Value} (h:CondAt W0 b lv ts st x y g cy W) (k:Nat) (hk:k<6):W.cell? ⟨g,k,none⟩=some (.string (opAt k)):=by
 rw[h.lg.cell k]
 rcases (show k=0∨k=1∨k=2∨k=3∨k=4∨k=5 by omega) with rfl|rfl|rfl|rfl|rfl|rfl
 all_goals rfl
theorem termIs {b:Nat} {lv:Value} {ts:List Tok} {st st1:RS} {t:PTerm} {W:World} (h:RI b lv ts st W) (hn:termR st=(t,st1)):
  Calls Tryz.prog 91 #[.pointer (some ⟨b,0,none⟩)] W fun e W'=>e=.returned (.agg #[.string t.name,.string t.key,.int .i64 t.val])∧RI b lv ts st1 W'∧W.grownBy W' (some b):=by
 have:=term h
 rw[hn] at this;exact this
set_option maxRecDepth 100000 in
set_option maxHeartbeats 6000000 in
theorem condYes {b:Nat} {lv:Value} {ts:List Tok} {st:RS} {W:World} (h:RI b lv ts st W) (his0:peekR kIS (termR st).2=true):
  Calls Tryz.prog 89 #[.pointer (some ⟨b,0,none⟩)] W fun e W'=>e=.returned (.agg (condC (condR st).1))∧RI b lv ts (condR st).2 W'∧W.grownBy W' (some b):=by
 have HE:=Lib.hid (One.start h #[.int .i64 0,.string ⟨#[]⟩,.string ⟨#[]⟩,.int .i64 0,.string ⟨#[]⟩,.string ⟨#[]⟩,.int .i64 0] 87)
 have hbl:=h.box.lt
 clear h
 obtain⟨a,s1,ha⟩:∃a s1,termR st=(a,s1):=⟨_,_,rfl⟩
 rw[ha] at his0
 have HIS0:Hid (peekR kIS s1=true):=his0
 have HA:=Lib.hid ha
 clear ha his0
 go_enter Tryz.func89,Tryz.ntmps89
 go_wp2_with fail
 refine(termIs HE.out.ri HA.out).mono ?_
 rintro e W1 ⟨rfl,h1,g1⟩
 have H1:=Lib.hid ((HE.out.call h1 g1).two #[.int .i64 0,.string a.name,.string a.key,.int .i64 a.val,.string ⟨#[]⟩,.string ⟨#[]⟩,.int .i64 0] 87)
 clear h1 g1
 go_wp2_with fail
 obtain⟨Y,hY⟩:∃Y,Y=W1.heap.size:=⟨_,rfl⟩
 rw[←hY] at H1⊢
 clear hY
 generalize W1.alloc (.cells #[.int .i64 0,.string a.name,.string a.key,.int .i64 a.val,.string ⟨#[]⟩,.string ⟨#[]⟩,.int .i64 0] 87)=W2 at H1⊢
 have his:peekR kIS s1=true:=HIS0.out
 have HIS:=Lib.hid his
 clear his
 refine(has H1.out.ri kIS true HIS.out).mono ?_
 rintro e W3 ⟨rfl,h3,g3⟩
 have H3:=Lib.hid (H1.out.call h3 g3)
 clear h3 g3
 go_wp2_with fail
 cases hno:peekR kNOT (hasR kIS s1) with
 | true=>
  have HNO:=Lib.hid hno
  have HC:Hid (condR st=(⟨8,a,term0⟩,mustR kNULL (hasR kNOT (hasR kIS s1)))):=by
   show _=_;unfold condR;simp only[HA.out];rw[HIS.out];simp only[if_true];rw[hno];rfl
  clear hno
  refine(has H3.out.ri kNOT true HNO.out).mono ?_
  rintro e W4 ⟨rfl,h4,g4⟩
  have H4:=Lib.hid (H3.out.call h4 g4)
  clear h4 g4
  have z0:=H4.out.ly.at_ 0 (.int .i64 0) rfl
  have f0:=H4.out.ly.free 0
  go_wp2_with fail
  have H5:=Lib.hid ((H4.out.setY 0 (.int .i64 7)).setY 0 (.int .i64 8))
  clear z0 f0
  generalize (W4.setCell ⟨Y,0,none⟩ (.int .i64 7)).setCell ⟨Y,0,none⟩ (.int .i64 8)=W5 at H5⊢
  refine(must H5.out.ri kNULL).mono ?_
  rintro e W6 ⟨rfl,h6,g6⟩
  have H6:=Lib.hid (H5.out.call h6 g6)
  clear h6 g6
  have y0:=H6.out.ly.at_ 0 (.int .i64 8) rfl
  have y1:=H6.out.ly.at_ 1 (.string a.name) rfl
  have y2:=H6.out.ly.at_ 2 (.string a.key) rfl
  have y3:=H6.out.ly.at_ 3 (.int .i64 a.val) rfl
  have y4:=H6.out.ly.at_ 4 (.string ⟨#[]⟩) rfl
  have y5:=H6.out.ly.at_ 5 (.string ⟨#[]⟩) rfl
  have y6:=H6.out.ly.at_ 6 (.int .i64 0) rfl
  have x0:W6.cell? ⟨W.heap.size,0,none⟩=some (.int .i64 0):=(H6.out.lx.cell 0).trans rfl
  have x1:W6.cell? ⟨W.heap.size,1,none⟩=some (.string ⟨#[]⟩):=(H6.out.lx.cell 1).trans rfl
  have x2:W6.cell? ⟨W.heap.size,2,none⟩=some (.string ⟨#[]⟩):=(H6.out.lx.cell 2).trans rfl
  have x3:W6.cell? ⟨W.heap.size,3,none⟩=some (.int .i64 0):=(H6.out.lx.cell 3).trans rfl
  have x4:W6.cell? ⟨W.heap.size,4,none⟩=some (.string ⟨#[]⟩):=(H6.out.lx.cell 4).trans rfl
  have x5:W6.cell? ⟨W.heap.size,5,none⟩=some (.string ⟨#[]⟩):=(H6.out.lx.cell 5).trans rfl
  have x6:W6.cell? ⟨W.heap.size,6,none⟩=some (.int .i64 0):=(H6.out.lx.cell 6).trans rfl
  have w0:=H6.out.lx.free 0
  have w1:=H6.out.lx.free 1
  have w2:=H6.out.lx.free 2
  have w3:=H6.out.lx.free 3
  have w4:=H6.out.lx.free 4
  have w5:=H6.out.lx.free 5
  have w6:=H6.out.lx.free 6
  have hxy:=H6.out.xy
  have hyx:Y≠W.heap.size:=fun e=>hxy e.symm
  go_wp2
  have HF:=(((((((H6.out.setX 0 (.int .i64 8)).setX 1 (.string a.name)).setX 2 (.string a.key)).setX 3 (.int .i64 a.val)).setX 4 (.string ⟨#[]⟩)).setX 5 (.string ⟨#[]⟩)).setX 6 (.int .i64 0))
  generalize (((((((W6.setCell ⟨W.heap.size,0,none⟩ (.int .i64 8)).setCell ⟨W.heap.size,1,none⟩ (.string a.name)).setCell ⟨W.heap.size,2,none⟩ (.string a.key)).setCell ⟨W.heap.size,3,none⟩ (.int .i64 a.val)).setCell ⟨W.heap.size,4,none⟩ (.string ⟨#[]⟩)).setCell ⟨W.heap.size,5,none⟩ (.string ⟨#[]⟩)).setCell ⟨W.heap.size,6,none⟩ (.int .i64 0))=WF at HF⊢
  refine bodyPost_ret (v:=.agg #[.int .i64 8,.string a.name,.string a.key,.int .i64 a.val,.string ⟨#[]⟩,.string ⟨#[]⟩,.int .i64 0]) ?_ rfl ⟨by rw[HC.out];rfl,by rw[HC.out];exact HF.ri,HF.grown⟩
  have HL:Loc WF W.heap.size #[.int .i64 8,.string a.name,.string a.key,.int .i64 a.val,.string ⟨#[]⟩,.string ⟨#[]⟩,.int .i64 0] 87:=HF.lx
  have r0:WF.cell? ⟨W.heap.size,0,none⟩=some (.int .i64 8):=(HL.cell 0).trans rfl
  have r1:WF.cell? ⟨W.heap.size,1,none⟩=some (.string a.name):=(HL.cell 1).trans rfl
  have r2:WF.cell? ⟨W.heap.size,2,none⟩=some (.string a.key):=(HL.cell 2).trans rfl
  have r3:WF.cell? ⟨W.heap.size,3,none⟩=some (.int .i64 a.val):=(HL.cell 3).trans rfl
  have r4:WF.cell? ⟨W.heap.size,4,none⟩=some (.string ⟨#[]⟩):=(HL.cell 4).trans rfl
  have r5:WF.cell? ⟨W.heap.size,5,none⟩=some (.string ⟨#[]⟩):=(HL.cell 5).trans rfl
  have r6:WF.cell? ⟨W.heap.size,6,none⟩=some (.int .i64 0):=(HL.cell 6).trans rfl
  simp[results,Tryz.results89,go_sem,r0,r1,r2,r3,r4,r5,r6]
 | false=>
  have HNO:=Lib.hid hno
  have HHS:Hid (hasR kNOT (hasR kIS s1)=hasR kIS s1):=by show _=_;unfold hasR;rw[show (if peekR kIS s1=true then (⟨s1.rest.tail,s1.bad⟩:RS) else s1)=hasR kIS s1 from rfl,hno];rfl
  have HC:Hid (condR st=(⟨7,a,term0⟩,mustR kNULL (hasR kNOT (hasR kIS s1)))):=by
   show _=_;unfold condR;simp only[HA.out];rw[HIS.out];simp only[if_true];rw[hno];rfl
  clear hno
  refine(has H3.out.ri kNOT false HNO.out).mono ?_
  rintro e W4 ⟨rfl,h4,g4⟩
  have H4:=Lib.hid (H3.out.call h4 g4)
  clear h4 g4
  have z0:=H4.out.ly.at_ 0 (.int .i64 0) rfl
  have f0:=H4.out.ly.free 0
  go_wp2_with fail
  have H5:=Lib.hid (H4.out.setY 0 (.int .i64 7))
  clear z0 f0
  generalize W4.setCell ⟨Y,0,none⟩ (.int .i64 7)=W5 at H5⊢
  refine(must H5.out.ri kNULL).mono ?_
  rintro e W6 ⟨rfl,h6,g6⟩
  have H6:=Lib.hid (H5.out.call h6 g6)
  clear h6 g6
  have y0:=H6.out.ly.at_ 0 (.int .i64 7) rfl
  have y1:=H6.out.ly.at_ 1 (.string a.name) rfl
  have y2:=H6.out.ly.at_ 2 (.string a.key) rfl
  have y3:=H6.out.ly.at_ 3 (.int .i64 a.val) rfl
  have y4:=H6.out.ly.at_ 4 (.string ⟨#[]⟩) rfl
  have y5:=H6.out.ly.at_ 5 (.string ⟨#[]⟩) rfl
  have y6:=H6.out.ly.at_ 6 (.int .i64 0) rfl
  have x0:W6.cell? ⟨W.heap.size,0,none⟩=some (.int .i64 0):=(H6.out.lx.cell 0).trans rfl
  have x1:W6.cell? ⟨W.heap.size,1,none⟩=some (.string ⟨#[]⟩):=(H6.out.lx.cell 1).trans rfl
  have x2:W6.cell? ⟨W.heap.size,2,none⟩=some (.string ⟨#[]⟩):=(H6.out.lx.cell 2).trans rfl
  have x3:W6.cell? ⟨W.heap.size,3,none⟩=some (.int .i64 0):=(H6.out.lx.cell 3).trans rfl
  have x4:W6.cell? ⟨W.heap.size,4,none⟩=some (.string ⟨#[]⟩):=(H6.out.lx.cell 4).trans rfl
  have x5:W6.cell? ⟨W.heap.size,5,none⟩=some (.string ⟨#[]⟩):=(H6.out.lx.cell 5).trans rfl
  have x6:W6.cell? ⟨W.heap.size,6,none⟩=some (.int .i64 0):=(H6.out.lx.cell 6).trans rfl
  have w0:=H6.out.lx.free 0
  have w1:=H6.out.lx.free 1
  have w2:=H6.out.lx.free 2
  have w3:=H6.out.lx.free 3
  have w4:=H6.out.lx.free 4
  have w5:=H6.out.lx.free 5
  have w6:=H6.out.lx.free 6
  have hxy:=H6.out.xy
  have hyx:Y≠W.heap.size:=fun e=>hxy e.symm
  go_wp2
  have HF:=(((((((H6.out.setX 0 (.int .i64 7)).setX 1 (.string a.name)).setX 2 (.string a.key)).setX 3 (.int .i64 a.val)).setX 4 (.string ⟨#[]⟩)).setX 5 (.string ⟨#[]⟩)).setX 6 (.int .i64 0))
  generalize (((((((W6.setCell ⟨W.heap.size,0,none⟩ (.int .i64 7)).setCell ⟨W.heap.size,1,none⟩ (.string a.name)).setCell ⟨W.heap.size,2,none⟩ (.string a.key)).setCell ⟨W.heap.size,3,none⟩ (.int .i64 a.val)).setCell ⟨W.heap.size,4,none⟩ (.string ⟨#[]⟩)).setCell ⟨W.heap.size,5,none⟩ (.string ⟨#[]⟩)).setCell ⟨W.heap.size,6,none⟩ (.int .i64 0))=WF at HF⊢
  refine bodyPost_ret (v:=.agg #[.int .i64 7,.string a.name,.string a.key,.int .i64 a.val,.string ⟨#[]⟩,.string ⟨#[]⟩,.int .i64 0]) ?_ rfl ⟨by rw[HC.out];rfl,by rw[HC.out];exact HF.ri,HF.grown⟩
  have HL:Loc WF W.heap.size #[.int .i64 7,.string a.name,.string a.key,.int .i64 a.val,.string ⟨#[]⟩,.string ⟨#[]⟩,.int .i64 0] 87:=HF.lx
  have r0:WF.cell? ⟨W.heap.size,0,none⟩=some (.int .i64 7):=(HL.cell 0).trans rfl
  have r1:WF.cell? ⟨W.heap.size,1,none⟩=some (.string a.name):=(HL.cell 1).trans rfl
  have r2:WF.cell? ⟨W.heap.size,2,none⟩=some (.string a.key):=(HL.cell 2).trans rfl
  have r3:WF.cell? ⟨W.heap.size,3,none⟩=some (.int .i64 a.val):=(HL.cell 3).trans rfl
  have r4:WF.cell? ⟨W.heap.size,4,none⟩=some (.string ⟨#[]⟩):=(HL.cell 4).trans rfl
  have r5:WF.cell? ⟨W.heap.size,5,none⟩=some (.string ⟨#[]⟩):=(HL.cell 5).trans rfl
  have r6:WF.cell? ⟨W.heap.size,6,none⟩=some (.int .i64 0):=(HL.cell 6).trans rfl
  simp[results,Tryz.results89,go_sem,r0,r1,r2,r3,r4,r5,r6]
set_option maxRecDepth 100000 in
set_option maxHeartbeats 6000000 in
theorem condNo {b:Nat} {lv:Value} {ts:List Tok} {st:RS} {W:World} (h:RI b lv ts st W) (his0:peekR kIS (termR st).2=false):
  Calls Tryz.prog 89 #[.pointer (some ⟨b,0,none⟩)] W fun e W'=>e=.returned (.agg (condC (condR st).1))∧RI b lv ts (condR st).2 W'∧W.grownBy W' (some b):=by
 have HE:=Lib.hid (One.start h #[.int .i64 0,.string ⟨#[]⟩,.string ⟨#[]⟩,.int .i64 0,.string ⟨#[]⟩,.string ⟨#[]⟩,.int .i64 0] 87)
 have hbl:=h.box.lt
 clear h
 obtain⟨a,s1,ha⟩:∃a s1,termR st=(a,s1):=⟨_,_,rfl⟩
 rw[ha] at his0
 have HIS0:Hid (peekR kIS s1=false):=his0
 have HA:=Lib.hid ha
 clear ha his0
 go_enter Tryz.func89,Tryz.ntmps89
 go_wp2_with fail
 refine(termIs HE.out.ri HA.out).mono ?_
 rintro e W1 ⟨rfl,h1,g1⟩
 have H1:=Lib.hid ((HE.out.call h1 g1).two #[.int .i64 0,.string a.name,.string a.key,.int .i64 a.val,.string ⟨#[]⟩,.string ⟨#[]⟩,.int .i64 0] 87)
 clear h1 g1
 go_wp2_with fail
 obtain⟨Y,hY⟩:∃Y,Y=W1.heap.size:=⟨_,rfl⟩
 rw[←hY] at H1⊢
 clear hY
 generalize W1.alloc (.cells #[.int .i64 0,.string a.name,.string a.key,.int .i64 a.val,.string ⟨#[]⟩,.string ⟨#[]⟩,.int .i64 0] 87)=W2 at H1⊢
 have his:peekR kIS s1=false:=HIS0.out
 have HIS:=Lib.hid his
 have HHS:Hid (hasR kIS s1=s1):=by show _=_;unfold hasR;rw[his];rfl
 obtain⟨o,s2,hop⟩:∃o s2,opLoop opsR 1 s1=(o,s2):=⟨_,_,rfl⟩
 obtain⟨bt2,s3,hb2⟩:∃bt2 s3,termR (s2.orBad (decide (o=0)))=(bt2,s3):=⟨_,_,rfl⟩
 have HC:Hid (condR st=(⟨o,a,bt2⟩,s3)):=by
  show _=_;unfold condR;simp only[HA.out];rw[his];simp only[Bool.false_eq_true,if_false,hop,hb2]
 have HOP:=Lib.hid hop
 have HB2:=Lib.hid hb2
 clear his hop hb2
 refine(has H1.out.ri kIS false HIS.out).mono ?_
 rintro e W3 ⟨rfl,h3,g3⟩
 rw[HHS.out] at h3
 have H3:=Lib.hid (H1.out.call h3 g3)
 have hW3:=h3.box.lt
 clear h3 g3
 go_wp2
 have hYl:=H3.out.ly.lt
 have HCA:Hid (CondAt W b lv ts s1 W.heap.size Y W3.heap.size #[.int .i64 0,.string a.name,.string a.key,.int .i64 a.val,.string ⟨#[]⟩,.string ⟨#[]⟩,.int .i64 0] (W3.alloc (.cells #[.string ⟨#[61]⟩,.string ⟨#[60,62]⟩,.string ⟨#[60]⟩,.string ⟨#[60,61]⟩,.string ⟨#[62]⟩,.string ⟨#[62,61]⟩] 9))):=
  ⟨⟨H3.out.ri.alloc _,H3.out.lx.alloc _,H3.out.ly.alloc _,grown_trans H3.out.grown (grown_alloc _ _ _),H3.out.nx,H3.out.ny,H3.out.xb,H3.out.yb,H3.out.xy,H3.out.xl,H3.out.yl⟩,Loc.new _ _ _,by omega,by omega⟩
 obtain⟨g,hgg⟩:∃g,g=W3.heap.size:=⟨_,rfl⟩
 rw[←hgg] at HCA⊢
 clear hgg hYl
 go_loopw [7] (fun i wr=>∃(k:Nat) (o':Int) (s':RS),k≤6∧i=.int .i64 k∧CondAt W b lv ts s' W.heap.size Y g #[.int .i64 o',.string a.name,.string a.key,.int .i64 a.val,.string ⟨#[]⟩,.string ⟨#[]⟩,.int .i64 0] wr∧((o'=0∧s'=s1∧opLoop opsR 1 s1=opLoop (opsR.drop k) ((k:Int)+1) s1)∨(1≤o'∧opLoop opsR 1 s1=(o',s')))) (fun i _=>6 - (intOf i).toNat)
 case atStart=>exact⟨0,0,s1,by omega,rfl,HCA.out,Or.inl ⟨rfl,rfl,rfl⟩⟩
 case round=>
  obtain⟨k,o',s',hk,rfl,hca,hcase⟩:=hrel
  have HCB:=Lib.hid hca
  have z0:=hca.two.ly.at_ 0 (.int .i64 o') rfl
  have f0:=hca.two.ly.free 0
  by_cases hgo:k<6∧o'=0
  ·obtain⟨hlt,ho0⟩:=hgo
   subst ho0
   have hc2:s'=s1∧opLoop opsR 1 s1=opLoop (opsR.drop k) ((k:Int)+1) s1:=by
    rcases hcase with ⟨_,h2,h3⟩|⟨h2,_⟩
    ·exact⟨h2,h3⟩
    ·omega
   obtain⟨rfl,hlp⟩:=hc2
   rw[ops_drop hlt] at hlp
   have HLP:=Lib.hid hlp
   have ck:=hca.opCell k hlt
   obtain⟨m,hm⟩:∃m,m=opAt k:=⟨_,rfl⟩
   rw[←hm] at ck HLP
   clear hca hcase hlp hm
   cases hp:peekR m s' with
   | true=>
    have HP:=Lib.hid hp
    have HL2:Hid (opLoop opsR 1 s'=((k:Int)+1,hasR m s')):=by show _=_;rw[HLP.out];exact opLoop_hit hp
    clear hp
    go_wp2_with (go_at_call 38;refine(has HCB.out.two.ri m true HP.out).mono ?_;rintro e W5 ⟨rfl,h5,g5⟩;have H5:=Lib.hid (HCB.out.call h5 g5);have zz0:W5.cell? ⟨Y,0,none⟩=some (.int .i64 0):=(H5.out.two.ly.cell 0).trans rfl;have ff0:=H5.out.two.ly.free 0;clear h5 g5)
    go_roundw
    case rel=>exact⟨k+1,(k:Int)+1,hasR m s',by omega,by go_num,H5.out.setY 0 (.int .i64 ((k:Int)+1)),Or.inr ⟨by omega,HL2.out⟩⟩
    case measure=>simp[intOf];omega
   | false=>
    have HP:=Lib.hid hp
    have HHS2:Hid (hasR m s'=s'):=by show _=_;unfold hasR;rw[hp];rfl
    have HL2:Hid (opLoop opsR 1 s'=opLoop (opsR.drop (k+1)) ((k+1:Nat)+1:Int) s'):=by show _=_;rw[HLP.out,opLoop_miss hp];rfl
    clear hp
    go_wp2_with (go_at_call 38;refine(has HCB.out.two.ri m false HP.out).mono ?_;rintro e W5 ⟨rfl,h5,g5⟩;rw[HHS2.out] at h5;have H5:=Lib.hid (HCB.out.call h5 g5);clear h5 g5)
    go_roundw
    case rel=>exact⟨k+1,0,s',by omega,by go_num,H5.out,Or.inl ⟨rfl,rfl,HL2.out⟩⟩
    case measure=>simp[intOf];omega
  ·have hres:o'=o∧s'=s2:=by
    rcases hcase with ⟨h1,h2,h3⟩|⟨h1,h2⟩
    ·have hk6:k=6:=by omega
     subst hk6
     have:opLoop opsR 1 s1=(0,s1):=h3.trans rfl
     rw[HOP.out] at this
     injection this with e1 e2
     exact⟨by omega,by rw[h2,e2]⟩
    ·rw[HOP.out] at h2
     injection h2 with e1 e2
     exact⟨e1.symm,e2.symm⟩
   obtain⟨rfl,rfl⟩:=hres
   have hbx:=hca.two.ri.box
   have q2:=hbx.at_ 2 (.bool s'.bad) rfl
   have p2:=hbx.free 2
   have hYb:=hca.two.yb
   clear hca hcase hbx
   have hx:(k<6∧o'≠0)∨¬k<6:=by
    by_cases h6:k<6
    ·exact Or.inl ⟨h6,fun e=>hgo ⟨h6,e⟩⟩
    ·exact Or.inr h6
   clear hgo
   rcases hx with ⟨hk6,ho0⟩|hk6
   ·cases hbd:s'.bad with
    | true=>
     have HBB:=Lib.hid hbd
     have hoz:(o'==0)=false:=by simpa using ho0
     have HBD:Hid (s'.orBad (decide (o'=0))=⟨s'.rest,true⟩):=by show _=_;unfold RS.orBad;rw[hbd];rfl
     clear hbd
     rw[HBB.out] at q2
     go_wp2_with fail
     have H6:Hid (Two W b lv ts ⟨s'.rest,true⟩ W.heap.size #[.int .i64 0,.string ⟨#[]⟩,.string ⟨#[]⟩,.int .i64 0,.string ⟨#[]⟩,.string ⟨#[]⟩,.int .i64 0] 87 Y #[.int .i64 o',.string a.name,.string a.key,.int .i64 a.val,.string ⟨#[]⟩,.string ⟨#[]⟩,.int .i64 0] 87 (wr.setCell ⟨b,2,none⟩ (.bool true))):=HCB.out.two.call (HCB.out.two.ri.setBad true) (grown_set _ b 2 _)
     clear z0 f0 q2 p2
     generalize wr.setCell ⟨b,2,none⟩ (.bool true)=W6 at H6⊢
     have HT2:Hid (termR ⟨s'.rest,true⟩=(bt2,s3)):=by show _=_;rw[←HBD.out];exact HB2.out
     refine(termIs H6.out.ri HT2.out).mono ?_
     rintro e W7 ⟨rfl,h7,g7⟩
     have H7:=Lib.hid (H6.out.call h7 g7)
     clear h7 g7
     have y4:=H7.out.ly.at_ 4 (.string ⟨#[]⟩) rfl
     have y5:=H7.out.ly.at_ 5 (.string ⟨#[]⟩) rfl
     have y6:=H7.out.ly.at_ 6 (.int .i64 0) rfl
     have t4:=H7.out.ly.free 4
     have t5:=H7.out.ly.free 5
     have t6:=H7.out.ly.free 6
     have y0:=H7.out.ly.at_ 0 (.int .i64 o') rfl
     have y1:=H7.out.ly.at_ 1 (.string a.name) rfl
     have y2:=H7.out.ly.at_ 2 (.string a.key) rfl
     have y3:=H7.out.ly.at_ 3 (.int .i64 a.val) rfl
     have x0:W7.cell? ⟨W.heap.size,0,none⟩=some (.int .i64 0):=(H7.out.lx.cell 0).trans rfl
     have x1:W7.cell? ⟨W.heap.size,1,none⟩=some (.string ⟨#[]⟩):=(H7.out.lx.cell 1).trans rfl
     have x2:W7.cell? ⟨W.heap.size,2,none⟩=some (.string ⟨#[]⟩):=(H7.out.lx.cell 2).trans rfl
     have x3:W7.cell? ⟨W.heap.size,3,none⟩=some (.int .i64 0):=(H7.out.lx.cell 3).trans rfl
     have x4:W7.cell? ⟨W.heap.size,4,none⟩=some (.string ⟨#[]⟩):=(H7.out.lx.cell 4).trans rfl
     have x5:W7.cell? ⟨W.heap.size,5,none⟩=some (.string ⟨#[]⟩):=(H7.out.lx.cell 5).trans rfl
     have x6:W7.cell? ⟨W.heap.size,6,none⟩=some (.int .i64 0):=(H7.out.lx.cell 6).trans rfl
     have w0:=H7.out.lx.free 0
     have w1:=H7.out.lx.free 1
     have w2:=H7.out.lx.free 2
     have w3:=H7.out.lx.free 3
     have w4:=H7.out.lx.free 4
     have w5:=H7.out.lx.free 5
     have w6:=H7.out.lx.free 6
     have hxy:=H7.out.xy
     have hyx:Y≠W.heap.size:=fun e=>hxy e.symm
     go_wp2
     have HF:=((((((((((H7.out.setY 4 (.string bt2.name)).setY 5 (.string bt2.key)).setY 6 (.int .i64 bt2.val)).setX 0 (.int .i64 o')).setX 1 (.string a.name)).setX 2 (.string a.key)).setX 3 (.int .i64 a.val)).setX 4 (.string bt2.name)).setX 5 (.string bt2.key)).setX 6 (.int .i64 bt2.val))
     generalize ((((((((((W7.setCell ⟨Y,4,none⟩ (.string bt2.name)).setCell ⟨Y,5,none⟩ (.string bt2.key)).setCell ⟨Y,6,none⟩ (.int .i64 bt2.val)).setCell ⟨W.heap.size,0,none⟩ (.int .i64 o')).setCell ⟨W.heap.size,1,none⟩ (.string a.name)).setCell ⟨W.heap.size,2,none⟩ (.string a.key)).setCell ⟨W.heap.size,3,none⟩ (.int .i64 a.val)).setCell ⟨W.heap.size,4,none⟩ (.string bt2.name)).setCell ⟨W.heap.size,5,none⟩ (.string bt2.key)).setCell ⟨W.heap.size,6,none⟩ (.int .i64 bt2.val))=WF at HF⊢
     refine bodyPost_ret (v:=.agg #[.int .i64 o',.string a.name,.string a.key,.int .i64 a.val,.string bt2.name,.string bt2.key,.int .i64 bt2.val]) ?_ rfl ⟨by rw[HC.out];rfl,by rw[HC.out];exact HF.ri,HF.grown⟩
     have HL:Loc WF W.heap.size #[.int .i64 o',.string a.name,.string a.key,.int .i64 a.val,.string bt2.name,.string bt2.key,.int .i64 bt2.val] 87:=HF.lx
     have r0:WF.cell? ⟨W.heap.size,0,none⟩=some (.int .i64 o'):=(HL.cell 0).trans rfl
     have r1:WF.cell? ⟨W.heap.size,1,none⟩=some (.string a.name):=(HL.cell 1).trans rfl
     have r2:WF.cell? ⟨W.heap.size,2,none⟩=some (.string a.key):=(HL.cell 2).trans rfl
     have r3:WF.cell? ⟨W.heap.size,3,none⟩=some (.int .i64 a.val):=(HL.cell 3).trans rfl
     have r4:WF.cell? ⟨W.heap.size,4,none⟩=some (.string bt2.name):=(HL.cell 4).trans rfl
     have r5:WF.cell? ⟨W.heap.size,5,none⟩=some (.string bt2.key):=(HL.cell 5).trans rfl
     have r6:WF.cell? ⟨W.heap.size,6,none⟩=some (.int .i64 bt2.val):=(HL.cell 6).trans rfl
     simp[results,Tryz.results89,go_sem,r0,r1,r2,r3,r4,r5,r6]
    | false=>
     have HBB:=Lib.hid hbd
     have HBD:Hid (s'.orBad (decide (o'=0))=⟨s'.rest,false⟩):=by show _=_;unfold RS.orBad;rw[hbd,decide_eq_false ho0];rfl
     have hoz:(o'==0)=false:=by simpa using ho0
     clear hbd ho0
     rw[HBB.out] at q2
     go_wp2_with fail
     have H6:Hid (Two W b lv ts ⟨s'.rest,false⟩ W.heap.size #[.int .i64 0,.string ⟨#[]⟩,.string ⟨#[]⟩,.int .i64 0,.string ⟨#[]⟩,.string ⟨#[]⟩,.int .i64 0] 87 Y #[.int .i64 o',.string a.name,.string a.key,.int .i64 a.val,.string ⟨#[]⟩,.string ⟨#[]⟩,.int .i64 0] 87 (wr.setCell ⟨b,2,none⟩ (.bool false))):=HCB.out.two.call (HCB.out.two.ri.setBad false) (grown_set _ b 2 _)
     clear z0 f0 q2 p2
     generalize wr.setCell ⟨b,2,none⟩ (.bool false)=W6 at H6⊢
     have HT2:Hid (termR ⟨s'.rest,false⟩=(bt2,s3)):=by show _=_;rw[←HBD.out];exact HB2.out
     refine(termIs H6.out.ri HT2.out).mono ?_
     rintro e W7 ⟨rfl,h7,g7⟩
     have H7:=Lib.hid (H6.out.call h7 g7)
     clear h7 g7
     have y4:=H7.out.ly.at_ 4 (.string ⟨#[]⟩) rfl
     have y5:=H7.out.ly.at_ 5 (.string ⟨#[]⟩) rfl
     have y6:=H7.out.ly.at_ 6 (.int .i64 0) rfl
     have t4:=H7.out.ly.free 4
     have t5:=H7.out.ly.free 5
     have t6:=H7.out.ly.free 6
     have y0:=H7.out.ly.at_ 0 (.int .i64 o') rfl
     have y1:=H7.out.ly.at_ 1 (.string a.name) rfl
     have y2:=H7.out.ly.at_ 2 (.string a.key) rfl
     have y3:=H7.out.ly.at_ 3 (.int .i64 a.val) rfl
     have x0:W7.cell? ⟨W.heap.size,0,none⟩=some (.int .i64 0):=(H7.out.lx.cell 0).trans rfl
     have x1:W7.cell? ⟨W.heap.size,1,none⟩=some (.string ⟨#[]⟩):=(H7.out.lx.cell 1).trans rfl
     have x2:W7.cell? ⟨W.heap.size,2,none⟩=some (.string ⟨#[]⟩):=(H7.out.lx.cell 2).trans rfl
     have x3:W7.cell? ⟨W.heap.size,3,none⟩=some (.int .i64 0):=(H7.out.lx.cell 3).trans rfl
     have x4:W7.cell? ⟨W.heap.size,4,none⟩=some (.string ⟨#[]⟩):=(H7.out.lx.cell 4).trans rfl
     have x5:W7.cell? ⟨W.heap.size,5,none⟩=some (.string ⟨#[]⟩):=(H7.out.lx.cell 5).trans rfl
     have x6:W7.cell? ⟨W.heap.size,6,none⟩=some (.int .i64 0):=(H7.out.lx.cell 6).trans rfl
     have w0:=H7.out.lx.free 0
     have w1:=H7.out.lx.free 1
     have w2:=H7.out.lx.free 2
     have w3:=H7.out.lx.free 3
     have w4:=H7.out.lx.free 4
     have w5:=H7.out.lx.free 5
     have w6:=H7.out.lx.free 6
     have hxy:=H7.out.xy
     have hyx:Y≠W.heap.size:=fun e=>hxy e.symm
     go_wp2
     have HF:=((((((((((H7.out.setY 4 (.string bt2.name)).setY 5 (.string bt2.key)).setY 6 (.int .i64 bt2.val)).setX 0 (.int .i64 o')).setX 1 (.string a.name)).setX 2 (.string a.key)).setX 3 (.int .i64 a.val)).setX 4 (.string bt2.name)).setX 5 (.string bt2.key)).setX 6 (.int .i64 bt2.val))
     generalize ((((((((((W7.setCell ⟨Y,4,none⟩ (.string bt2.name)).setCell ⟨Y,5,none⟩ (.string bt2.key)).setCell ⟨Y,6,none⟩ (.int .i64 bt2.val)).setCell ⟨W.heap.size,0,none⟩ (.int .i64 o')).setCell ⟨W.heap.size,1,none⟩ (.string a.name)).setCell ⟨W.heap.size,2,none⟩ (.string a.key)).setCell ⟨W.heap.size,3,none⟩ (.int .i64 a.val)).setCell ⟨W.heap.size,4,none⟩ (.string bt2.name)).setCell ⟨W.heap.size,5,none⟩ (.string bt2.key)).setCell ⟨W.heap.size,6,none⟩ (.int .i64 bt2.val))=WF at HF⊢
     refine bodyPost_ret (v:=.agg #[.int .i64 o',.string a.name,.string a.key,.int .i64 a.val,.string bt2.name,.string bt2.key,.int .i64 bt2.val]) ?_ rfl ⟨by rw[HC.out];rfl,by rw[HC.out];exact HF.ri,HF.grown⟩
     have HL:Loc WF W.heap.size #[.int .i64 o',.string a.name,.string a.key,.int .i64 a.val,.string bt2.name,.string bt2.key,.int .i64 bt2.val] 87:=HF.lx
     have r0:WF.cell? ⟨W.heap.size,0,none⟩=some (.int .i64 o'):=(HL.cell 0).trans rfl
     have r1:WF.cell? ⟨W.heap.size,1,none⟩=some (.string a.name):=(HL.cell 1).trans rfl
     have r2:WF.cell? ⟨W.heap.size,2,none⟩=some (.string a.key):=(HL.cell 2).trans rfl
     have r3:WF.cell? ⟨W.heap.size,3,none⟩=some (.int .i64 a.val):=(HL.cell 3).trans rfl
     have r4:WF.cell? ⟨W.heap.size,4,none⟩=some (.string bt2.name):=(HL.cell 4).trans rfl
     have r5:WF.cell? ⟨W.heap.size,5,none⟩=some (.string bt2.key):=(HL.cell 5).trans rfl
     have r6:WF.cell? ⟨W.heap.size,6,none⟩=some (.int .i64 bt2.val):=(HL.cell 6).trans rfl
     simp[results,Tryz.results89,go_sem,r0,r1,r2,r3,r4,r5,r6]
   ·cases hbd:s'.bad with
    | true=>
     have HBB:=Lib.hid hbd
     have HBD:Hid (s'.orBad (decide (o'=0))=⟨s'.rest,true⟩):=by show _=_;unfold RS.orBad;rw[hbd];rfl
     clear hbd
     rw[HBB.out] at q2
     go_wp2_with fail
     have H6:Hid (Two W b lv ts ⟨s'.rest,true⟩ W.heap.size #[.int .i64 0,.string ⟨#[]⟩,.string ⟨#[]⟩,.int .i64 0,.string ⟨#[]⟩,.string ⟨#[]⟩,.int .i64 0] 87 Y #[.int .i64 o',.string a.name,.string a.key,.int .i64 a.val,.string ⟨#[]⟩,.string ⟨#[]⟩,.int .i64 0] 87 (wr.setCell ⟨b,2,none⟩ (.bool true))):=HCB.out.two.call (HCB.out.two.ri.setBad true) (grown_set _ b 2 _)
     clear z0 f0 q2 p2
     generalize wr.setCell ⟨b,2,none⟩ (.bool true)=W6 at H6⊢
     have HT2:Hid (termR ⟨s'.rest,true⟩=(bt2,s3)):=by show _=_;rw[←HBD.out];exact HB2.out
     refine(termIs H6.out.ri HT2.out).mono ?_
     rintro e W7 ⟨rfl,h7,g7⟩
     have H7:=Lib.hid (H6.out.call h7 g7)
     clear h7 g7
     have y4:=H7.out.ly.at_ 4 (.string ⟨#[]⟩) rfl
     have y5:=H7.out.ly.at_ 5 (.string ⟨#[]⟩) rfl
     have y6:=H7.out.ly.at_ 6 (.int .i64 0) rfl
     have t4:=H7.out.ly.free 4
     have t5:=H7.out.ly.free 5
     have t6:=H7.out.ly.free 6
     have y0:=H7.out.ly.at_ 0 (.int .i64 o') rfl
     have y1:=H7.out.ly.at_ 1 (.string a.name) rfl
     have y2:=H7.out.ly.at_ 2 (.string a.key) rfl
     have y3:=H7.out.ly.at_ 3 (.int .i64 a.val) rfl
     have x0:W7.cell? ⟨W.heap.size,0,none⟩=some (.int .i64 0):=(H7.out.lx.cell 0).trans rfl
     have x1:W7.cell? ⟨W.heap.size,1,none⟩=some (.string ⟨#[]⟩):=(H7.out.lx.cell 1).trans rfl
     have x2:W7.cell? ⟨W.heap.size,2,none⟩=some (.string ⟨#[]⟩):=(H7.out.lx.cell 2).trans rfl
     have x3:W7.cell? ⟨W.heap.size,3,none⟩=some (.int .i64 0):=(H7.out.lx.cell 3).trans rfl
     have x4:W7.cell? ⟨W.heap.size,4,none⟩=some (.string ⟨#[]⟩):=(H7.out.lx.cell 4).trans rfl
     have x5:W7.cell? ⟨W.heap.size,5,none⟩=some (.string ⟨#[]⟩):=(H7.out.lx.cell 5).trans rfl
     have x6:W7.cell? ⟨W.heap.size,6,none⟩=some (.int .i64 0):=(H7.out.lx.cell 6).trans rfl
     have w0:=H7.out.lx.free 0
     have w1:=H7.out.lx.free 1
     have w2:=H7.out.lx.free 2
     have w3:=H7.out.lx.free 3
     have w4:=H7.out.lx.free 4
     have w5:=H7.out.lx.free 5
     have w6:=H7.out.lx.free 6
     have hxy:=H7.out.xy
     have hyx:Y≠W.heap.size:=fun e=>hxy e.symm
     go_wp2
     have HF:=((((((((((H7.out.setY 4 (.string bt2.name)).setY 5 (.string bt2.key)).setY 6 (.int .i64 bt2.val)).setX 0 (.int .i64 o')).setX 1 (.string a.name)).setX 2 (.string a.key)).setX 3 (.int .i64 a.val)).setX 4 (.string bt2.name)).setX 5 (.string bt2.key)).setX 6 (.int .i64 bt2.val))
     generalize ((((((((((W7.setCell ⟨Y,4,none⟩ (.string bt2.name)).setCell ⟨Y,5,none⟩ (.string bt2.key)).setCell ⟨Y,6,none⟩ (.int .i64 bt2.val)).setCell ⟨W.heap.size,0,none⟩ (.int .i64 o')).setCell ⟨W.heap.size,1,none⟩ (.string a.name)).setCell ⟨W.heap.size,2,none⟩ (.string a.key)).setCell ⟨W.heap.size,3,none⟩ (.int .i64 a.val)).setCell ⟨W.heap.size,4,none⟩ (.string bt2.name)).setCell ⟨W.heap.size,5,none⟩ (.string bt2.key)).setCell ⟨W.heap.size,6,none⟩ (.int .i64 bt2.val))=WF at HF⊢
     refine bodyPost_ret (v:=.agg #[.int .i64 o',.string a.name,.string a.key,.int .i64 a.val,.string bt2.name,.string bt2.key,.int .i64 bt2.val]) ?_ rfl ⟨by rw[HC.out];rfl,by rw[HC.out];exact HF.ri,HF.grown⟩
     have HL:Loc WF W.heap.size #[.int .i64 o',.string a.name,.string a.key,.int .i64 a.val,.string bt2.name,.string bt2.key,.int .i64 bt2.val] 87:=HF.lx
     have r0:WF.cell? ⟨W.heap.size,0,none⟩=some (.int .i64 o'):=(HL.cell 0).trans rfl
     have r1:WF.cell? ⟨W.heap.size,1,none⟩=some (.string a.name):=(HL.cell 1).trans rfl
     have r2:WF.cell? ⟨W.heap.size,2,none⟩=some (.string a.key):=(HL.cell 2).trans rfl
     have r3:WF.cell? ⟨W.heap.size,3,none⟩=some (.int .i64 a.val):=(HL.cell 3).trans rfl
     have r4:WF.cell? ⟨W.heap.size,4,none⟩=some (.string bt2.name):=(HL.cell 4).trans rfl
     have r5:WF.cell? ⟨W.heap.size,5,none⟩=some (.string bt2.key):=(HL.cell 5).trans rfl
     have r6:WF.cell? ⟨W.heap.size,6,none⟩=some (.int .i64 bt2.val):=(HL.cell 6).trans rfl
     simp[results,Tryz.results89,go_sem,r0,r1,r2,r3,r4,r5,r6]
    | false=>
     have HBB:=Lib.hid hbd
     by_cases ho0:o'=0
     ·have HBD:Hid (s'.orBad (decide (o'=0))=⟨s'.rest,true⟩):=by show _=_;unfold RS.orBad;rw[ho0];simp
      have hoz:(o'==0)=true:=by simp[ho0]
      clear hbd ho0
      rw[HBB.out] at q2
      go_wp2_with fail
      have H6:Hid (Two W b lv ts ⟨s'.rest,true⟩ W.heap.size #[.int .i64 0,.string ⟨#[]⟩,.string ⟨#[]⟩,.int .i64 0,.string ⟨#[]⟩,.string ⟨#[]⟩,.int .i64 0] 87 Y #[.int .i64 o',.string a.name,.string a.key,.int .i64 a.val,.string ⟨#[]⟩,.string ⟨#[]⟩,.int .i64 0] 87 (wr.setCell ⟨b,2,none⟩ (.bool true))):=HCB.out.two.call (HCB.out.two.ri.setBad true) (grown_set _ b 2 _)
      clear z0 f0 q2 p2
      generalize wr.setCell ⟨b,2,none⟩ (.bool true)=W6 at H6⊢
      have HT2:Hid (termR ⟨s'.rest,true⟩=(bt2,s3)):=by show _=_;rw[←HBD.out];exact HB2.out
      refine(termIs H6.out.ri HT2.out).mono ?_
      rintro e W7 ⟨rfl,h7,g7⟩
      have H7:=Lib.hid (H6.out.call h7 g7)
      clear h7 g7
      have y4:=H7.out.ly.at_ 4 (.string ⟨#[]⟩) rfl
      have y5:=H7.out.ly.at_ 5 (.string ⟨#[]⟩) rfl
      have y6:=H7.out.ly.at_ 6 (.int .i64 0) rfl
      have t4:=H7.out.ly.free 4
      have t5:=H7.out.ly.free 5
      have t6:=H7.out.ly.free 6
      have y0:=H7.out.ly.at_ 0 (.int .i64 o') rfl
      have y1:=H7.out.ly.at_ 1 (.string a.name) rfl
      have y2:=H7.out.ly.at_ 2 (.string a.key) rfl
      have y3:=H7.out.ly.at_ 3 (.int .i64 a.val) rfl
      have x0:W7.cell? ⟨W.heap.size,0,none⟩=some (.int .i64 0):=(H7.out.lx.cell 0).trans rfl
      have x1:W7.cell? ⟨W.heap.size,1,none⟩=some (.string ⟨#[]⟩):=(H7.out.lx.cell 1).trans rfl
      have x2:W7.cell? ⟨W.heap.size,2,none⟩=some (.string ⟨#[]⟩):=(H7.out.lx.cell 2).trans rfl
      have x3:W7.cell? ⟨W.heap.size,3,none⟩=some (.int .i64 0):=(H7.out.lx.cell 3).trans rfl
      have x4:W7.cell? ⟨W.heap.size,4,none⟩=some (.string ⟨#[]⟩):=(H7.out.lx.cell 4).trans rfl
      have x5:W7.cell? ⟨W.heap.size,5,none⟩=some (.string ⟨#[]⟩):=(H7.out.lx.cell 5).trans rfl
      have x6:W7.cell? ⟨W.heap.size,6,none⟩=some (.int .i64 0):=(H7.out.lx.cell 6).trans rfl
      have w0:=H7.out.lx.free 0
      have w1:=H7.out.lx.free 1
      have w2:=H7.out.lx.free 2
      have w3:=H7.out.lx.free 3
      have w4:=H7.out.lx.free 4
      have w5:=H7.out.lx.free 5
      have w6:=H7.out.lx.free 6
      have hxy:=H7.out.xy
      have hyx:Y≠W.heap.size:=fun e=>hxy e.symm
      go_wp2
      have HF:=((((((((((H7.out.setY 4 (.string bt2.name)).setY 5 (.string bt2.key)).setY 6 (.int .i64 bt2.val)).setX 0 (.int .i64 o')).setX 1 (.string a.name)).setX 2 (.string a.key)).setX 3 (.int .i64 a.val)).setX 4 (.string bt2.name)).setX 5 (.string bt2.key)).setX 6 (.int .i64 bt2.val))
      generalize ((((((((((W7.setCell ⟨Y,4,none⟩ (.string bt2.name)).setCell ⟨Y,5,none⟩ (.string bt2.key)).setCell ⟨Y,6,none⟩ (.int .i64 bt2.val)).setCell ⟨W.heap.size,0,none⟩ (.int .i64 o')).setCell ⟨W.heap.size,1,none⟩ (.string a.name)).setCell ⟨W.heap.size,2,none⟩ (.string a.key)).setCell ⟨W.heap.size,3,none⟩ (.int .i64 a.val)).setCell ⟨W.heap.size,4,none⟩ (.string bt2.name)).setCell ⟨W.heap.size,5,none⟩ (.string bt2.key)).setCell ⟨W.heap.size,6,none⟩ (.int .i64 bt2.val))=WF at HF⊢
      refine bodyPost_ret (v:=.agg #[.int .i64 o',.string a.name,.string a.key,.int .i64 a.val,.string bt2.name,.string bt2.key,.int .i64 bt2.val]) ?_ rfl ⟨by rw[HC.out];rfl,by rw[HC.out];exact HF.ri,HF.grown⟩
      have HL:Loc WF W.heap.size #[.int .i64 o',.string a.name,.string a.key,.int .i64 a.val,.string bt2.name,.string bt2.key,.int .i64 bt2.val] 87:=HF.lx
      have r0:WF.cell? ⟨W.heap.size,0,none⟩=some (.int .i64 o'):=(HL.cell 0).trans rfl
      have r1:WF.cell? ⟨W.heap.size,1,none⟩=some (.string a.name):=(HL.cell 1).trans rfl
      have r2:WF.cell? ⟨W.heap.size,2,none⟩=some (.string a.key):=(HL.cell 2).trans rfl
      have r3:WF.cell? ⟨W.heap.size,3,none⟩=some (.int .i64 a.val):=(HL.cell 3).trans rfl
      have r4:WF.cell? ⟨W.heap.size,4,none⟩=some (.string bt2.name):=(HL.cell 4).trans rfl
      have r5:WF.cell? ⟨W.heap.size,5,none⟩=some (.string bt2.key):=(HL.cell 5).trans rfl
      have r6:WF.cell? ⟨W.heap.size,6,none⟩=some (.int .i64 bt2.val):=(HL.cell 6).trans rfl
      simp[results,Tryz.results89,go_sem,r0,r1,r2,r3,r4,r5,r6]
     ·have HBD:Hid (s'.orBad (decide (o'=0))=⟨s'.rest,false⟩):=by show _=_;unfold RS.orBad;rw[hbd,decide_eq_false ho0];rfl
      have hoz:(o'==0)=false:=by simpa using ho0
      clear hbd ho0
      rw[HBB.out] at q2
      go_wp2_with fail
      have H6:Hid (Two W b lv ts ⟨s'.rest,false⟩ W.heap.size #[.int .i64 0,.string ⟨#[]⟩,.string ⟨#[]⟩,.int .i64 0,.string ⟨#[]⟩,.string ⟨#[]⟩,.int .i64 0] 87 Y #[.int .i64 o',.string a.name,.string a.key,.int .i64 a.val,.string ⟨#[]⟩,.string ⟨#[]⟩,.int .i64 0] 87 (wr.setCell ⟨b,2,none⟩ (.bool false))):=HCB.out.two.call (HCB.out.two.ri.setBad false) (grown_set _ b 2 _)
      clear z0 f0 q2 p2
      generalize wr.setCell ⟨b,2,none⟩ (.bool false)=W6 at H6⊢
      have HT2:Hid (termR ⟨s'.rest,false⟩=(bt2,s3)):=by show _=_;rw[←HBD.out];exact HB2.out
      refine(termIs H6.out.ri HT2.out).mono ?_
      rintro e W7 ⟨rfl,h7,g7⟩
      have H7:=Lib.hid (H6.out.call h7 g7)
      clear h7 g7
      have y4:=H7.out.ly.at_ 4 (.string ⟨#[]⟩) rfl
      have y5:=H7.out.ly.at_ 5 (.string ⟨#[]⟩) rfl
      have y6:=H7.out.ly.at_ 6 (.int .i64 0) rfl
      have t4:=H7.out.ly.free 4
      have t5:=H7.out.ly.free 5
      have t6:=H7.out.ly.free 6
      have y0:=H7.out.ly.at_ 0 (.int .i64 o') rfl
      have y1:=H7.out.ly.at_ 1 (.string a.name) rfl
      have y2:=H7.out.ly.at_ 2 (.string a.key) rfl
      have y3:=H7.out.ly.at_ 3 (.int .i64 a.val) rfl
      have x0:W7.cell? ⟨W.heap.size,0,none⟩=some (.int .i64 0):=(H7.out.lx.cell 0).trans rfl
      have x1:W7.cell? ⟨W.heap.size,1,none⟩=some (.string ⟨#[]⟩):=(H7.out.lx.cell 1).trans rfl
      have x2:W7.cell? ⟨W.heap.size,2,none⟩=some (.string ⟨#[]⟩):=(H7.out.lx.cell 2).trans rfl
      have x3:W7.cell? ⟨W.heap.size,3,none⟩=some (.int .i64 0):=(H7.out.lx.cell 3).trans rfl
      have x4:W7.cell? ⟨W.heap.size,4,none⟩=some (.string ⟨#[]⟩):=(H7.out.lx.cell 4).trans rfl
      have x5:W7.cell? ⟨W.heap.size,5,none⟩=some (.string ⟨#[]⟩):=(H7.out.lx.cell 5).trans rfl
      have x6:W7.cell? ⟨W.heap.size,6,none⟩=some (.int .i64 0):=(H7.out.lx.cell 6).trans rfl
      have w0:=H7.out.lx.free 0
      have w1:=H7.out.lx.free 1
      have w2:=H7.out.lx.free 2
      have w3:=H7.out.lx.free 3
      have w4:=H7.out.lx.free 4
      have w5:=H7.out.lx.free 5
      have w6:=H7.out.lx.free 6
      have hxy:=H7.out.xy
      have hyx:Y≠W.heap.size:=fun e=>hxy e.symm
      go_wp2
      have HF:=((((((((((H7.out.setY 4 (.string bt2.name)).setY 5 (.string bt2.key)).setY 6 (.int .i64 bt2.val)).setX 0 (.int .i64 o')).setX 1 (.string a.name)).setX 2 (.string a.key)).setX 3 (.int .i64 a.val)).setX 4 (.string bt2.name)).setX 5 (.string bt2.key)).setX 6 (.int .i64 bt2.val))
      generalize ((((((((((W7.setCell ⟨Y,4,none⟩ (.string bt2.name)).setCell ⟨Y,5,none⟩ (.string bt2.key)).setCell ⟨Y,6,none⟩ (.int .i64 bt2.val)).setCell ⟨W.heap.size,0,none⟩ (.int .i64 o')).setCell ⟨W.heap.size,1,none⟩ (.string a.name)).setCell ⟨W.heap.size,2,none⟩ (.string a.key)).setCell ⟨W.heap.size,3,none⟩ (.int .i64 a.val)).setCell ⟨W.heap.size,4,none⟩ (.string bt2.name)).setCell ⟨W.heap.size,5,none⟩ (.string bt2.key)).setCell ⟨W.heap.size,6,none⟩ (.int .i64 bt2.val))=WF at HF⊢
      refine bodyPost_ret (v:=.agg #[.int .i64 o',.string a.name,.string a.key,.int .i64 a.val,.string bt2.name,.string bt2.key,.int .i64 bt2.val]) ?_ rfl ⟨by rw[HC.out];rfl,by rw[HC.out];exact HF.ri,HF.grown⟩
      have HL:Loc WF W.heap.size #[.int .i64 o',.string a.name,.string a.key,.int .i64 a.val,.string bt2.name,.string bt2.key,.int .i64 bt2.val] 87:=HF.lx
      have r0:WF.cell? ⟨W.heap.size,0,none⟩=some (.int .i64 o'):=(HL.cell 0).trans rfl
      have r1:WF.cell? ⟨W.heap.size,1,none⟩=some (.string a.name):=(HL.cell 1).trans rfl
      have r2:WF.cell? ⟨W.heap.size,2,none⟩=some (.string a.key):=(HL.cell 2).trans rfl
      have r3:WF.cell? ⟨W.heap.size,3,none⟩=some (.int .i64 a.val):=(HL.cell 3).trans rfl
      have r4:WF.cell? ⟨W.heap.size,4,none⟩=some (.string bt2.name):=(HL.cell 4).trans rfl
      have r5:WF.cell? ⟨W.heap.size,5,none⟩=some (.string bt2.key):=(HL.cell 5).trans rfl
      have r6:WF.cell? ⟨W.heap.size,6,none⟩=some (.int .i64 bt2.val):=(HL.cell 6).trans rfl
      simp[results,Tryz.results89,go_sem,r0,r1,r2,r3,r4,r5,r6]
theorem cond {b:Nat} {lv:Value} {ts:List Tok} {st:RS} {W:World} (h:RI b lv ts st W):
  Calls Tryz.prog 89 #[.pointer (some ⟨b,0,none⟩)] W fun e W'=>e=.returned (.agg (condC (condR st).1))∧RI b lv ts (condR st).2 W'∧W.grownBy W' (some b):=by
 cases hx:peekR kIS (termR st).2 with
 | true=>exact condYes h hx
 | false=>exact condNo h hx
end Go.Proofs.YtobgbmfpicmpcaaGreatDoor

/- The reference's reader: how many spots a path has. No walk in this text. -/
namespace Go.Proofs.YtobgbmfpicmpcaaGreatDoor
open Go.RowKit
theorem peekR_some {s:ByteArray} {st:RS} (h:peekR s st=true):0<st.rest.length:=by
 cases hr:st.rest with
 | nil=>unfold peekR at h;rw[hr] at h;simp at h
 | cons t r=>simp
theorem hasR_one {s:ByteArray} {st:RS} (h:peekR s st=true):(hasR s st).rest.length+1=st.rest.length:=by
 have:=peekR_some h
 unfold hasR;rw[h];simp only[if_true,List.length_tail];omega
theorem hasR_not {s:ByteArray} {st:RS} (h:peekR s st=false):hasR s st=st:=by unfold hasR;rw[h];rfl
theorem pathLoop_count (n:Nat):∀(out:List PSpot) (st:RS),(pathLoop n out st).1.length+(pathLoop n out st).2.rest.length≤out.length+st.rest.length∧out.length≤(pathLoop n out st).1.length:=by
 induction n with
 | zero=>intro out st;exact⟨Nat.le_refl _,Nat.le_refl _⟩
 | succ n ih=>
  intro out st
  simp only[pathLoop]
  split
  ·rename_i hc
   have hp:peekR mTo st=true:=by
    cases h:peekR mTo st with
    | true=>rfl
    | false=>rw[h] at hc;simp at hc
   obtain⟨h1,h2⟩:=ih (out++[(stepR (hasR mTo st)).1]) (stepR (hasR mTo st)).2
   have h3:=stepR_len (hasR mTo st)
   have h4:=hasR_one hp
   simp only[List.length_append,List.length_cons,List.length_nil] at h1 h2
   exact⟨by omega,by omega⟩
  ·exact⟨Nat.le_refl _,Nat.le_refl _⟩
theorem pathR_count (st:RS):(pathR st).1.length+(pathR st).2.rest.length≤st.rest.length+1∧0<(pathR st).1.length:=by
 unfold pathR
 obtain⟨h1,h2⟩:=pathLoop_count (spotR spot0 st).2.rest.length [(spotR spot0 st).1] (spotR spot0 st).2
 have h3:=spotR_len spot0 st
 simp only[List.length_cons,List.length_nil] at h1 h2
 exact⟨by omega,by omega⟩
theorem matchLoop_bad {n:Nat} {out:List PSpot} {st:RS} (h:st.bad=true):matchLoop n out st=(out,st):=by
 cases n with
 | zero=>rfl
 | succ n=>simp only[matchLoop];rw[h];rfl
theorem matchLoop_more {n:Nat} {out l:List PSpot} {st s2:RS} (h:st.bad=false) (hp:pathR st=(l,s2)) (hb:s2.bad=false) (hc:peekR mComma s2=true):matchLoop (n+1) out st=matchLoop n (out++l) (hasR mComma s2):=by
 simp only[matchLoop];rw[h,hp];simp only[hb,hc];rfl
theorem matchLoop_last {n:Nat} {out l:List PSpot} {st s2:RS} (h:st.bad=false) (hp:pathR st=(l,s2)) (hc:s2.bad=true∨peekR mComma s2=false):matchLoop (n+1) out st=(out++l,s2):=by
 simp only[matchLoop];rw[h,hp]
 rcases hc with hc|hc
 ·simp[hc]
 ·simp[hc]
theorem row_seen {w:World} {B:Nat} {v:Value} {l:List PSpot} (h:w.ownsRow B 85 5 v l.length (spotCells l)) (hl:0<l.length):
  ∃g cap,v=.slice (some ⟨g,0,none⟩) l.length cap∧∀j u,(spotCells l)[j]?=some u→w.cell? ((⟨g,0,none⟩:Addr).add j)=some u:=by
 rcases h.2 with ⟨_,h0⟩|⟨g,cap,cur,rfl,_⟩
 ·omega
 ·refine⟨g,cap,rfl,fun j u hu=>?_⟩
  have hj:j<(spotCells l).length:=(List.getElem?_eq_some_iff.1 hu).1
  rw[spotCells_length] at hj
  have hadd:(⟨g,0,none⟩:Addr).add j=⟨g,j,none⟩:=by unfold Addr.add;split<;>simp_all
  rw[hadd]
  exact(h.cellAt _ (by omega)).trans hu
theorem matchLoop_len (n:Nat):∀(out:List PSpot) (st:RS),(matchLoop n out st).2.rest.length≤st.rest.length:=by
 induction n with
 | zero=>intro out st;exact Nat.le_refl _
 | succ n ih=>
  intro out st
  simp only[matchLoop]
  have h1:=pathR_len st
  split
  ·exact Nat.le_refl _
  ·split
   ·have h2:=ih (out++(pathR st).1) (hasR mComma (pathR st).2)
    have h3:=hasR_len mComma (pathR st).2
    omega
   ·exact h1
theorem condR_len (st:RS):(condR st).2.rest.length≤st.rest.length:=by
 have h1:=termR_len st
 have ho:∀(l:List ByteArray) (i:Int) (s:RS),(opLoop l i s).2.rest.length≤s.rest.length:=by
  intro l
  induction l with
  | nil=>intro i s;exact Nat.le_refl _
  | cons m r ih=>
   intro i s
   simp only[opLoop]
   split
   ·exact hasR_len m s
   ·exact ih _ s
 unfold condR
 simp only
 split
 ·have h2:=mustR_len kNULL (hasR kNOT (hasR kIS (termR st).2))
  have h3:=hasR_len kNOT (hasR kIS (termR st).2)
  have h4:=hasR_len kIS (termR st).2
  simp only
  omega
 ·have h2:=ho opsR 1 (termR st).2
  have h3:=termR_len ((opLoop opsR 1 (termR st).2).2.orBad (decide ((opLoop opsR 1 (termR st).2).1=0)))
  rw[orBad_rest] at h3
  simp only
  omega
theorem condLoop_more {n:Nat} {cd:List PCond} {c:PCond} {st s2:RS} (hp:condR st=(c,s2)) (hb:s2.bad=false) (hc:peekR kAND s2=true):condLoop (n+1) cd st=condLoop n (cd++[c]) (hasR kAND s2):=by
 simp only[condLoop];rw[hp];simp only[hb,hc];rfl
theorem condLoop_last {n:Nat} {cd:List PCond} {c:PCond} {st s2:RS} (hp:condR st=(c,s2)) (hc:s2.bad=true∨peekR kAND s2=false):condLoop (n+1) cd st=(cd++[c],s2):=by
 simp only[condLoop];rw[hp]
 rcases hc with hc|hc
 ·simp[hc]
 ·simp[hc]
theorem condIs {b:Nat} {lv:Value} {ts:List Tok} {st st1:RS} {c:PCond} {W:World} (h:RI b lv ts st W) (hn:condR st=(c,st1)):
  Calls Tryz.prog 89 #[.pointer (some ⟨b,0,none⟩)] W fun e W'=>e=.returned (.agg #[.int .i64 c.op,.string c.a.name,.string c.a.key,.int .i64 c.a.val,.string c.b.name,.string c.b.key,.int .i64 c.b.val])∧RI b lv ts st1 W'∧W.grownBy W' (some b):=by
 have:=cond h
 rw[hn] at this;exact this
theorem Tryz.infoCond:(Tryz.prog.info? 87).map (fun i=>(i.zero,i.size,i.bytes))=some (some (.agg #[.int .i64 0,.string ⟨#[]⟩,.string ⟨#[]⟩,.int .i64 0,.string ⟨#[]⟩,.string ⟨#[]⟩,.int .i64 0]),7,88):=by kernel_rfl
theorem seven_one {a b c d:ByteArray} {i j k:Int}:∀u∈[Value.int .i64 i,.string a,.string b,.int .i64 j,.string c,.string d,.int .i64 k],u.oneCell'=true:=by
 intro u hu
 simp at hu
 rcases hu with rfl|rfl|rfl|rfl|rfl|rfl|rfl<;>rfl
end Go.Proofs.YtobgbmfpicmpcaaGreatDoor

