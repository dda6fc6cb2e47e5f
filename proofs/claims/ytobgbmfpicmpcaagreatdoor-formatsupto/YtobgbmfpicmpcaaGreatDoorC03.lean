/- The reference's reader: words, names, titles and numbers. -/
import Derived.Test.YtobgbmfpicmpcaaGreatDoorC02
import Derived.WalkSmall
import Derived.Deep.LoopGhost
import Derived.Deep.AppendLies
namespace Go.Proofs.YtobgbmfpicmpcaaGreatDoor
open Go.RowKit
def tokV (t:Tok):Value:=.agg #[.int .i64 t.kind,.string t.text,.int .i64 t.val]
theorem isKind_nil {kd:Int} {st:RS} (h:st.rest=[]):isKind kd st=false:=by unfold isKind;rw[h]
theorem isKind_cons {kd:Int} {st:RS} {t:Tok} {r:List Tok} (h:st.rest=t::r):isKind kd st=decide (t.kind=kd):=by unfold isKind;rw[h]
theorem RI.tokNe {b g cap:Nat} {ts:List Tok} {st:RS} {W:World} (h:RI b (.slice (some ⟨g,0,none⟩) ts.length cap) ts st W):g≠b:=by
 have:=h.ne
 intro e
 apply this
 rw[e];rfl
structure NextAt (b x:Nat) (lv:Value) (ts:List Tok) (st:RS) (W W1:World):Prop where
 ri:RI b lv ts st W1
 loc:Loc W1 x #[.int .i64 0,.string ⟨#[]⟩,.int .i64 0] 153
 new:W.heap.size≤x
 grown:W.grownBy W1 (some b)
 ne:b≠x
set_option maxRecDepth 100000 in
set_option maxHeartbeats 1000000 in
theorem next {b:Nat} {lv:Value} {ts:List Tok} {st:RS} {W:World} (h:RI b lv ts st W) (kd:Int):
  Calls Tryz.prog 86 #[.pointer (some ⟨b,0,none⟩),.int .i64 kd] W fun e W'=>e=.returned (tokV (nextR kd st).1)∧RI b lv ts (nextR kd st).2 W'∧W.grownBy W' (some b):=by
 have HI:=Lib.hid h
 have hbl:=h.box.lt
 obtain⟨ao,cap,k,rfl,hcap,hlen,hk,hrl,c0,c1,c2,hr⟩:=h.seen
 have hkb:k≤2000:=by omega
 have HR:=Lib.hid hr
 have HK:=Lib.hid hk
 have HNX:Hid (∀nq,NextAt b W.heap.size (.slice ao ts.length cap) ts st W ((W.alloc (.cells #[.int .i64 0,.string ⟨#[]⟩,.int .i64 0] 153)).drewN nq)):=fun nq=>
  ⟨(HI.out.alloc _).drew nq,(Loc.new _ _ _).drew nq,Nat.le_refl _,grown_trans (grown_alloc W _ _) (grown_drew _ nq _),by have:=HI.out.box.lt;omega⟩
 have HRB:Hid (∀x,W.heap.size≤x→(Value.slice ao ts.length cap).ownBlock≠some x):=by
  intro x hx he
  obtain⟨B,ho⟩:=h.row
  have:=(ho.lt x he).2
  omega
 clear h hr
 by_cases hm:isKind kd st=true
 ·have HN:Hid (nextR kd st=(st.rest.headD tok0,⟨st.rest.tail,st.bad⟩)):=by show _=_;unfold nextR;rw[if_pos hm]
  cases hrest:st.rest with
  | nil=>rw[isKind_nil hrest] at hm;cases hm
  | cons t r=>
   obtain⟨hlt,g,rfl,z0,z1,z2⟩:=HR.out t r hrest
   have hkd:t.kind=kd:=by rw[isKind_cons hrest] at hm;simpa using hm
   have hg2:(t.kind != kd)=false:=by simp[hkd]
   have hgl:g<W.heap.size:=block_lt_of_cell z0
   have HS:=Lib.hid hrest
   have HRR:Hid (st.rest.length=r.length+1):=by show _=_;rw[hrest];rfl
   have HRL:=Lib.hid hrl
   clear hm hkd hk hrest HR hrl c2 z1 z2
   go_enter Tryz.func86,Tryz.ntmps86
   go_wp2
   go_quiet (fail)
   have hN:=HNX.out nq
   generalize (W.alloc (.cells #[.int .i64 0,.string ⟨#[]⟩,.int .i64 0] 153)).drewN nq=W1 at hN⊢
   obtain⟨x,hxx⟩:∃x,x=W.heap.size:=⟨_,rfl⟩
   rw[←hxx] at hN⊢
   clear hxx HNX c0 c1 z0
   have HN1:=Lib.hid hN
   obtain⟨ao1,cap1,k1,e1,-,-,hk1,-,c0,c1,c2,hr1⟩:=hN.ri.seen
   injection e1 with e1 _ e3
   subst e1;subst e3
   have ek:k1=k:=by rw[hk1];exact HK.out.symm
   subst ek
   obtain⟨-,g1,eg,z0,z1,z2⟩:=hr1 t r HS.out
   injection eg with eg
   injection eg with eg
   subst eg
   have f1:=hN.ri.box.free 1
   clear hN hr1 hk1 c2
   go_wp2
   have hI2:RI b (.slice (some ⟨g,0,none⟩) ts.length cap) ts ⟨r,st.bad⟩ (W1.setCell ⟨b,1,none⟩ (.int .i64 ((k1:Int)+1))):=HN1.out.ri.setAt HS.out _ (by have:=HK.out;have:=HRR.out;have:=HRL.out;omega)
   have hgb:=HN1.out.ri.tokNe
   have hS:=grown_set W1 b 1 (.int .i64 ((k1:Int)+1))
   have y0:=hS.cell z0 (by simpa using hgb)
   have y1:=hS.cell z1 (by simpa using hgb)
   have y2:=hS.cell z2 (by simpa using hgb)
   have hX2:=HN1.out.loc.grown hS (by simpa using fun e=>HN1.out.ne e.symm)
   have hG2:=grown_trans HN1.out.grown hS
   have c0':=(hI2.box.cell 0).trans rfl
   have c1':(W1.setCell ⟨b,1,none⟩ (.int .i64 ((k1:Int)+1))).cell? ⟨b,1,none⟩=some (.int .i64 ((k1:Int)+1)):=(hI2.box.cell 1).trans (by
    have e:((ts.length - r.length:Nat):Int)=(k1:Int)+1:=by have:=HK.out;have:=HRR.out;have:=HRL.out;omega
    show some (Value.int .i64 ((ts.length - r.length:Nat):Int))=_
    rw[e])
   clear c0 c1 z0 z1 z2 f1 hS hgb
   generalize W1.setCell ⟨b,1,none⟩ (.int .i64 ((k1:Int)+1))=W2 at hI2 y0 y1 y2 hX2 hG2 c0' c1'⊢
   have x0:=hX2.cell 0
   have x1:=hX2.cell 1
   have x2:=hX2.cell 2
   have w0:=hX2.free 0
   have w1:=hX2.free 1
   have w2:=hX2.free 2
   have HI2:=Lib.hid hI2
   have HX2:=Lib.hid hX2
   have HG2:=Lib.hid hG2
   clear hI2 hX2 hG2
   go_region
   go_wp2
   have hgx:=HRB.out x HN1.out.new
   have hne:=HN1.out.ne
   have hxF:Loc (((W2.setCell ⟨x,0,none⟩ (.int .i64 t.kind)).setCell ⟨x,1,none⟩ (.string t.text)).setCell ⟨x,2,none⟩ (.int .i64 t.val)).drew x #[.int .i64 t.kind,.string t.text,.int .i64 t.val] 153:=((HX2.out.set 0 _).set 1 _).set 2 _
   have hIF:RI b (.slice (some ⟨g,0,none⟩) ts.length cap) ts ⟨r,st.bad⟩ (((W2.setCell ⟨x,0,none⟩ (.int .i64 t.kind)).setCell ⟨x,1,none⟩ (.string t.text)).setCell ⟨x,2,none⟩ (.int .i64 t.val)).drew:=(((HI2.out.setOther hne hgx 0 _).setOther hne hgx 1 _).setOther hne hgx 2 _).drew 1
   have hGF:W.grownBy (((W2.setCell ⟨x,0,none⟩ (.int .i64 t.kind)).setCell ⟨x,1,none⟩ (.string t.text)).setCell ⟨x,2,none⟩ (.int .i64 t.val)).drew (some b):=grown_trans (grown_own (grown_own (grown_own HG2.out HN1.out.new 0 _) HN1.out.new 1 _) HN1.out.new 2 _) (grown_drew _ 1 _)
   generalize (((W2.setCell ⟨x,0,none⟩ (.int .i64 t.kind)).setCell ⟨x,1,none⟩ (.string t.text)).setCell ⟨x,2,none⟩ (.int .i64 t.val)).drew=WF at hxF hIF hGF⊢
   refine bodyPost_ret (v:=tokV t) ?_ rfl ⟨?_,?_,hGF⟩
   ·have r0:=hxF.cell 0
    have r1:=hxF.cell 1
    have r2:=hxF.cell 2
    simp at r0 r1 r2
    simp[results,Tryz.results86,go_sem,tokV,r0,r1,r2]
   ·rw[HN.out,HS.out];rfl
   ·rw[HN.out,HS.out];exact hIF
 ·have HN:Hid (nextR kd st=(tok0,⟨st.rest,true⟩)):=by show _=_;unfold nextR;rw[if_neg hm]
  cases hrest:st.rest with
  | nil=>
   have hge:ts.length≤k:=by rw[hk,hrest];simp
   clear hk hrest HR hrl hm
   go_enter Tryz.func86,Tryz.ntmps86
   go_wp2
   go_quiet (fail)
   have hN:=HNX.out nq
   generalize (W.alloc (.cells #[.int .i64 0,.string ⟨#[]⟩,.int .i64 0] 153)).drewN nq=W1 at hN⊢
   obtain⟨x,hxx⟩:∃x,x=W.heap.size:=⟨_,rfl⟩
   rw[←hxx] at hN⊢
   clear hxx HNX c0 c1
   have HN1:=Lib.hid hN
   have f2:=hN.ri.box.free 2
   have c2:=(hN.ri.box.cell 2).trans rfl
   have x0:=hN.loc.cell 0
   have x1:=hN.loc.cell 1
   have x2:=hN.loc.cell 2
   have w0:=hN.loc.free 0
   have w1:=hN.loc.free 1
   have w2:=hN.loc.free 2
   clear hN
   have hne:=HN1.out.ne
   have hnb:x≠b:=fun e=>hne e.symm
   go_wp2
   have hgx:(Value.slice ao ts.length cap).ownBlock≠some x:=by
    have:=HN1.out.new
    exact HRB.out x this
   have hS:=grown_set W1 b 2 (.bool true)
   have hxF:Loc ((((W1.setCell ⟨b,2,none⟩ (.bool true)).setCell ⟨x,0,none⟩ (.int .i64 0)).setCell ⟨x,1,none⟩ (.string ⟨#[]⟩)).setCell ⟨x,2,none⟩ (.int .i64 0)) x #[.int .i64 0,.string ⟨#[]⟩,.int .i64 0] 153:=(((HN1.out.loc.setOther hnb 2 _).set 0 _).set 1 _).set 2 _
   have hIF:RI b (.slice ao ts.length cap) ts ⟨st.rest,true⟩ ((((W1.setCell ⟨b,2,none⟩ (.bool true)).setCell ⟨x,0,none⟩ (.int .i64 0)).setCell ⟨x,1,none⟩ (.string ⟨#[]⟩)).setCell ⟨x,2,none⟩ (.int .i64 0)):=(((HN1.out.ri.setBad true).setOther hne hgx 0 _).setOther hne hgx 1 _).setOther hne hgx 2 _
   have hGF:W.grownBy ((((W1.setCell ⟨b,2,none⟩ (.bool true)).setCell ⟨x,0,none⟩ (.int .i64 0)).setCell ⟨x,1,none⟩ (.string ⟨#[]⟩)).setCell ⟨x,2,none⟩ (.int .i64 0)) (some b):=grown_own (grown_own (grown_own (grown_trans HN1.out.grown hS) HN1.out.new 0 _) HN1.out.new 1 _) HN1.out.new 2 _
   clear hS
   generalize ((((W1.setCell ⟨b,2,none⟩ (.bool true)).setCell ⟨x,0,none⟩ (.int .i64 0)).setCell ⟨x,1,none⟩ (.string ⟨#[]⟩)).setCell ⟨x,2,none⟩ (.int .i64 0))=WF at hxF hIF hGF⊢
   refine bodyPost_ret (v:=tokV tok0) ?_ rfl ⟨?_,?_,hGF⟩
   ·have r0:=hxF.cell 0
    have r1:=hxF.cell 1
    have r2:=hxF.cell 2
    simp at r0 r1 r2
    simp[results,Tryz.results86,go_sem,tokV,tok0,e0,r0,r1,r2]
   ·rw[HN.out]
   ·rw[HN.out];exact hIF
  | cons t r=>
   obtain⟨hlt,g,rfl,z0,z1,z2⟩:=HR.out t r hrest
   have hkd:t.kind≠kd:=by rw[isKind_cons hrest] at hm;simpa using hm
   have hg2:(t.kind != kd)=true:=by simpa using hkd
   have hgl:g<W.heap.size:=block_lt_of_cell z0
   clear hm hkd hk hrest HR hrl c2 z1 z2
   go_enter Tryz.func86,Tryz.ntmps86
   go_wp2
   go_quiet (fail)
   have hN:=HNX.out nq
   generalize (W.alloc (.cells #[.int .i64 0,.string ⟨#[]⟩,.int .i64 0] 153)).drewN nq=W1 at hN⊢
   obtain⟨x,hxx⟩:∃x,x=W.heap.size:=⟨_,rfl⟩
   rw[←hxx] at hN⊢
   clear hxx HNX c0 c1
   have HN1:=Lib.hid hN
   have f2:=hN.ri.box.free 2
   have c2:=(hN.ri.box.cell 2).trans rfl
   have x0:=hN.loc.cell 0
   have x1:=hN.loc.cell 1
   have x2:=hN.loc.cell 2
   have w0:=hN.loc.free 0
   have w1:=hN.loc.free 1
   have w2:=hN.loc.free 2
   clear hN
   have hne:=HN1.out.ne
   have hnb:x≠b:=fun e=>hne e.symm
   go_wp2
   have hgx:(Value.slice (some ⟨g,0,none⟩) ts.length cap).ownBlock≠some x:=by
    have:=HN1.out.new
    exact HRB.out x this
   have hS:=grown_set W1 b 2 (.bool true)
   have hxF:Loc ((((W1.setCell ⟨b,2,none⟩ (.bool true)).setCell ⟨x,0,none⟩ (.int .i64 0)).setCell ⟨x,1,none⟩ (.string ⟨#[]⟩)).setCell ⟨x,2,none⟩ (.int .i64 0)) x #[.int .i64 0,.string ⟨#[]⟩,.int .i64 0] 153:=(((HN1.out.loc.setOther hnb 2 _).set 0 _).set 1 _).set 2 _
   have hIF:RI b (.slice (some ⟨g,0,none⟩) ts.length cap) ts ⟨st.rest,true⟩ ((((W1.setCell ⟨b,2,none⟩ (.bool true)).setCell ⟨x,0,none⟩ (.int .i64 0)).setCell ⟨x,1,none⟩ (.string ⟨#[]⟩)).setCell ⟨x,2,none⟩ (.int .i64 0)):=(((HN1.out.ri.setBad true).setOther hne hgx 0 _).setOther hne hgx 1 _).setOther hne hgx 2 _
   have hGF:W.grownBy ((((W1.setCell ⟨b,2,none⟩ (.bool true)).setCell ⟨x,0,none⟩ (.int .i64 0)).setCell ⟨x,1,none⟩ (.string ⟨#[]⟩)).setCell ⟨x,2,none⟩ (.int .i64 0)) (some b):=grown_own (grown_own (grown_own (grown_trans HN1.out.grown hS) HN1.out.new 0 _) HN1.out.new 1 _) HN1.out.new 2 _
   clear hS
   generalize ((((W1.setCell ⟨b,2,none⟩ (.bool true)).setCell ⟨x,0,none⟩ (.int .i64 0)).setCell ⟨x,1,none⟩ (.string ⟨#[]⟩)).setCell ⟨x,2,none⟩ (.int .i64 0))=WF at hxF hIF hGF⊢
   refine bodyPost_ret (v:=tokV tok0) ?_ rfl ⟨?_,?_,hGF⟩
   ·have r0:=hxF.cell 0
    have r1:=hxF.cell 1
    have r2:=hxF.cell 2
    simp at r0 r1 r2
    simp[results,Tryz.results86,go_sem,tokV,tok0,e0,r0,r1,r2]
   ·rw[HN.out]
   ·rw[HN.out];exact hIF
theorem nextIs {b:Nat} {lv:Value} {ts:List Tok} {st st':RS} {W:World} (h:RI b lv ts st W) (kd:Int) (t:Tok) (hn:nextR kd st=(t,st')):
  Calls Tryz.prog 86 #[.pointer (some ⟨b,0,none⟩),.int .i64 kd] W fun e W'=>e=.returned (.agg #[.int .i64 t.kind,.string t.text,.int .i64 t.val])∧RI b lv ts st' W'∧W.grownBy W' (some b):=by
 have:=next h kd
 rw[hn] at this;exact this
theorem isWord_of {s:ByteArray} (h1:1≤s.size) (h8:s.size≤8) (hl:letB (bt s 0)=true):isWord s=decide (∀j,j<s.size→alnB (bt s j)=true):=by
 unfold isWord;rw[decide_eq_true h1,decide_eq_true h8,hl];rfl
theorem isWord_no {s:ByteArray} (h:¬(1≤s.size∧s.size≤8∧letB (bt s 0)=true)):isWord s=false:=by
 cases hx:isWord s with
 | false=>rfl
 | true=>
  exfalso;apply h
  unfold isWord at hx
  simp only[Bool.and_eq_true,decide_eq_true_eq] at hx
  exact⟨hx.1.1.1,hx.1.1.2,hx.1.2⟩
set_option maxRecDepth 100000 in
set_option maxHeartbeats 1000000 in
theorem refWord (s:ByteArray) (w:World):Calls Tryz.prog 151 #[.string s] w fun e w'=>e=.returned (.bool (isWord s))∧w'=w:=by
 by_cases h1:1≤s.size
 ·by_cases h8:s.size≤8
  ·have h0:0<s.size:=h1
   cases hl:letB ((s[0]'h0).toNat:Int) with
   | true=>
    have HW:Hid (isWord s=decide (∀j,j<s.size→alnB (bt s j)=true)):=isWord_of h1 h8 (by rw[←bt_in h0];exact hl)
    go_enter Tryz.func151,Tryz.ntmps151
    go_wp2_with (first|(go_at_call 78;refine(refLetter _ _).mono ?_;rintro e w' ⟨rfl,rfl⟩)|(go_at_call 79;refine(refDigit _ _).mono ?_;rintro e w' ⟨rfl,rfl⟩))
    clear hl
    go_loop [3] (fun i=>∃k:Nat,k≤s.size∧i=.int .i64 k∧∀j,j<k→alnB (bt s j)=true) (fun i=>s.size - (intOf i).toNat)
    case atStart=>exact⟨0,by omega,rfl,fun j hj=>absurd hj (by omega)⟩
    case round=>
     obtain⟨k,hk,rfl,hall⟩:=hrel
     have HA:=Lib.hid hall
     clear hall
     by_cases hlt:k<s.size
     ·cases hl:letB ((s[k]'hlt).toNat:Int) with
      | true=>
       have HK1:Hid (∀j,j<k+1→alnB (bt s j)=true):=by
        intro j hj
        by_cases e:j=k
        ·subst e;rw[←bt_in hlt];unfold alnB;rw[hl];rfl
        ·exact HA.out j (by omega)
       go_wp2_with (first|(go_at_call 78;refine(refLetter _ _).mono ?_;rintro e w' ⟨rfl,rfl⟩)|(go_at_call 79;refine(refDigit _ _).mono ?_;rintro e w' ⟨rfl,rfl⟩))
       go_round
       case rel=>exact⟨k+1,by omega,by go_num,HK1.out⟩
       case measure=>simp[intOf];omega
      | false=>
       cases hd:digB ((s[k]'hlt).toNat:Int) with
       | true=>
        have HK1:Hid (∀j,j<k+1→alnB (bt s j)=true):=by
         intro j hj
         by_cases e:j=k
         ·subst e;rw[←bt_in hlt];unfold alnB;rw[hl,hd];rfl
         ·exact HA.out j (by omega)
        go_wp2_with (first|(go_at_call 78;refine(refLetter _ _).mono ?_;rintro e w' ⟨rfl,rfl⟩)|(go_at_call 79;refine(refDigit _ _).mono ?_;rintro e w' ⟨rfl,rfl⟩))
        go_round
        case rel=>exact⟨k+1,by omega,by go_num,HK1.out⟩
        case measure=>simp[intOf];omega
       | false=>
        have HF:Hid (isWord s=false):=by
         show _=_
         rw[HW.out]
         apply decide_eq_false
         intro hall
         have:=hall k hlt
         rw[←bt_in hlt] at this
         unfold alnB at this
         rw[hl,hd] at this
         cases this
        go_wp2_with (first|(go_at_call 78;refine(refLetter _ _).mono ?_;rintro e w' ⟨rfl,rfl⟩)|(go_at_call 79;refine(refDigit _ _).mono ?_;rintro e w' ⟨rfl,rfl⟩))
        go_ret
        exact⟨ret_bool HF.out.symm,rfl⟩
     ·have HF:Hid (isWord s=true):=by
       show _=_
       rw[HW.out]
       apply decide_eq_true
       intro j hj
       exact HA.out j (by omega)
      go_wp2
      go_ret
      exact⟨ret_bool HF.out.symm,rfl⟩
   | false=>
    have HF:Hid (isWord s=false):=isWord_no (by rintro ⟨_,_,h⟩;rw[←bt_in h0,hl] at h;cases h)
    go_enter Tryz.func151,Tryz.ntmps151
    go_wp2_with (first|(go_at_call 78;refine(refLetter _ _).mono ?_;rintro e w' ⟨rfl,rfl⟩)|(go_at_call 79;refine(refDigit _ _).mono ?_;rintro e w' ⟨rfl,rfl⟩))
    go_ret
    exact⟨ret_bool HF.out.symm,rfl⟩
  ·have HF:Hid (isWord s=false):=isWord_no (by omega)
   go_enter Tryz.func151,Tryz.ntmps151
   go_wp2
   go_ret
   exact⟨ret_bool HF.out.symm,rfl⟩
 ·have HF:Hid (isWord s=false):=isWord_no (by omega)
  go_enter Tryz.func151,Tryz.ntmps151
  go_wp2
  go_ret
  exact⟨ret_bool HF.out.symm,rfl⟩
end Go.Proofs.YtobgbmfpicmpcaaGreatDoor

/- The reference's reader: names, titles and numbers. -/
namespace Go.Proofs.YtobgbmfpicmpcaaGreatDoor
open Go.RowKit
set_option maxRecDepth 100000 in
set_option maxHeartbeats 1000000 in
theorem refName (s:ByteArray) (w:World):Calls Tryz.prog 87 #[.string s] w fun e w'=>e=.returned (.bool (isName s))∧w'=w:=by
 have HC:=Lib.hid (fun w=>refWord s w)
 cases hw:isWord s with
 | true=>
  have h1:0<s.size:=by
   by_cases h:0<s.size
   ·exact h
   ·rw[isWord_no (by omega)] at hw;cases hw
  have HN:Hid (isName s=decide (97≤((s[0]'h1).toNat:Int))):=by show _=_;unfold isName;rw[hw,bt_in h1];rfl
  have HW:=Lib.hid hw
  clear hw
  go_enter Tryz.func87,Tryz.ntmps87
  go_wp2_with (go_at_call 151;refine(HC.out _).mono ?_;rintro e w' ⟨he,rfl⟩;rw[HW.out] at he;subst he)
  go_ret
  exact⟨ret_bool HN.out.symm,rfl⟩
 | false=>
  have HF:Hid (isName s=false):=by show _=_;unfold isName;rw[hw];rfl
  have HW:=Lib.hid hw
  clear hw
  go_enter Tryz.func87,Tryz.ntmps87
  go_wp2_with (go_at_call 151;refine(HC.out _).mono ?_;rintro e w' ⟨he,rfl⟩;rw[HW.out] at he;subst he)
  go_ret
  exact⟨ret_bool HF.out.symm,rfl⟩
def kwAt (k:Nat):ByteArray:=keywords.getD k e0
theorem kw_cells (w:World) (j:Nat) (hj:j<17):(w.alloc (.cells #[Value.string {data:=#[77,65,84,67,72]},Value.string {data:=#[87,72,69,82,69]},Value.string {data:=#[65,78,68]},Value.string {data:=#[82,69,84,85,82,78]},Value.string {data:=#[79,82,68,69,82]},Value.string {data:=#[66,89]},Value.string {data:=#[68,69,83,67]},Value.string {data:=#[83,75,73,80]},Value.string {data:=#[76,73,77,73,84]},Value.string {data:=#[83,69,84]},Value.string {data:=#[68,69,76,69,84,69]},Value.string {data:=#[67,82,69,65,84,69]},Value.string {data:=#[67,65,76,76]},Value.string {data:=#[73,83]},Value.string {data:=#[78,79,84]},Value.string {data:=#[78,85,76,76]},Value.string {data:=#[67,79,85,78,84]}] 9)).cell? ⟨w.heap.size,j,none⟩=some (.string (kwAt j)):=by
 rw[(Loc.new w _ _).cell j]
 rcases (show j=0∨j=1∨j=2∨j=3∨j=4∨j=5∨j=6∨j=7∨j=8∨j=9∨j=10∨j=11∨j=12∨j=13∨j=14∨j=15∨j=16 by omega) with rfl|rfl|rfl|rfl|rfl|rfl|rfl|rfl|rfl|rfl|rfl|rfl|rfl|rfl|rfl|rfl|rfl
 all_goals rfl
theorem kw_yes {s:ByteArray} {k:Nat} (hk:k<17) (h:eqB (kwAt k) s=true):isKeyword s=true:=by
 unfold isKeyword
 rw[List.any_eq_true]
 have hl:keywords.length=17:=rfl
 refine⟨keywords[k]'(by omega),List.getElem_mem _,?_⟩
 unfold kwAt at h
 rw[List.getD_eq_getElem?_getD,List.getElem?_eq_getElem (by omega)] at h
 exact h
theorem kw_no {s:ByteArray} (h:∀j,j<17→eqB (kwAt j) s=false):isKeyword s=false:=by
 unfold isKeyword
 rw[List.any_eq_false]
 intro x hx
 obtain⟨i,hi,rfl⟩:=List.mem_iff_getElem.1 hx
 have hl:keywords.length=17:=rfl
 have:=h i (by omega)
 unfold kwAt at this
 rw[List.getD_eq_getElem?_getD,List.getElem?_eq_getElem hi] at this
 simpa using this
set_option maxRecDepth 100000 in
set_option maxHeartbeats 1000000 in
theorem refKeyword (s:ByteArray) (w:World):Calls Tryz.prog 210 #[.string s] w fun e w'=>e=.returned (.bool (isKeyword s))∧Below w.heap.size w w':=by
 go_enter Tryz.func210,Tryz.ntmps210
 go_wp2
 go_loopw [4] (fun i wr=>∃k:Nat,k≤17∧i=.int .i64 k∧(∀j,j<17→wr.cell? ⟨w.heap.size,j,none⟩=some (.string (kwAt j)))∧Below w.heap.size w wr∧∀j,j<k→eqB (kwAt j) s=false) (fun i _=>17 - (intOf i).toNat)
 case atStart=>exact⟨0,by omega,rfl,kw_cells w,(Below.refl _ _).alloc (Nat.le_refl _) _,fun j hj=>absurd hj (by omega)⟩
 case round=>
  obtain⟨k,hk,rfl,hc,hB,hno⟩:=hrel
  have HC:=Lib.hid hc
  have HB:=Lib.hid hB
  have HN:=Lib.hid hno
  clear hc hB hno
  by_cases hlt:k<17
  ·obtain⟨m,hm⟩:∃m,m=kwAt k:=⟨_,rfl⟩
   have hck:wr.cell? ⟨w.heap.size,k,none⟩=some (.string m):=by rw[hm];exact HC.out k hlt
   have HM:=Lib.hid hm
   clear hm
   cases he:(m.toList==s.toList) with
   | true=>
    have HF:Hid (isKeyword s=true):=kw_yes hlt (by rw[←HM.out];exact he)
    go_wp2
    go_ret
    exact⟨ret_bool HF.out.symm,HB.out⟩
   | false=>
    have HF:Hid (∀j,j<k+1→eqB (kwAt j) s=false):=by
     intro j hj
     by_cases e:j=k
     ·subst e;rw[←HM.out];exact he
     ·exact HN.out j (by omega)
    go_wp2
    go_roundw
    case rel=>exact⟨k+1,by omega,by go_num,HC.out,HB.out,HF.out⟩
    case measure=>simp[intOf];omega
  ·have HF:Hid (isKeyword s=false):=kw_no (fun j hj=>HN.out j (by omega))
   go_wp2
   go_ret
   exact⟨ret_bool HF.out.symm,HB.out⟩
set_option maxRecDepth 100000 in
set_option maxHeartbeats 1000000 in
theorem refTitle (s:ByteArray) (w:World):Calls Tryz.prog 150 #[.string s] w fun e w'=>e=.returned (.bool (isTitle s))∧Below w.heap.size w w':=by
 have HC:=Lib.hid (fun w=>refWord s w)
 have HD:=Lib.hid (fun w=>refKeyword s w)
 cases hw:isWord s with
 | true=>
  have h1:0<s.size:=by
   by_cases h:0<s.size
   ·exact h
   ·rw[isWord_no (by omega)] at hw;cases hw
  have HN:Hid (isTitle s=(decide (((s[0]'h1).toNat:Int)<97)&&!isKeyword s)):=by show _=_;unfold isTitle;rw[hw,bt_in h1];rfl
  have HW:=Lib.hid hw
  clear hw
  by_cases hc:((s[0]'h1).toNat:Int)<97
  ·cases hkw:isKeyword s with
   | true=>
    have HF:Hid (isTitle s=false):=by show _=_;rw[HN.out,hkw];simp
    have HK:=Lib.hid hkw
    clear hkw
    go_enter Tryz.func150,Tryz.ntmps150
    go_wp2_with (first|(go_at_call 151;refine(HC.out _).mono ?_;rintro e w' ⟨he,rfl⟩;rw[HW.out] at he;subst he)|(go_at_call 210;refine(HD.out _).mono ?_;rintro e w' ⟨he,hb⟩;rw[HK.out] at he;subst he))
    go_ret
    exact⟨ret_bool HF.out.symm,hb⟩
   | false=>
    have HF:Hid (isTitle s=true):=by show _=_;rw[HN.out,hkw,decide_eq_true hc];rfl
    have HK:=Lib.hid hkw
    clear hkw
    go_enter Tryz.func150,Tryz.ntmps150
    go_wp2_with (first|(go_at_call 151;refine(HC.out _).mono ?_;rintro e w' ⟨he,rfl⟩;rw[HW.out] at he;subst he)|(go_at_call 210;refine(HD.out _).mono ?_;rintro e w' ⟨he,hb⟩;rw[HK.out] at he;subst he))
    go_ret
    exact⟨ret_bool HF.out.symm,hb⟩
  ·have HF:Hid (isTitle s=false):=by show _=_;rw[HN.out,decide_eq_false hc];rfl
   go_enter Tryz.func150,Tryz.ntmps150
   go_wp2_with (first|(go_at_call 151;refine(HC.out _).mono ?_;rintro e w' ⟨he,rfl⟩;rw[HW.out] at he;subst he)|(go_at_call 210;refine(HD.out _).mono ?_;rintro e w' ⟨rfl,hb⟩))
   go_ret
   exact⟨ret_bool HF.out.symm,hb⟩
 | false=>
  have HF:Hid (isTitle s=false):=by show _=_;unfold isTitle;rw[hw];rfl
  have HW:=Lib.hid hw
  clear hw
  go_enter Tryz.func150,Tryz.ntmps150
  go_wp2_with (first|(go_at_call 151;refine(HC.out _).mono ?_;rintro e w' ⟨he,rfl⟩;rw[HW.out] at he;subst he)|(go_at_call 210;refine(HD.out _).mono ?_;rintro e w' ⟨rfl,hb⟩))
  go_ret
  exact⟨ret_bool HF.out.symm,hb⟩
end Go.Proofs.YtobgbmfpicmpcaaGreatDoor

/- The reference's reader: a name, a title, a number must stand next. -/
namespace Go.Proofs.YtobgbmfpicmpcaaGreatDoor
open Go.RowKit
theorem ret_string {a b:ByteArray} (h:a=b):Ending.returned (.string a)=.returned (.string b):=by rw[h]
theorem ret_num {a b:Int} (h:a=b):Ending.returned (.int .i64 a)=.returned (.int .i64 b):=by rw[h]
set_option maxRecDepth 100000 in
set_option maxHeartbeats 1000000 in
theorem name {b:Nat} {lv:Value} {ts:List Tok} {st:RS} {W:World} (h:RI b lv ts st W):
  Calls Tryz.prog 40 #[.pointer (some ⟨b,0,none⟩)] W fun e W'=>e=.returned (.string (nameR st).1)∧RI b lv ts (nameR st).2 W'∧W.grownBy W' (some b):=by
 obtain⟨t,st1,hn⟩:∃t st1,nextR 1 st=(t,st1):=⟨_,_,rfl⟩
 have HN:Hid (nameR st=(t.text,st1.orBad (!isName t.text))):=by show _=_;unfold nameR;rw[hn]
 have HX:=Lib.hid hn
 have HI:=Lib.hid h
 have HNM:=Lib.hid (fun w=>refName t.text w)
 clear h hn
 cases hb:st1.bad with
 | true=>
  have HB:=Lib.hid hb
  have HS:Hid (st1.orBad (!isName t.text)=⟨st1.rest,true⟩):=by show _=_;unfold RS.orBad;rw[hb];rfl
  clear hb
  go_enter Tryz.func40,Tryz.ntmps40
  go_wp2_with (first|(go_at_call 86;refine(nextIs HI.out 1 t HX.out).mono ?_;rintro e W1 ⟨rfl,h1,g1⟩;have HI1:=Lib.hid h1;have HG1:=Lib.hid g1;have hbl:=h1.box.lt;have c2:=(h1.box.cell 2).trans (by rw[HB.out];rfl:_=some (Value.bool true));have f2:=h1.box.free 2;clear h1 g1)|(go_at_call 87;refine(HNM.out _).mono ?_;rintro e w' ⟨rfl,rfl⟩))
  go_ret
  exact⟨ret_string (by rw[HN.out]),by rw[HN.out,HS.out];exact(HI1.out.setBad true).alloc _,grown_trans (grown_trans HG1.out (grown_set _ b 2 _)) (grown_alloc _ _ _)⟩
 | false=>
  have HB:=Lib.hid hb
  have HS:Hid (st1.orBad (!isName t.text)=⟨st1.rest,!isName t.text⟩):=by show _=_;unfold RS.orBad;rw[hb];rfl
  clear hb
  go_enter Tryz.func40,Tryz.ntmps40
  go_wp2_with (first|(go_at_call 86;refine(nextIs HI.out 1 t HX.out).mono ?_;rintro e W1 ⟨rfl,h1,g1⟩;have HI1:=Lib.hid h1;have HG1:=Lib.hid g1;have hbl:=h1.box.lt;have c2:=(h1.box.cell 2).trans (by rw[HB.out];rfl:_=some (Value.bool false));have f2:=h1.box.free 2;clear h1 g1)|(go_at_call 87;refine(HNM.out _).mono ?_;rintro e w' ⟨rfl,rfl⟩))
  go_ret
  exact⟨ret_string (by rw[HN.out]),by rw[HN.out,HS.out];exact(HI1.out.setBad (!isName t.text)).alloc _,grown_trans (grown_trans HG1.out (grown_set _ b 2 _)) (grown_alloc _ _ _)⟩
set_option maxRecDepth 100000 in
set_option maxHeartbeats 1000000 in
theorem title {b:Nat} {lv:Value} {ts:List Tok} {st:RS} {W:World} (h:RI b lv ts st W):
  Calls Tryz.prog 84 #[.pointer (some ⟨b,0,none⟩)] W fun e W'=>e=.returned (.string (titleR st).1)∧RI b lv ts (titleR st).2 W'∧W.grownBy W' (some b):=by
 obtain⟨t,st1,hn⟩:∃t st1,nextR 1 st=(t,st1):=⟨_,_,rfl⟩
 have HN:Hid (titleR st=(t.text,st1.orBad (!isTitle t.text))):=by show _=_;unfold titleR;rw[hn]
 have HX:=Lib.hid hn
 have HI:=Lib.hid h
 have HNM:=Lib.hid (fun w=>refTitle t.text w)
 clear h hn
 cases hb:st1.bad with
 | true=>
  have HB:=Lib.hid hb
  have HS:Hid (st1.orBad (!isTitle t.text)=⟨st1.rest,true⟩):=by show _=_;unfold RS.orBad;rw[hb];rfl
  clear hb
  go_enter Tryz.func84,Tryz.ntmps84
  go_wp2_with (first|(go_at_call 86;refine(nextIs HI.out 1 t HX.out).mono ?_;rintro e W1 ⟨rfl,h1,g1⟩;have HI1:=Lib.hid h1;have HG1:=Lib.hid g1;have hbl:=h1.box.lt;have c2:=(h1.box.cell 2).trans (by rw[HB.out];rfl:_=some (Value.bool true));have f2:=h1.box.free 2;clear h1 g1))
  refine(HNM.out _).mono ?_
  rintro e W2 ⟨rfl,hb2⟩
  have hg2:=grown_below hb2 none
  have hI2:=(HI1.out.alloc (.cells #[.int .i64 t.kind,.string t.text,.int .i64 t.val] 153)).old hg2
  have hL2:=(Loc.new W1 #[.int .i64 t.kind,.string t.text,.int .i64 t.val] 153).grown hg2 (by simp)
  have HI2:=Lib.hid hI2
  have HG2:Hid (W.grownBy W2 (some b)):=grown_trans (grown_trans HG1.out (grown_alloc _ _ _)) (grown_below hb2 _)
  have k2:W2.cell? ⟨b,2,none⟩=some (.bool true):=(hI2.box.cell 2).trans (by rw[HB.out];rfl)
  have q2:=hI2.box.free 2
  have y1:W2.cell? ⟨W1.heap.size,1,none⟩=some (.string t.text):=(hL2.cell 1).trans rfl
  have hnb:W1.heap.size≠b:=by omega
  clear hb2 hg2 hI2 hL2 c2 f2
  go_wp2
  go_ret
  exact⟨ret_string (by rw[HN.out]),by rw[HN.out,HS.out];exact HI2.out.setBad true,grown_trans HG2.out (grown_set _ b 2 _)⟩
 | false=>
  have HB:=Lib.hid hb
  have HS:Hid (st1.orBad (!isTitle t.text)=⟨st1.rest,!isTitle t.text⟩):=by show _=_;unfold RS.orBad;rw[hb];rfl
  clear hb
  go_enter Tryz.func84,Tryz.ntmps84
  go_wp2_with (first|(go_at_call 86;refine(nextIs HI.out 1 t HX.out).mono ?_;rintro e W1 ⟨rfl,h1,g1⟩;have HI1:=Lib.hid h1;have HG1:=Lib.hid g1;have hbl:=h1.box.lt;have c2:=(h1.box.cell 2).trans (by rw[HB.out];rfl:_=some (Value.bool false));have f2:=h1.box.free 2;clear h1 g1))
  refine(HNM.out _).mono ?_
  rintro e W2 ⟨rfl,hb2⟩
  have hg2:=grown_below hb2 none
  have hI2:=(HI1.out.alloc (.cells #[.int .i64 t.kind,.string t.text,.int .i64 t.val] 153)).old hg2
  have hL2:=(Loc.new W1 #[.int .i64 t.kind,.string t.text,.int .i64 t.val] 153).grown hg2 (by simp)
  have HI2:=Lib.hid hI2
  have HG2:Hid (W.grownBy W2 (some b)):=grown_trans (grown_trans HG1.out (grown_alloc _ _ _)) (grown_below hb2 _)
  have k2:W2.cell? ⟨b,2,none⟩=some (.bool false):=(hI2.box.cell 2).trans (by rw[HB.out];rfl)
  have q2:=hI2.box.free 2
  have y1:W2.cell? ⟨W1.heap.size,1,none⟩=some (.string t.text):=(hL2.cell 1).trans rfl
  have hnb:W1.heap.size≠b:=by omega
  clear hb2 hg2 hI2 hL2 c2 f2
  go_wp2
  go_ret
  exact⟨ret_string (by rw[HN.out]),by rw[HN.out,HS.out];exact HI2.out.setBad (!isTitle t.text),grown_trans HG2.out (grown_set _ b 2 _)⟩
set_option maxRecDepth 100000 in
set_option maxHeartbeats 1000000 in
theorem count {b:Nat} {lv:Value} {ts:List Tok} {st:RS} {W:World} (h:RI b lv ts st W) (lo hi:Int):
  Calls Tryz.prog 85 #[.pointer (some ⟨b,0,none⟩),.int .i64 lo,.int .i64 hi] W fun e W'=>e=.returned (.int .i64 (countR lo hi st).1)∧RI b lv ts (countR lo hi st).2 W'∧W.grownBy W' (some b):=by
 obtain⟨t,st1,hn⟩:∃t st1,nextR 2 st=(t,st1):=⟨_,_,rfl⟩
 have HN:Hid (countR lo hi st=(t.val,st1.orBad (decide (t.val<lo) || decide (hi<t.val)))):=by show _=_;unfold countR;rw[hn]
 have HX:=Lib.hid hn
 have HI:=Lib.hid h
 clear h hn
 cases hb:st1.bad with
 | true=>
  have HB:=Lib.hid hb
  have HS:Hid (st1.orBad (decide (t.val<lo) || decide (hi<t.val))=⟨st1.rest,true⟩):=by show _=_;unfold RS.orBad;rw[hb];rfl
  clear hb
  go_enter Tryz.func85,Tryz.ntmps85
  go_wp2_with (go_at_call 86;refine(nextIs HI.out 2 t HX.out).mono ?_;rintro e W1 ⟨rfl,h1,g1⟩;have HI1:=Lib.hid h1;have HG1:=Lib.hid g1;have hbl:=h1.box.lt;have c2:=(h1.box.cell 2).trans (by rw[HB.out];rfl:_=some (Value.bool true));have f2:=h1.box.free 2;clear h1 g1)
  go_ret
  exact⟨ret_num (by rw[HN.out]),by rw[HN.out,HS.out];exact(HI1.out.setBad true).alloc _,grown_trans (grown_trans HG1.out (grown_set _ b 2 _)) (grown_alloc _ _ _)⟩
 | false=>
  have HB:=Lib.hid hb
  clear hb
  by_cases h1:t.val<lo
  ·have HS:Hid (st1.orBad (decide (t.val<lo) || decide (hi<t.val))=⟨st1.rest,true⟩):=by show _=_;unfold RS.orBad;rw[HB.out,decide_eq_true h1];rfl
   go_enter Tryz.func85,Tryz.ntmps85
   go_wp2_with (go_at_call 86;refine(nextIs HI.out 2 t HX.out).mono ?_;rintro e W1 ⟨rfl,h1,g1⟩;have HI1:=Lib.hid h1;have HG1:=Lib.hid g1;have hbl:=h1.box.lt;have c2:=(h1.box.cell 2).trans (by rw[HB.out];rfl:_=some (Value.bool false));have f2:=h1.box.free 2;clear h1 g1)
   go_ret
   exact⟨ret_num (by rw[HN.out]),by rw[HN.out,HS.out];exact(HI1.out.setBad true).alloc _,grown_trans (grown_trans HG1.out (grown_set _ b 2 _)) (grown_alloc _ _ _)⟩
  ·have HS:Hid (st1.orBad (decide (t.val<lo) || decide (hi<t.val))=⟨st1.rest,decide (hi<t.val)⟩):=by show _=_;unfold RS.orBad;rw[HB.out,decide_eq_false h1];rfl
   have hd1:decide (t.val<lo)=false:=decide_eq_false h1
   go_enter Tryz.func85,Tryz.ntmps85
   go_wp2_with (go_at_call 86;refine(nextIs HI.out 2 t HX.out).mono ?_;rintro e W1 ⟨rfl,h1,g1⟩;have HI1:=Lib.hid h1;have HG1:=Lib.hid g1;have hbl:=h1.box.lt;have c2:=(h1.box.cell 2).trans (by rw[HB.out];rfl:_=some (Value.bool false));have f2:=h1.box.free 2;clear h1 g1)
   go_ret
   exact⟨ret_num (by rw[HN.out]),by rw[HN.out,HS.out];exact(HI1.out.setBad _).alloc _,grown_trans (grown_trans HG1.out (grown_set _ b 2 _)) (grown_alloc _ _ _)⟩
end Go.Proofs.YtobgbmfpicmpcaaGreatDoor

/- The reference's reader: spots and terms. -/
namespace Go.Proofs.YtobgbmfpicmpcaaGreatDoor
open Go.RowKit
structure Two (W0:World) (b:Nat) (lv:Value) (ts:List Tok) (st:RS) (x:Nat) (cx:Array Value) (Tx:TypeId) (y:Nat) (cy:Array Value) (Ty:TypeId) (W:World):Prop where
 ri:RI b lv ts st W
 lx:Loc W x cx Tx
 ly:Loc W y cy Ty
 grown:W0.grownBy W (some b)
 nx:W0.heap.size≤x
 ny:W0.heap.size≤y
 xb:x≠b
 yb:y≠b
 xy:x≠y
 xl:lv.ownBlock≠some x
 yl:lv.ownBlock≠some y
theorem RI.newNe {b:Nat} {lv:Value} {ts:List Tok} {st:RS} {W:World} (h:RI b lv ts st W) {x:Nat} (hx:W.heap.size≤x):lv.ownBlock≠some x:=by
 intro he
 obtain⟨B,ho⟩:=h.row
 have:=(ho.lt x he).2
 omega
theorem Two.start {b:Nat} {lv:Value} {ts:List Tok} {st:RS} {W:World} (h:RI b lv ts st W) (cx:Array Value) (Tx:TypeId) (cy:Array Value) (Ty:TypeId):
  Two W b lv ts st W.heap.size cx Tx (W.heap.size+1) cy Ty ((W.alloc (.cells cx Tx)).alloc (.cells cy Ty)):=by
 have hl:=h.box.lt
 have e:(W.alloc (.cells cx Tx)).heap.size=W.heap.size+1:=by simp
 have hy:=Loc.new (W.alloc (.cells cx Tx)) cy Ty
 rw[e] at hy
 exact⟨(h.alloc _).alloc _,(Loc.new W cx Tx).alloc _,hy,grown_trans (grown_alloc _ _ _) (grown_alloc _ _ _),Nat.le_refl _,by omega,by omega,by omega,by omega,h.newNe (Nat.le_refl _),h.newNe (by omega)⟩
theorem Two.call {W0 W W':World} {b:Nat} {lv:Value} {ts:List Tok} {st st':RS} {x:Nat} {cx:Array Value} {Tx:TypeId} {y:Nat} {cy:Array Value} {Ty:TypeId} (h:Two W0 b lv ts st x cx Tx y cy Ty W) (h1:RI b lv ts st' W') (g1:W.grownBy W' (some b)):Two W0 b lv ts st' x cx Tx y cy Ty W':=
 ⟨h1,h.lx.grown g1 (by simpa using h.xb),h.ly.grown g1 (by simpa using h.yb),grown_trans h.grown g1,h.nx,h.ny,h.xb,h.yb,h.xy,h.xl,h.yl⟩
theorem Two.setX {W0 W:World} {b:Nat} {lv:Value} {ts:List Tok} {st:RS} {x:Nat} {cx:Array Value} {Tx:TypeId} {y:Nat} {cy:Array Value} {Ty:TypeId} (h:Two W0 b lv ts st x cx Tx y cy Ty W) (j:Nat) (u:Value):Two W0 b lv ts st x (cx.setIfInBounds j u) Tx y cy Ty (W.setCell ⟨x,j,none⟩ u):=
 ⟨h.ri.setOther (fun e=>h.xb e.symm) h.xl j u,h.lx.set j u,h.ly.setOther (fun e=>h.xy e.symm) j u,grown_own h.grown h.nx j u,h.nx,h.ny,h.xb,h.yb,h.xy,h.xl,h.yl⟩
theorem Two.setY {W0 W:World} {b:Nat} {lv:Value} {ts:List Tok} {st:RS} {x:Nat} {cx:Array Value} {Tx:TypeId} {y:Nat} {cy:Array Value} {Ty:TypeId} (h:Two W0 b lv ts st x cx Tx y cy Ty W) (j:Nat) (u:Value):Two W0 b lv ts st x cx Tx y (cy.setIfInBounds j u) Ty (W.setCell ⟨y,j,none⟩ u):=
 ⟨h.ri.setOther (fun e=>h.yb e.symm) h.yl j u,h.lx.setOther h.xy j u,h.ly.set j u,grown_own h.grown h.ny j u,h.nx,h.ny,h.xb,h.yb,h.xy,h.xl,h.yl⟩
def spotC (x:PSpot):Array Value:=#[.string x.name,.string x.label,.string x.type,.int .i64 x.least,.int .i64 x.most]
def termC (t:PTerm):Array Value:=#[.string t.name,.string t.key,.int .i64 t.val]
set_option maxRecDepth 100000 in
set_option maxHeartbeats 1000000 in
theorem spot {b:Nat} {lv:Value} {ts:List Tok} {st:RS} {W:World} (h:RI b lv ts st W) (p:PSpot):
  Calls Tryz.prog 152 #[.pointer (some ⟨b,0,none⟩),.agg #[.string p.name,.string p.label,.string p.type,.int .i64 p.least,.int .i64 p.most]] W
   fun e W'=>e=.returned (.agg (spotC (spotR p st).1))∧RI b lv ts (spotR p st).2 W'∧W.grownBy W' (some b):=by
 have E:=Two.start h (spotC p) 85 (spotC spot0) 85
 have HE:=Lib.hid E
 have hbl:=h.box.lt
 clear h E
 go_enter Tryz.func152,Tryz.ntmps152
 go_wp2_with fail
 refine(must HE.out.ri mOpen).mono ?_
 rintro e W1 ⟨rfl,h1,g1⟩
 have H1:=Lib.hid (HE.out.call h1 g1)
 clear h1 g1
 go_wp2_with fail
 refine(name H1.out.ri).mono ?_
 rintro e W2 ⟨rfl,h2,g2⟩
 have H2:=Lib.hid (H1.out.call h2 g2)
 have x0:W2.cell? ⟨W.heap.size,0,none⟩=some (.string p.name):=(H2.out.lx.cell 0).trans rfl
 have f0:=H2.out.lx.free 0
 clear h2 g2
 obtain⟨nm,hnm⟩:∃nm,nm=nameR (mustR mOpen st):=⟨_,rfl⟩
 rw[←hnm] at H2⊢
 have HNM:=Lib.hid hnm
 clear hnm
 go_wp2_with fail
 have H3:=Lib.hid (H2.out.setX 0 (.string nm.1))
 clear x0 f0
 generalize W2.setCell ⟨W.heap.size,0,none⟩ (.string nm.1)=W3 at H3⊢
 cases hp:peekR mColon nm.2 with
 | true=>
  have HP:=Lib.hid hp
  have HSP:Hid (spotR p st=(⟨nm.1,(titleR (hasR mColon nm.2)).1,p.type,p.least,p.most⟩,mustR mClose (titleR (hasR mColon nm.2)).2)):=by
   show _=_;unfold spotR;simp only[←HNM.out];rw[hp];rfl
  clear hp
  refine(has H3.out.ri mColon true HP.out).mono ?_
  rintro e W4 ⟨rfl,h4,g4⟩
  have H4:=Lib.hid (H3.out.call h4 g4)
  clear h4 g4
  go_wp2_with fail
  refine(title H4.out.ri).mono ?_
  rintro e W5 ⟨rfl,h5,g5⟩
  have H5:=Lib.hid (H4.out.call h5 g5)
  clear h5 g5
  obtain⟨tl,htl⟩:∃tl,tl=titleR (hasR mColon nm.2):=⟨_,rfl⟩
  rw[←htl] at H5 HSP⊢
  clear htl
  have x1:W5.cell? ⟨W.heap.size,1,none⟩=some (.string p.label):=(H5.out.lx.cell 1).trans rfl
  have f1:=H5.out.lx.free 1
  go_wp2_with fail
  have H6:=Lib.hid (H5.out.setX 1 (.string tl.1))
  clear x1 f1
  generalize W5.setCell ⟨W.heap.size,1,none⟩ (.string tl.1)=W6 at H6⊢
  refine(must H6.out.ri mClose).mono ?_
  rintro e W7 ⟨rfl,h7,g7⟩
  have H7:=Lib.hid (H6.out.call h7 g7)
  clear h7 g7
  have x0:W7.cell? ⟨W.heap.size,0,none⟩=some (.string nm.1):=(H7.out.lx.cell 0).trans rfl
  have x1:W7.cell? ⟨W.heap.size,1,none⟩=some (.string tl.1):=(H7.out.lx.cell 1).trans rfl
  have x2:W7.cell? ⟨W.heap.size,2,none⟩=some (.string p.type):=(H7.out.lx.cell 2).trans rfl
  have x3:W7.cell? ⟨W.heap.size,3,none⟩=some (.int .i64 p.least):=(H7.out.lx.cell 3).trans rfl
  have x4:W7.cell? ⟨W.heap.size,4,none⟩=some (.int .i64 p.most):=(H7.out.lx.cell 4).trans rfl
  have y0:W7.cell? ⟨W.heap.size+1,0,none⟩=some (.string ⟨#[]⟩):=(H7.out.ly.cell 0).trans rfl
  have y1:W7.cell? ⟨W.heap.size+1,1,none⟩=some (.string ⟨#[]⟩):=(H7.out.ly.cell 1).trans rfl
  have y2:W7.cell? ⟨W.heap.size+1,2,none⟩=some (.string ⟨#[]⟩):=(H7.out.ly.cell 2).trans rfl
  have y3:W7.cell? ⟨W.heap.size+1,3,none⟩=some (.int .i64 0):=(H7.out.ly.cell 3).trans rfl
  have y4:W7.cell? ⟨W.heap.size+1,4,none⟩=some (.int .i64 0):=(H7.out.ly.cell 4).trans rfl
  have w0:=H7.out.ly.free 0
  have w1:=H7.out.ly.free 1
  have w2:=H7.out.ly.free 2
  have w3:=H7.out.ly.free 3
  have w4:=H7.out.ly.free 4
  go_wp2
  have HF:=((((H7.out.setY 0 (.string nm.1)).setY 1 (.string tl.1)).setY 2 (.string p.type)).setY 3 (.int .i64 p.least)).setY 4 (.int .i64 p.most)
  generalize ((((W7.setCell ⟨W.heap.size+1,0,none⟩ (.string nm.1)).setCell ⟨W.heap.size+1,1,none⟩ (.string tl.1)).setCell ⟨W.heap.size+1,2,none⟩ (.string p.type)).setCell ⟨W.heap.size+1,3,none⟩ (.int .i64 p.least)).setCell ⟨W.heap.size+1,4,none⟩ (.int .i64 p.most)=WF at HF⊢
  refine bodyPost_ret (v:=.agg #[.string nm.1,.string tl.1,.string p.type,.int .i64 p.least,.int .i64 p.most]) ?_ rfl ⟨by rw[HSP.out];rfl,by rw[HSP.out];exact HF.ri,HF.grown⟩
  have r0:WF.cell? ⟨W.heap.size+1,0,none⟩=some (.string nm.1):=(HF.ly.cell 0).trans rfl
  have r1:WF.cell? ⟨W.heap.size+1,1,none⟩=some (.string tl.1):=(HF.ly.cell 1).trans rfl
  have r2:WF.cell? ⟨W.heap.size+1,2,none⟩=some (.string p.type):=(HF.ly.cell 2).trans rfl
  have r3:WF.cell? ⟨W.heap.size+1,3,none⟩=some (.int .i64 p.least):=(HF.ly.cell 3).trans rfl
  have r4:WF.cell? ⟨W.heap.size+1,4,none⟩=some (.int .i64 p.most):=(HF.ly.cell 4).trans rfl
  simp[results,Tryz.results152,go_sem,r0,r1,r2,r3,r4]
 | false=>
  have HP:=Lib.hid hp
  have HSP:Hid (spotR p st=(⟨nm.1,p.label,p.type,p.least,p.most⟩,mustR mClose nm.2)):=by
   show _=_;unfold spotR;simp only[←HNM.out];rw[hp];rfl
  have HHS:Hid (hasR mColon nm.2=nm.2):=by show _=_;unfold hasR;rw[hp];rfl
  clear hp
  refine(has H3.out.ri mColon false HP.out).mono ?_
  rintro e W4 ⟨rfl,h4,g4⟩
  rw[HHS.out] at h4
  have H4:=Lib.hid (H3.out.call h4 g4)
  clear h4 g4
  go_wp2_with fail
  refine(must H4.out.ri mClose).mono ?_
  rintro e W7 ⟨rfl,h7,g7⟩
  have H7:=Lib.hid (H4.out.call h7 g7)
  clear h7 g7
  have x0:W7.cell? ⟨W.heap.size,0,none⟩=some (.string nm.1):=(H7.out.lx.cell 0).trans rfl
  have x1:W7.cell? ⟨W.heap.size,1,none⟩=some (.string p.label):=(H7.out.lx.cell 1).trans rfl
  have x2:W7.cell? ⟨W.heap.size,2,none⟩=some (.string p.type):=(H7.out.lx.cell 2).trans rfl
  have x3:W7.cell? ⟨W.heap.size,3,none⟩=some (.int .i64 p.least):=(H7.out.lx.cell 3).trans rfl
  have x4:W7.cell? ⟨W.heap.size,4,none⟩=some (.int .i64 p.most):=(H7.out.lx.cell 4).trans rfl
  have y0:W7.cell? ⟨W.heap.size+1,0,none⟩=some (.string ⟨#[]⟩):=(H7.out.ly.cell 0).trans rfl
  have y1:W7.cell? ⟨W.heap.size+1,1,none⟩=some (.string ⟨#[]⟩):=(H7.out.ly.cell 1).trans rfl
  have y2:W7.cell? ⟨W.heap.size+1,2,none⟩=some (.string ⟨#[]⟩):=(H7.out.ly.cell 2).trans rfl
  have y3:W7.cell? ⟨W.heap.size+1,3,none⟩=some (.int .i64 0):=(H7.out.ly.cell 3).trans rfl
  have y4:W7.cell? ⟨W.heap.size+1,4,none⟩=some (.int .i64 0):=(H7.out.ly.cell 4).trans rfl
  have w0:=H7.out.ly.free 0
  have w1:=H7.out.ly.free 1
  have w2:=H7.out.ly.free 2
  have w3:=H7.out.ly.free 3
  have w4:=H7.out.ly.free 4
  go_wp2
  have HF:=((((H7.out.setY 0 (.string nm.1)).setY 1 (.string p.label)).setY 2 (.string p.type)).setY 3 (.int .i64 p.least)).setY 4 (.int .i64 p.most)
  generalize ((((W7.setCell ⟨W.heap.size+1,0,none⟩ (.string nm.1)).setCell ⟨W.heap.size+1,1,none⟩ (.string p.label)).setCell ⟨W.heap.size+1,2,none⟩ (.string p.type)).setCell ⟨W.heap.size+1,3,none⟩ (.int .i64 p.least)).setCell ⟨W.heap.size+1,4,none⟩ (.int .i64 p.most)=WF at HF⊢
  refine bodyPost_ret (v:=.agg #[.string nm.1,.string p.label,.string p.type,.int .i64 p.least,.int .i64 p.most]) ?_ rfl ⟨by rw[HSP.out];rfl,by rw[HSP.out];exact HF.ri,HF.grown⟩
  have r0:WF.cell? ⟨W.heap.size+1,0,none⟩=some (.string nm.1):=(HF.ly.cell 0).trans rfl
  have r1:WF.cell? ⟨W.heap.size+1,1,none⟩=some (.string p.label):=(HF.ly.cell 1).trans rfl
  have r2:WF.cell? ⟨W.heap.size+1,2,none⟩=some (.string p.type):=(HF.ly.cell 2).trans rfl
  have r3:WF.cell? ⟨W.heap.size+1,3,none⟩=some (.int .i64 p.least):=(HF.ly.cell 3).trans rfl
  have r4:WF.cell? ⟨W.heap.size+1,4,none⟩=some (.int .i64 p.most):=(HF.ly.cell 4).trans rfl
  simp[results,Tryz.results152,go_sem,r0,r1,r2,r3,r4]
end Go.Proofs.YtobgbmfpicmpcaaGreatDoor

/- The reference's reader: terms and conditions. -/
namespace Go.Proofs.YtobgbmfpicmpcaaGreatDoor
open Go.RowKit
structure One (W0:World) (b:Nat) (lv:Value) (ts:List Tok) (st:RS) (x:Nat) (cx:Array Value) (Tx:TypeId) (W:World):Prop where
 ri:RI b lv ts st W
 lx:Loc W x cx Tx
 grown:W0.grownBy W (some b)
 nx:W0.heap.size≤x
 xb:x≠b
 xl:lv.ownBlock≠some x
theorem One.start {b:Nat} {lv:Value} {ts:List Tok} {st:RS} {W:World} (h:RI b lv ts st W) (cx:Array Value) (Tx:TypeId):One W b lv ts st W.heap.size cx Tx (W.alloc (.cells cx Tx)):=by
 have hl:=h.box.lt
 exact⟨h.alloc _,Loc.new W cx Tx,grown_alloc _ _ _,Nat.le_refl _,by omega,h.newNe (Nat.le_refl _)⟩
theorem One.drew {W0 W:World} {b:Nat} {lv:Value} {ts:List Tok} {st:RS} {x:Nat} {cx:Array Value} {Tx:TypeId} (h:One W0 b lv ts st x cx Tx W) (n:Nat):One W0 b lv ts st x cx Tx (W.drewN n):=
 ⟨h.ri.drew n,h.lx.drew n,grown_trans h.grown (grown_drew _ n _),h.nx,h.xb,h.xl⟩
theorem One.call {W0 W W':World} {b:Nat} {lv:Value} {ts:List Tok} {st st':RS} {x:Nat} {cx:Array Value} {Tx:TypeId} (h:One W0 b lv ts st x cx Tx W) (h1:RI b lv ts st' W') (g1:W.grownBy W' (some b)):One W0 b lv ts st' x cx Tx W':=
 ⟨h1,h.lx.grown g1 (by simpa using h.xb),grown_trans h.grown g1,h.nx,h.xb,h.xl⟩
theorem One.setX {W0 W:World} {b:Nat} {lv:Value} {ts:List Tok} {st:RS} {x:Nat} {cx:Array Value} {Tx:TypeId} (h:One W0 b lv ts st x cx Tx W) (j:Nat) (u:Value):One W0 b lv ts st x (cx.setIfInBounds j u) Tx (W.setCell ⟨x,j,none⟩ u):=
 ⟨h.ri.setOther (fun e=>h.xb e.symm) h.xl j u,h.lx.set j u,grown_own h.grown h.nx j u,h.nx,h.xb,h.xl⟩
theorem One.two {W0 W:World} {b:Nat} {lv:Value} {ts:List Tok} {st:RS} {x:Nat} {cx:Array Value} {Tx:TypeId} (h:One W0 b lv ts st x cx Tx W) (cy:Array Value) (Ty:TypeId):Two W0 b lv ts st x cx Tx W.heap.size cy Ty (W.alloc (.cells cy Ty)):=by
 have hl:=h.ri.box.lt
 have hx:=h.lx.lt
 have hs:=h.grown.size
 exact⟨h.ri.alloc _,h.lx.alloc _,Loc.new W cy Ty,grown_trans h.grown (grown_alloc _ _ _),h.nx,hs,h.xb,by omega,by omega,h.xl,h.ri.newNe (Nat.le_refl _)⟩
theorem Two.one {W0 W:World} {b:Nat} {lv:Value} {ts:List Tok} {st:RS} {x:Nat} {cx:Array Value} {Tx:TypeId} {y:Nat} {cy:Array Value} {Ty:TypeId} (h:Two W0 b lv ts st x cx Tx y cy Ty W):One W0 b lv ts st x cx Tx W:=
 ⟨h.ri,h.lx,h.grown,h.nx,h.xb,h.xl⟩
set_option maxRecDepth 100000 in
set_option maxHeartbeats 1000000 in
theorem termNum {b:Nat} {lv:Value} {ts:List Tok} {st:RS} {W:World} (h:RI b lv ts st W) (hm:isKind 2 st=true):
  Calls Tryz.prog 91 #[.pointer (some ⟨b,0,none⟩)] W fun e W'=>e=.returned (.agg (termC (termR st).1))∧RI b lv ts (termR st).2 W'∧W.grownBy W' (some b):=by
 have HE:=Lib.hid (One.start h #[.string ⟨#[]⟩,.string ⟨#[]⟩,.int .i64 0] 26)
 have hbl:=h.box.lt
 obtain⟨ao,cap,k,rfl,hcap,hlen,hk,hrl,c0,c1,c2,hr⟩:=h.seen
 have hkb:k≤2000:=by omega
 obtain⟨t2,st2,hn⟩:∃t st',nextR 2 st=(t,st'):=⟨_,_,rfl⟩
 have HX:=Lib.hid hn
 have HT:Hid (termR st=(⟨e0,e0,t2.val⟩,st2)):=by show _=_;unfold termR;rw[if_pos hm,hn]
 clear h c2 hn
 cases hrest:st.rest with
 | nil=>rw[isKind_nil hrest] at hm;cases hm
 | cons t r=>
  obtain⟨hlt,g,rfl,z0,z1,z2⟩:=hr t r hrest
  have hkd:t.kind=2:=by rw[isKind_cons hrest] at hm;simpa using hm
  have hg2:(t.kind==2)=true:=by simp[hkd]
  have hgl:g<W.heap.size:=block_lt_of_cell z0
  clear hm hkd hk hrest hr hrl z1 z2
  have hfd:∀w:World,(Instr.field 153 (.agg #[.int .i64 t2.kind,.string t2.text,.int .i64 t2.val]) 2).run Tryz.prog w=.ok (.int .i64 t2.val) w:=fun _=>by kernel_rfl
  go_enter Tryz.func91,Tryz.ntmps91
  go_wp2
  go_quiet (fail)
  have H1:=Lib.hid (HE.out.drew nq)
  generalize (W.alloc (.cells #[.string ⟨#[]⟩,.string ⟨#[]⟩,.int .i64 0] 26)).drewN nq=W1 at H1⊢
  clear c0 c1 z0
  go_wp2_with fail
  refine(nextIs H1.out.ri 2 t2 HX.out).mono ?_
  rintro e W2 ⟨rfl,h2,g2⟩
  have H2:=Lib.hid (H1.out.call h2 g2)
  clear h2 g2
  have x0:W2.cell? ⟨W.heap.size,0,none⟩=some (.string ⟨#[]⟩):=(H2.out.lx.cell 0).trans rfl
  have x1:W2.cell? ⟨W.heap.size,1,none⟩=some (.string ⟨#[]⟩):=(H2.out.lx.cell 1).trans rfl
  have x2:W2.cell? ⟨W.heap.size,2,none⟩=some (.int .i64 0):=(H2.out.lx.cell 2).trans rfl
  have f0:=H2.out.lx.free 0
  have f1:=H2.out.lx.free 1
  have f2:=H2.out.lx.free 2
  go_wp2
  have HF:=((H2.out.setX 0 (.string ⟨#[]⟩)).setX 1 (.string ⟨#[]⟩)).setX 2 (.int .i64 t2.val)
  generalize ((W2.setCell ⟨W.heap.size,0,none⟩ (.string ⟨#[]⟩)).setCell ⟨W.heap.size,1,none⟩ (.string ⟨#[]⟩)).setCell ⟨W.heap.size,2,none⟩ (.int .i64 t2.val)=WF at HF⊢
  refine bodyPost_ret (v:=.agg #[.string ⟨#[]⟩,.string ⟨#[]⟩,.int .i64 t2.val]) ?_ rfl ⟨by rw[HT.out];rfl,by rw[HT.out];exact HF.ri,HF.grown⟩
  have r0:WF.cell? ⟨W.heap.size,0,none⟩=some (.string ⟨#[]⟩):=(HF.lx.cell 0).trans rfl
  have r1:WF.cell? ⟨W.heap.size,1,none⟩=some (.string ⟨#[]⟩):=(HF.lx.cell 1).trans rfl
  have r2:WF.cell? ⟨W.heap.size,2,none⟩=some (.int .i64 t2.val):=(HF.lx.cell 2).trans rfl
  simp[results,Tryz.results91,go_sem,r0,r1,r2]
structure PropOf (st:RS) where
 n:ByteArray
 st1:RS
 k:ByteArray
 st2:RS
 hn:nameR st=(n,st1)
 hk:nameR (mustR mDot st1)=(k,st2)
def propOf (st:RS):PropOf st:=⟨(nameR st).1,(nameR st).2,(nameR (mustR mDot (nameR st).2)).1,(nameR (mustR mDot (nameR st).2)).2,rfl,rfl⟩
theorem nameIs {b:Nat} {lv:Value} {ts:List Tok} {st st1:RS} {n:ByteArray} {W:World} (h:RI b lv ts st W) (hn:nameR st=(n,st1)):
  Calls Tryz.prog 40 #[.pointer (some ⟨b,0,none⟩)] W fun e W'=>e=.returned (.string n)∧RI b lv ts st1 W'∧W.grownBy W' (some b):=by
 have:=name h
 rw[hn] at this;exact this
theorem titleIs {b:Nat} {lv:Value} {ts:List Tok} {st st1:RS} {n:ByteArray} {W:World} (h:RI b lv ts st W) (hn:titleR st=(n,st1)):
  Calls Tryz.prog 84 #[.pointer (some ⟨b,0,none⟩)] W fun e W'=>e=.returned (.string n)∧RI b lv ts st1 W'∧W.grownBy W' (some b):=by
 have:=title h
 rw[hn] at this;exact this
theorem countIs {b:Nat} {lv:Value} {ts:List Tok} {st st1:RS} {lo hi n:Int} {W:World} (h:RI b lv ts st W) (hn:countR lo hi st=(n,st1)):
  Calls Tryz.prog 85 #[.pointer (some ⟨b,0,none⟩),.int .i64 lo,.int .i64 hi] W fun e W'=>e=.returned (.int .i64 n)∧RI b lv ts st1 W'∧W.grownBy W' (some b):=by
 have:=count h lo hi
 rw[hn] at this;exact this
set_option maxRecDepth 100000 in
set_option maxHeartbeats 1000000 in
theorem termProp {b:Nat} {lv:Value} {ts:List Tok} {st:RS} {W:World} (h:RI b lv ts st W) (hm:¬isKind 2 st=true):
  Calls Tryz.prog 91 #[.pointer (some ⟨b,0,none⟩)] W fun e W'=>e=.returned (.agg (termC (termR st).1))∧RI b lv ts (termR st).2 W'∧W.grownBy W' (some b):=by
 have HE:=Lib.hid (One.start h #[.string ⟨#[]⟩,.string ⟨#[]⟩,.int .i64 0] 26)
 have hbl:=h.box.lt
 obtain⟨ao,cap,k,rfl,hcap,hlen,hk,hrl,c0,c1,c2,hr⟩:=h.seen
 have hkb:k≤2000:=by omega
 have P:=propOf st
 have HN:=Lib.hid P.hn
 have HK:=Lib.hid P.hk
 have HT:Hid (termR st=(⟨P.n,P.k,0⟩,P.st2)):=by show _=_;unfold termR;rw[if_neg hm];simp only[P.hn,P.hk]
 clear h c2
 cases hrest:st.rest with
 | nil=>
  have hge:¬k<ts.length:=by rw[hk,hrest];simp
  have hg:decide ((k:Int)<(ts.length:Int))=false:=by simpa using hge
  clear hm hk hrest hr hrl
  go_enter Tryz.func91,Tryz.ntmps91
  go_wp2
  go_quiet (fail)
  have H1:=Lib.hid ((HE.out.drew nq).two #[.string ⟨#[]⟩,.string ⟨#[]⟩,.int .i64 0] 26)
  have hW1:=(HE.out.drew nq).grown.size
  generalize (W.alloc (.cells #[.string ⟨#[]⟩,.string ⟨#[]⟩,.int .i64 0] 26)).drewN nq=W1 at H1 hW1⊢
  clear c0 c1
  go_wp2_with fail
  refine(nameIs H1.out.ri HN.out).mono ?_
  rintro e W2 ⟨rfl,h2,g2⟩
  have H2:=Lib.hid (H1.out.call h2 g2)
  clear h2 g2
  have y0:W2.cell? ⟨W1.heap.size,0,none⟩=some (.string ⟨#[]⟩):=(H2.out.ly.cell 0).trans rfl
  have f0:=H2.out.ly.free 0
  go_wp2_with fail
  have H3:=Lib.hid (H2.out.setY 0 (.string P.n))
  clear y0 f0
  generalize W2.setCell ⟨W1.heap.size,0,none⟩ (.string P.n)=W3 at H3⊢
  refine(must H3.out.ri mDot).mono ?_
  rintro e W4 ⟨rfl,h4,g4⟩
  have H4:=Lib.hid (H3.out.call h4 g4)
  clear h4 g4
  go_wp2_with fail
  refine(nameIs H4.out.ri HK.out).mono ?_
  rintro e W5 ⟨rfl,h5,g5⟩
  have H5:=Lib.hid (H4.out.call h5 g5)
  clear h5 g5
  have y0:W5.cell? ⟨W1.heap.size,0,none⟩=some (.string P.n):=(H5.out.ly.cell 0).trans rfl
  have y1:W5.cell? ⟨W1.heap.size,1,none⟩=some (.string ⟨#[]⟩):=(H5.out.ly.cell 1).trans rfl
  have y2:W5.cell? ⟨W1.heap.size,2,none⟩=some (.int .i64 0):=(H5.out.ly.cell 2).trans rfl
  have f1:=H5.out.ly.free 1
  have x0:W5.cell? ⟨W.heap.size,0,none⟩=some (.string ⟨#[]⟩):=(H5.out.lx.cell 0).trans rfl
  have x1:W5.cell? ⟨W.heap.size,1,none⟩=some (.string ⟨#[]⟩):=(H5.out.lx.cell 1).trans rfl
  have x2:W5.cell? ⟨W.heap.size,2,none⟩=some (.int .i64 0):=(H5.out.lx.cell 2).trans rfl
  have w0:=H5.out.lx.free 0
  have w1:=H5.out.lx.free 1
  have w2:=H5.out.lx.free 2
  have hxy:=H5.out.xy
  have hyx:W1.heap.size≠W.heap.size:=fun e=>hxy e.symm
  go_wp2
  have HF:=(((H5.out.setY 1 (.string P.k)).setX 0 (.string P.n)).setX 1 (.string P.k)).setX 2 (.int .i64 0)
  generalize (((W5.setCell ⟨W1.heap.size,1,none⟩ (.string P.k)).setCell ⟨W.heap.size,0,none⟩ (.string P.n)).setCell ⟨W.heap.size,1,none⟩ (.string P.k)).setCell ⟨W.heap.size,2,none⟩ (.int .i64 0)=WF at HF⊢
  refine bodyPost_ret (v:=.agg #[.string P.n,.string P.k,.int .i64 0]) ?_ rfl ⟨by rw[HT.out];rfl,by rw[HT.out];exact HF.ri,HF.grown⟩
  have r0:WF.cell? ⟨W.heap.size,0,none⟩=some (.string P.n):=(HF.lx.cell 0).trans rfl
  have r1:WF.cell? ⟨W.heap.size,1,none⟩=some (.string P.k):=(HF.lx.cell 1).trans rfl
  have r2:WF.cell? ⟨W.heap.size,2,none⟩=some (.int .i64 0):=(HF.lx.cell 2).trans rfl
  simp[results,Tryz.results91,go_sem,r0,r1,r2]
 | cons t r=>
  obtain⟨hlt,g,rfl,z0,z1,z2⟩:=hr t r hrest
  have hkd:t.kind≠2:=by rw[isKind_cons hrest] at hm;simpa using hm
  have hg2:(t.kind==2)=false:=by simpa using hkd
  have hgl:g<W.heap.size:=block_lt_of_cell z0
  clear hm hkd hk hrest hr hrl z1 z2
  go_enter Tryz.func91,Tryz.ntmps91
  go_wp2
  go_quiet (fail)
  clear z0
  have H1:=Lib.hid ((HE.out.drew nq).two #[.string ⟨#[]⟩,.string ⟨#[]⟩,.int .i64 0] 26)
  have hW1:=(HE.out.drew nq).grown.size
  generalize (W.alloc (.cells #[.string ⟨#[]⟩,.string ⟨#[]⟩,.int .i64 0] 26)).drewN nq=W1 at H1 hW1⊢
  clear c0 c1
  go_wp2_with fail
  refine(nameIs H1.out.ri HN.out).mono ?_
  rintro e W2 ⟨rfl,h2,g2⟩
  have H2:=Lib.hid (H1.out.call h2 g2)
  clear h2 g2
  have y0:W2.cell? ⟨W1.heap.size,0,none⟩=some (.string ⟨#[]⟩):=(H2.out.ly.cell 0).trans rfl
  have f0:=H2.out.ly.free 0
  go_wp2_with fail
  have H3:=Lib.hid (H2.out.setY 0 (.string P.n))
  clear y0 f0
  generalize W2.setCell ⟨W1.heap.size,0,none⟩ (.string P.n)=W3 at H3⊢
  refine(must H3.out.ri mDot).mono ?_
  rintro e W4 ⟨rfl,h4,g4⟩
  have H4:=Lib.hid (H3.out.call h4 g4)
  clear h4 g4
  go_wp2_with fail
  refine(nameIs H4.out.ri HK.out).mono ?_
  rintro e W5 ⟨rfl,h5,g5⟩
  have H5:=Lib.hid (H4.out.call h5 g5)
  clear h5 g5
  have y0:W5.cell? ⟨W1.heap.size,0,none⟩=some (.string P.n):=(H5.out.ly.cell 0).trans rfl
  have y1:W5.cell? ⟨W1.heap.size,1,none⟩=some (.string ⟨#[]⟩):=(H5.out.ly.cell 1).trans rfl
  have y2:W5.cell? ⟨W1.heap.size,2,none⟩=some (.int .i64 0):=(H5.out.ly.cell 2).trans rfl
  have f1:=H5.out.ly.free 1
  have x0:W5.cell? ⟨W.heap.size,0,none⟩=some (.string ⟨#[]⟩):=(H5.out.lx.cell 0).trans rfl
  have x1:W5.cell? ⟨W.heap.size,1,none⟩=some (.string ⟨#[]⟩):=(H5.out.lx.cell 1).trans rfl
  have x2:W5.cell? ⟨W.heap.size,2,none⟩=some (.int .i64 0):=(H5.out.lx.cell 2).trans rfl
  have w0:=H5.out.lx.free 0
  have w1:=H5.out.lx.free 1
  have w2:=H5.out.lx.free 2
  have hxy:=H5.out.xy
  have hyx:W1.heap.size≠W.heap.size:=fun e=>hxy e.symm
  go_wp2
  have HF:=(((H5.out.setY 1 (.string P.k)).setX 0 (.string P.n)).setX 1 (.string P.k)).setX 2 (.int .i64 0)
  generalize (((W5.setCell ⟨W1.heap.size,1,none⟩ (.string P.k)).setCell ⟨W.heap.size,0,none⟩ (.string P.n)).setCell ⟨W.heap.size,1,none⟩ (.string P.k)).setCell ⟨W.heap.size,2,none⟩ (.int .i64 0)=WF at HF⊢
  refine bodyPost_ret (v:=.agg #[.string P.n,.string P.k,.int .i64 0]) ?_ rfl ⟨by rw[HT.out];rfl,by rw[HT.out];exact HF.ri,HF.grown⟩
  have r0:WF.cell? ⟨W.heap.size,0,none⟩=some (.string P.n):=(HF.lx.cell 0).trans rfl
  have r1:WF.cell? ⟨W.heap.size,1,none⟩=some (.string P.k):=(HF.lx.cell 1).trans rfl
  have r2:WF.cell? ⟨W.heap.size,2,none⟩=some (.int .i64 0):=(HF.lx.cell 2).trans rfl
  simp[results,Tryz.results91,go_sem,r0,r1,r2]
theorem term {b:Nat} {lv:Value} {ts:List Tok} {st:RS} {W:World} (h:RI b lv ts st W):
  Calls Tryz.prog 91 #[.pointer (some ⟨b,0,none⟩)] W fun e W'=>e=.returned (.agg (termC (termR st).1))∧RI b lv ts (termR st).2 W'∧W.grownBy W' (some b):=by
 by_cases hm:isKind 2 st=true
 ·exact termNum h hm
 ·exact termProp h hm
end Go.Proofs.YtobgbmfpicmpcaaGreatDoor

/- No step of the mirror brings tokens back. No program in this text. -/
namespace Go.Proofs.YtobgbmfpicmpcaaGreatDoor
theorem hasR_len (s:ByteArray) (st:RS):(hasR s st).rest.length≤st.rest.length:=by
 unfold hasR;split
 ·simp[List.length_tail]
 ·exact Nat.le_refl _
theorem hasR_less {s:ByteArray} {st:RS} (h:peekR s st=true):(hasR s st).rest.length+1=st.rest.length:=by
 unfold hasR;rw[if_pos h]
 unfold peekR at h
 split at h
 ·cases h
 ·rename_i e;rw[e];simp
theorem orBad_rest (st:RS) (x:Bool):(st.orBad x).rest=st.rest:=rfl
theorem mustR_len (s:ByteArray) (st:RS):(mustR s st).rest.length≤st.rest.length:=by
 unfold mustR;rw[orBad_rest];exact hasR_len s st
theorem nextR_len (k:Int) (st:RS):(nextR k st).2.rest.length≤st.rest.length:=by
 unfold nextR;split
 ·simp[List.length_tail]
 ·exact Nat.le_refl _
theorem nameR_len (st:RS):(nameR st).2.rest.length≤st.rest.length:=nextR_len 1 st
theorem titleR_len (st:RS):(titleR st).2.rest.length≤st.rest.length:=nextR_len 1 st
theorem countR_len (lo hi:Int) (st:RS):(countR lo hi st).2.rest.length≤st.rest.length:=nextR_len 2 st
theorem spotR_len (x:PSpot) (st:RS):(spotR x st).2.rest.length≤st.rest.length:=by
 unfold spotR
 simp only
 refine Nat.le_trans (mustR_len _ _) ?_
 have h1:=mustR_len mOpen st
 have h2:=nameR_len (mustR mOpen st)
 split
 ·have h3:=titleR_len (hasR mColon (nameR (mustR mOpen st)).2)
  have h4:=hasR_len mColon (nameR (mustR mOpen st)).2
  omega
 ·simp only;omega
theorem starR_len (st:RS):(starR st).2.rest.length≤st.rest.length:=by
 unfold starR
 split
 ·simp only
  have h1:=hasR_len mStar st
  have h2:=countR_len 0 4 (hasR mStar st)
  have h3:=mustR_len mDots (countR 0 4 (hasR mStar st)).2
  have h4:=countR_len (countR 0 4 (hasR mStar st)).1 4 (mustR mDots (countR 0 4 (hasR mStar st)).2)
  omega
 ·exact Nat.le_refl _
theorem stepR_len (st:RS):(stepR st).2.rest.length≤st.rest.length:=by
 unfold stepR
 simp only
 refine Nat.le_trans (spotR_len _ _) ?_
 have h1:=titleR_len st
 have h2:=starR_len (titleR st).2
 have h3:=mustR_len mArrow (starR (titleR st).2).2
 omega
theorem pathLoop_len (n:Nat):∀(out:List PSpot) (st:RS),(pathLoop n out st).2.rest.length≤st.rest.length:=by
 induction n with
 | zero=>intro out st;exact Nat.le_refl _
 | succ n ih=>
  intro out st
  simp only[pathLoop]
  split
  ·have h1:=ih (out++[(stepR (hasR mTo st)).1]) (stepR (hasR mTo st)).2
   have h2:=stepR_len (hasR mTo st)
   have h3:=hasR_len mTo st
   omega
  ·exact Nat.le_refl _
theorem pathR_len (st:RS):(pathR st).2.rest.length≤st.rest.length:=by
 unfold pathR
 exact Nat.le_trans (pathLoop_len _ _ _) (spotR_len _ _)
theorem termR_len (st:RS):(termR st).2.rest.length≤st.rest.length:=by
 unfold termR
 split
 ·exact nextR_len 2 st
 ·simp only
  have h1:=nameR_len st
  have h2:=mustR_len mDot (nameR st).2
  have h3:=nameR_len (mustR mDot (nameR st).2)
  omega
end Go.Proofs.YtobgbmfpicmpcaaGreatDoor

/- The reference's reader: paths. -/
namespace Go.Proofs.YtobgbmfpicmpcaaGreatDoor
open Go.RowKit
def spotCells (l:List PSpot):List Value:=l.flatMap fun x=>[.string x.name,.string x.label,.string x.type,.int .i64 x.least,.int .i64 x.most]
theorem spotCells_snoc (l:List PSpot) (x:PSpot):spotCells (l++[x])=spotCells l++[.string x.name,.string x.label,.string x.type,.int .i64 x.least,.int .i64 x.most]:=by
 unfold spotCells;rw[List.flatMap_append];simp
theorem Tryz.infoSpot:(Tryz.prog.info? 85).map (fun i=>(i.zero,i.size,i.bytes))=some (some (.agg #[.string ⟨#[]⟩,.string ⟨#[]⟩,.string ⟨#[]⟩,.int .i64 0,.int .i64 0]),5,64):=by kernel_rfl
theorem five_cells {w:World} {a b c d e:Value} {T:TypeId}:∀(j:Nat) (u:Value),[a,b,c,d,e][j]?=some u→(w.alloc (.cells #[a,b,c,d,e] T)).cell? ((⟨w.heap.size,0,none⟩:Addr).add j)=some u:=by
 intro j u hj
 match j,hj with
 | 0,hj=>simp at hj;subst hj;simp[Addr.add]
 | 1,hj=>simp at hj;subst hj;simp[Addr.add]
 | 2,hj=>simp at hj;subst hj;simp[Addr.add]
 | 3,hj=>simp at hj;subst hj;simp[Addr.add]
 | 4,hj=>simp at hj;subst hj;simp[Addr.add]
theorem five_one {a b c:ByteArray} {d e:Int}:∀u∈[Value.string a,.string b,.string c,.int .i64 d,.int .i64 e],u.oneCell'=true:=by
 intro u hu
 simp at hu
 rcases hu with rfl|rfl|rfl|rfl|rfl<;>rfl
structure PathAt (W0:World) (b:Nat) (lv:Value) (ts:List Tok) (st:RS) (x:Nat) (cx:Array Value) (v:Value) (out:List PSpot) (W:World):Prop where
 one:One W0 b lv ts st x cx 85 W
 row:W.ownsRow W0.heap.size 85 5 v out.length (spotCells out)
 vx:v.ownBlock≠some x
theorem row_ne {b:Nat} {lv v:Value} {ts:List Tok} {st:RS} {W:World} {B n:Nat} {xs:List Value} (h:RI b lv ts st W) (ho:W.ownsRow B 85 5 v n xs):v.ownBlock=none∨v.ownBlock≠some b:=by
 right
 intro he
 rcases ho.2 with ⟨rfl,_⟩|⟨g,cap,cur,rfl,hb,hg,_⟩
 ·simp[Value.ownBlock] at he
 ·simp[Value.ownBlock] at he
  subst he
  have hx:=h.box
  unfold Loc at hx
  rw[hg] at hx
  simp at hx
theorem PathAt.call {W0 W W':World} {b:Nat} {lv:Value} {ts:List Tok} {st st':RS} {x:Nat} {cx:Array Value} {v:Value} {out:List PSpot} (h:PathAt W0 b lv ts st x cx v out W) (h1:RI b lv ts st' W') (g1:W.grownBy W' (some b)):PathAt W0 b lv ts st' x cx v out W':=
 ⟨h.one.call h1 g1,h.row.kept g1 (row_ne h.one.ri h.row),h.vx⟩
theorem PathAt.setX {W0 W:World} {b:Nat} {lv:Value} {ts:List Tok} {st:RS} {x:Nat} {cx:Array Value} {v:Value} {out:List PSpot} (h:PathAt W0 b lv ts st x cx v out W) (j:Nat) (u:Value):PathAt W0 b lv ts st x (cx.setIfInBounds j u) v out (W.setCell ⟨x,j,none⟩ u):=
 ⟨h.one.setX j u,h.row.kept (grown_set W x j u) (Or.inr h.vx),h.vx⟩
structure PathX (W0:World) (b:Nat) (lv:Value) (ts:List Tok) (st:RS) (x:Nat) (cx:Array Value) (v:Value) (out:List PSpot) (y:Nat) (cy:Array Value) (W:World):Prop where
 two:Two W0 b lv ts st x cx 85 y cy 85 W
 row:W.ownsRow W0.heap.size 85 5 v out.length (spotCells out)
 vx:v.ownBlock≠some x
 vy:v.ownBlock≠some y
theorem PathAt.more {W0 W:World} {b:Nat} {lv:Value} {ts:List Tok} {st:RS} {x:Nat} {cx:Array Value} {v:Value} {out:List PSpot} (h:PathAt W0 b lv ts st x cx v out W) (cy:Array Value):PathX W0 b lv ts st x cx v out W.heap.size cy (W.alloc (.cells cy 85)):=
 ⟨h.one.two cy _,h.row.alloc _,h.vx,fun e=>by have:=(h.row.lt _ e).2;omega⟩
theorem PathX.call {W0 W W':World} {b:Nat} {lv:Value} {ts:List Tok} {st st':RS} {x:Nat} {cx:Array Value} {v:Value} {out:List PSpot} {y:Nat} {cy:Array Value} (h:PathX W0 b lv ts st x cx v out y cy W) (h1:RI b lv ts st' W') (g1:W.grownBy W' (some b)):PathX W0 b lv ts st' x cx v out y cy W':=
 ⟨h.two.call h1 g1,h.row.kept g1 (row_ne h.two.ri h.row),h.vx,h.vy⟩
theorem PathX.setY {W0 W:World} {b:Nat} {lv:Value} {ts:List Tok} {st:RS} {x:Nat} {cx:Array Value} {v:Value} {out:List PSpot} {y:Nat} {cy:Array Value} (h:PathX W0 b lv ts st x cx v out y cy W) (j:Nat) (u:Value):PathX W0 b lv ts st x cx v out y (cy.setIfInBounds j u) (W.setCell ⟨y,j,none⟩ u):=
 ⟨h.two.setY j u,h.row.kept (grown_set W y j u) (Or.inr h.vy),h.vx,h.vy⟩
theorem PathX.less {W0 W:World} {b:Nat} {lv:Value} {ts:List Tok} {st:RS} {x:Nat} {cx:Array Value} {v:Value} {out:List PSpot} {y:Nat} {cy:Array Value} (h:PathX W0 b lv ts st x cx v out y cy W):PathAt W0 b lv ts st x cx v out W:=⟨h.two.one,h.row,h.vx⟩
theorem PathAt.added {W0 W w2:World} {b:Nat} {lv:Value} {ts:List Tok} {st:RS} {x:Nat} {cx:Array Value} {v:Value} {out:List PSpot} {p:PSpot} {g cap:Nat} {o:Obj} (h:PathAt W0 b lv ts st x cx v out W)
  (hown:w2.ownsRow W0.heap.size 85 5 (.slice (some ⟨g,0,none⟩) (out.length+1) cap) (out.length+1) (spotCells out++[.string p.name,.string p.label,.string p.type,.int .i64 p.least,.int .i64 p.most]))
  (hg:(W.alloc o).grownBy w2 v.ownBlock) (hat:v.ownBlock=some g∨g=W.heap.size+1):PathAt W0 b lv ts st x cx (.slice (some ⟨g,0,none⟩) (out.length+1) cap) (out++[p]) w2:=by
 have hal:=h.one.ri.alloc o
 have hx:=h.one.lx.alloc o
 have hr:=h.row.alloc o
 have hne:some b≠v.ownBlock:=by
  rcases row_ne h.one.ri h.row with e|e
  ·rw[e];simp
  ·exact fun h=>e h.symm
 have hlv:lv.ownBlock=none∨lv.ownBlock≠v.ownBlock:=by
  cases hl:lv.ownBlock with
  | none=>left;rfl
  | some q=>
   right
   intro he
   obtain⟨B,ho⟩:=hal.row
   rcases ho.2 with ⟨e,_⟩|⟨g1,c1,cur1,e,_,hg1,_⟩
   ·rw[e] at hl;simp[Value.ownBlock] at hl
   ·rcases hr.2 with ⟨e2,_⟩|⟨g2,c2,cur2,e2,_,hg2,_⟩
    ·rw[e2] at he;simp[Value.ownBlock] at he
    ·rw[e] at hl
     rw[e2] at he
     have e3:g1=q:=by simpa [Value.ownBlock] using hl
     have e4:q=g2:=by simpa [Value.ownBlock] using he
     subst e3;subst e4
     rw[hg1] at hg2
     simp at hg2
 have hs:=h.one.grown.size
 refine⟨⟨hal.kept hg hne hlv,hx.grown hg (fun e=>h.vx e.symm),⟨hg.os.trans h.one.grown.os,hg.tape.trans h.one.grown.tape,hg.output.trans h.one.grown.output,?_,?_⟩,h.one.nx,h.one.xb,h.one.xl⟩,?_,?_⟩
 ·have:=hg.size;simp at this;omega
 ·intro k hk hkb
  have h1:=(grown_trans h.one.grown (grown_alloc W o _)).block k hk hkb
  refine(hg.block k (by simp;omega) ?_).trans h1
  intro e
  have:=(h.row.lt k e.symm).1
  omega
 ·rw[spotCells_snoc,List.length_append];exact hown
 ·have hxl:=h.one.lx.lt
  rcases hat with e|e
  ·intro e2;apply h.vx;rw[e];exact e2
  ·intro e2
   have:g=x:=by simpa [Value.ownBlock] using e2
   omega
theorem spotIs {b:Nat} {lv:Value} {ts:List Tok} {st s1:RS} {W:World} (h:RI b lv ts st W) (p q:PSpot) (hq:spotR p st=(q,s1)):
  Calls Tryz.prog 152 #[.pointer (some ⟨b,0,none⟩),.agg #[.string p.name,.string p.label,.string p.type,.int .i64 p.least,.int .i64 p.most]] W
   fun e W'=>e=.returned (.agg #[.string q.name,.string q.label,.string q.type,.int .i64 q.least,.int .i64 q.most])∧RI b lv ts s1 W'∧W.grownBy W' (some b):=by
 have:=spot h p
 rw[hq] at this;exact this
end Go.Proofs.YtobgbmfpicmpcaaGreatDoor

