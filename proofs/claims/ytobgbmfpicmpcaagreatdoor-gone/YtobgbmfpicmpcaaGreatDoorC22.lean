/- HasEdge: does a role see an edge? -/
import Derived.Test.YtobgbmfpicmpcaaGreatDoorC21
import Derived.Test.YtobgbmfpicmpcaaGreatDoorC08
import Derived.Maps.RangeWalk
import Derived.Maps.Ext
import Derived.Deep.AppendLies
import Derived.Deep.RegionLaw
import Derived.Test.YtobgbmfpicmpcaaGreatDoorC01
import Derived.Test.YtobgbmfpicmpcaaGreatDoorC14
import Derived.Lib.Hide
set_option maxRecDepth 100000
set_option maxHeartbeats 8000000
namespace Go.Proofs.YtobgbmfpicmpcaaGreatDoor
open Go.Lib (hid)
section
open Go.RowKit Go.Maps
def eM (ns:List aq) (S:aI→Bool) (x:aJ):Bool:=(nodeAt ns x.src).isSome&&(nodeAt ns x.dst).isSome&&S (2,x.type,⟨#[]⟩)
theorem yf (r:Option aq):∃a s mp,tE r=.tuple #[.agg #[.int .i64 a,.string s,.map mp],.bool r.isSome]:=by
 cases r with
 | none=>exact⟨_,_,_,rfl⟩
 | some x=>exact⟨_,_,_,rfl⟩
theorem nU {v:Int} {t:ByteArray} (h0:0≤v) (h1:v≤10) (ht:t.size≤maxLen):D5 (v,t,⟨#[]⟩):=⟨WalkArith.wf_i64 (by simp only;omega),ht,Nat.zero_le _⟩
theorem yH {W:World} {b o m rb rn:Nat} {ns:List aq} {es:List aJ} {S:aI→Bool} {nm:ByteArray} {x:aJ} (h:et b o ns es m W) (hr:bm W rb rn S) (ht:x.type.size≤maxLen):
  Calls Tryz.prog 143 #[.pointer (some ⟨b,o,none⟩),.agg #[.string nm,.map (some rb)],.agg #[.string x.type,.int .i64 x.src,.int .i64 x.dst]] W fun e W'=>e=.returned (.bool (eM ns S x))∧Below W.heap.size W W':=by
 obtain⟨ty,src,dst⟩:=x
 have HB0:=hid ((Below.refl W.heap.size W).alloc (Nat.le_refl _) (.cells #[.string nm,.map (some rb)] 118))
 have HR0:=hid (Loc.new W #[.string nm,.map (some rb)] 118)
 have HB1:=hid (HB0.out.alloc HB0.out.size (.cells #[.string ty,.int .i64 src,.int .i64 dst] 142))
 have HR1:=hid (HR0.out.alloc (.cells #[.string ty,.int .i64 src,.int .i64 dst] 142))
 have HX1:=hid (Loc.new (W.alloc (.cells #[.string nm,.map (some rb)] 118)) #[.string ty,.int .i64 src,.int .i64 dst] 142)
 have H:=hid h
 have HR:=hid hr
 have HT:=hid (nU (v:=2) (by decide) (by decide) ht)
 clear h hr ht HB0 HR0
 go_enter Tryz.func143,Tryz.ntmps143
 go_upto_region 1 with fail
 obtain⟨Y,hY⟩:∃Y,Y=W.heap.size:=⟨_,rfl⟩
 have e1:(W.alloc (.cells #[.string nm,.map (some rb)] 118)).heap.size=Y+1:=by rw[hY];simp
 rw[e1] at HX1
 rw[←hY] at HR1⊢
 clear hY e1
 generalize (W.alloc (.cells #[.string nm,.map (some rb)] 118)).alloc (.cells #[.string ty,.int .i64 src,.int .i64 dst] 142)=W1 at HB1 HR1 HX1⊢
 have x1:W1.cell? ⟨Y+1,1,none⟩=some (.int .i64 src):=(HX1.out.cell 1).trans rfl
 go_wp2_with fail
 refine(vD (n:=src) (H.out.below HB1.out)).mono ?_
 rintro e W2 ⟨rfl,hb⟩
 obtain⟨a1,s1,m1,hv⟩:=yf (nodeAt ns src)
 rw[hv]
 have HB2:=hid ((HB1.out.trans (hb.mono HB1.out.size)).alloc (HB1.out.trans (hb.mono HB1.out.size)).size (.cells #[.int .i64 a1,.string s1,.map m1] 139))
 have HR2:=hid ((HR1.out.grown (af hb none) (by simp)).alloc (.cells #[.int .i64 a1,.string s1,.map m1] 139))
 have HX2:=hid ((HX1.out.grown (af hb none) (by simp)).alloc (.cells #[.int .i64 a1,.string s1,.map m1] 139))
 clear hb hv x1 HB1 HR1 HX1
 go_upto_region 2 with fail
 generalize W2.alloc (.cells #[.int .i64 a1,.string s1,.map m1] 139)=W3 at HB2 HR2 HX2⊢
 have x2:W3.cell? ⟨Y+1,2,none⟩=some (.int .i64 dst):=(HX2.out.cell 2).trans rfl
 go_wp2_with fail
 refine(vD (n:=dst) (H.out.below HB2.out)).mono ?_
 rintro e W4 ⟨rfl,hb⟩
 obtain⟨a2,s2,m2,hv⟩:=yf (nodeAt ns dst)
 rw[hv]
 have HB3:=hid ((HB2.out.trans (hb.mono HB2.out.size)).alloc (HB2.out.trans (hb.mono HB2.out.size)).size (.cells #[.int .i64 a2,.string s2,.map m2] 139))
 have HR3:=hid ((HR2.out.grown (af hb none) (by simp)).alloc (.cells #[.int .i64 a2,.string s2,.map m2] 139))
 have HX3:=hid ((HX2.out.grown (af hb none) (by simp)).alloc (.cells #[.int .i64 a2,.string s2,.map m2] 139))
 clear hb hv x2 HB2 HR2 HX2
 go_upto_region 3 with fail
 generalize W4.alloc (.cells #[.int .i64 a2,.string s2,.map m2] 139)=W5 at HB3 HR3 HX3⊢
 have HE:Hid (eM ns S ⟨ty,src,dst⟩=((nodeAt ns src).isSome&&(nodeAt ns dst).isSome&&S (2,ty,⟨#[]⟩))):=hid rfl
 generalize (nodeAt ns src).isSome=f1 at HE⊢
 generalize (nodeAt ns dst).isSome=f2 at HE⊢
 have r0:=HR3.out.at_ 0 (.string nm) rfl
 have r1:=HR3.out.at_ 1 (.map (some rb)) rfl
 have x0:W5.cell? ⟨Y+1,0,none⟩=some (.string ty):=(HX3.out.cell 0).trans rfl
 cases f1 with
 | false=>
  go_wp2_with fail
  go_ret
  exact⟨by rw[HE.out];rfl,HB3.out⟩
 | true=>
  cases f2 with
  | false=>
   go_wp2_with fail
   go_ret
   exact⟨by rw[HE.out];rfl,HB3.out⟩
  | true=>
   go_wp2_with fail
   refine(xL (HR.out.kept (af HB3.out none) (by simp)) HT.out).mono ?_
   rintro e W6 ⟨rfl,hb⟩
   have HB6:=hid (HB3.out.trans (hb.mono HB3.out.size))
   clear hb
   go_wp2_with fail
   go_ret
   exact⟨by rw[HE.out];simp,HB6.out⟩
end
section
open Go.RowKit Go.Maps
abbrev jq (s:ByteArray):Lit:=.string s.data.toList
theorem pN {s t:ByteArray} (h:jq s=jq t):s=t:=by
 injection h with h
 obtain⟨a⟩:=s
 obtain⟨b⟩:=t
 congr
 exact Array.toList_inj.1 h
theorem yr {key:Value} {kl:Lit} (h:keyOf Tryz.prog 9 key=some kl):∃x:ByteArray,key=.string x∧kl=jq x∧x.size≤maxLen:=by
 cases key<;>simp[keyOf,Tryz.underlying9,mapKey] at h
 exact⟨_,rfl,h.2.symm,h.1⟩
theorem tM (s t:ByteArray):(jq s).sameKey (jq t)=decide (s=t):=by
 by_cases e:s=t
 ·subst e
  simp[Lit.sameKey]
 ·rw[decide_eq_false e]
  exact sameKey_ne (fun h=>e (pN h))
def jM (D0 Dout:DataW Unit) (left:Lit→Bool) (p:ByteArray→Bool):Prop:=
 ∀s:ByteArray,s.size≤maxLen→Maps.has Dout (jq s)=(Maps.has D0 (jq s)&&!left (jq s)&&p s)∧(Maps.has Dout (jq s)=true→∀z,Dout.atKey (jq s) z=D0.atKey (jq s) z)
theorem jM.start (D0:DataW Unit) (p:ByteArray→Bool):jM D0 (.map []) (Maps.has D0) p:=fun s _=>⟨by cases Maps.has D0 (jq s)<;>rfl,fun h=>by cases h⟩
theorem Ah {D:DataW Unit} {k:Lit} {y:DataW Unit} (h:∀z,D.atKey k z=y):Maps.has D k=true:=has_true_of_atKey h
theorem jM.skip {D0 Dout:DataW Unit} {left:Lit→Bool} {p:ByteArray→Bool} {x:ByteArray} (h:jM D0 Dout left p) (hp:p x=false):jM D0 Dout (fun z=>left z&&!z.sameKey (jq x)) p:=by
 intro s hs
 refine⟨?_,(h s hs).2⟩
 simp only[tM]
 rw[(h s hs).1]
 by_cases e:s=x
 ·subst e;simp[hp]
 ·simp[e]
theorem jM.put {D0 Dout:DataW Unit} {left:Lit→Bool} {p:ByteArray→Bool} {x:ByteArray} {d:DataW Unit} (h:jM D0 Dout left p) (hm:IsMap Dout) (hx:x.size≤maxLen) (hp:p x=true) (hat:∀z,D0.atKey (jq x) z=d):jM D0 (Dout.put (jq x) d) (fun z=>left z&&!z.sameKey (jq x)) p:=by
 intro s hs
 by_cases e:s=x
 ·subst e
  refine⟨?_,fun _ z=>?_⟩
  ·simp only[tM]
   rw[has_put_same hm (nN.key (oY hx)),Ah hat]
   simp[hp]
  ·rw[atKey_put_same hm (nN.key (oY hx)),hat]
 ·have hne:jq s≠jq x:=fun h=>e (pN h)
  simp only[tM]
  rw[has_put_other hne]
  refine⟨?_,fun hh z=>?_⟩
  ·rw[(h s hs).1];simp[e]
  ·rw[atKey_put_other hne];exact(h s hs).2 hh z
theorem jM.done {W w:World} {b n B n':Nat} {f:ByteArray→Option Int} {D0 Dout:DataW Unit} {left:Lit→Bool} {p:ByteArray→Bool} (h:jM D0 Dout left p) (hl:∀k,left k=false) (_h0:W.ownsMap Tryz.prog 9 (plainElem Tryz.prog 3) b n D0)
  (hf:∀s:ByteArray,s.size≤maxLen→Maps.has D0 (jq s)=(f s).isSome∧D0.atKey (jq s) (.lit (.int .i64 0))=.lit (.int .i64 ((f s).getD 0))) (ho:w.ownsMap Tryz.prog 9 (plainElem Tryz.prog 3) B n' Dout):bF w B n' (fun s=>if p s then f s else none):=by
 refine⟨Dout,ho,fun s hs=>?_⟩
 have h1:=h s hs
 rw[hl,(hf s hs).1] at h1
 cases hp:p s with
 | false=>
  simp only[hp,Bool.and_false] at h1
  simp only[hp,Bool.false_eq_true,if_false]
  refine⟨by rw[h1.1];rfl,?_⟩
  rw[atKey_of_not_has h1.1];rfl
 | true=>
  simp only[hp,Bool.and_true,Bool.not_false] at h1
  simp only[hp,if_true]
  refine⟨h1.1,?_⟩
  cases hh:(f s).isSome with
  | true=>rw[h1.2 (by rw[h1.1,hh])];exact(hf s hs).2
  | false=>
   rw[hh] at h1
   rw[atKey_of_not_has h1.1]
   have:f s=none:=by simpa using hh
   rw[this];rfl
theorem C5 {W:World} {x:aq} {m rb rn:Nat} {nm:ByteArray} {S:aI→Bool} (hp:bF W x.bZ m x.aW) (hm:m<maxLen) (hr:bm W rb rn S) (hl:x.label.size≤maxLen):
  Calls Tryz.prog 142 #[.agg #[.int .i64 x.num,.string x.label,.map (some x.bZ)],.agg #[.string nm,.map (some rb)]] W fun e W'=>∃B,e=.returned (.map (some B))∧W.heap.size≤B∧bF W' B m (fun s=>if S (3,x.label,s) then x.aW s else none)∧Below W.heap.size W W':=by
 obtain⟨num,label,bZ,aW⟩:=x
 simp only at hp hl⊢
 obtain⟨D,hown,hD⟩:=hp
 have HR:=hid hr
 have HL:=hid hl
 have HD:=hid hD
 have HMM:=hid hm
 have HB0:=hid ((Below.refl W.heap.size W).alloc (Nat.le_refl _) (.cells #[.int .i64 num,.string label,.map (some bZ)] 139))
 have HN0:=hid (Loc.new W #[.int .i64 num,.string label,.map (some bZ)] 139)
 have HB1:=hid (HB0.out.alloc HB0.out.size (.cells #[.string nm,.map (some rb)] 118))
 have HN1:=hid (HN0.out.alloc (.cells #[.string nm,.map (some rb)] 118))
 have HR1:=hid (Loc.new (W.alloc (.cells #[.int .i64 num,.string label,.map (some bZ)] 139)) #[.string nm,.map (some rb)] 118)
 have HO:=hid hown
 have HBLK:=hid hown.lt
 have hmm:=@run_makeMap Tryz.prog
 clear hr hl hD hm hown HB0 HN0
 go_enter Tryz.func142,Tryz.ntmps142
 go_upto_region 1 with fail
 obtain⟨Y,hY⟩:∃Y,Y=W.heap.size:=⟨_,rfl⟩
 have e1:(W.alloc (.cells #[.int .i64 num,.string label,.map (some bZ)] 139)).heap.size=Y+1:=by rw[hY];simp
 have e2:((W.alloc (.cells #[.int .i64 num,.string label,.map (some bZ)] 139)).alloc (.cells #[.string nm,.map (some rb)] 118)).heap.size=Y+2:=by rw[hY];simp
 have HE2:=hid e2
 have HYW:=hid hY
 rw[e1] at HR1
 rw[←hY] at HN1⊢
 clear hY e1 e2
 generalize (W.alloc (.cells #[.int .i64 num,.string label,.map (some bZ)] 139)).alloc (.cells #[.string nm,.map (some rb)] 118)=W1 at HB1 HN1 HR1 HE2⊢
 have HM2:Hid ((W1.alloc (.map #[] 0)).ownsMap Tryz.prog 9 (plainElem (H:=Unit) Tryz.prog 3) (Y+2) 0 (.map [])):=hid (by rw[←HE2.out];exact World.ownsMap_made W1 _ _ _)
 have HB2:=hid (HB1.out.alloc HB1.out.size (.map #[] 0))
 have HN2:=hid (HN1.out.alloc (.map #[] 0))
 have HR2:=hid (HR1.out.alloc (.map #[] 0))
 have HO2:=hid (HO.out.kept (af HB2.out none) (by simp))
 have HE3:Hid ((W1.alloc (.map #[] 0)).heap.size=Y+3):=hid (by have:=HE2.out;simp[this])
 go_upto_region 2 with fail
 rw[HE2.out]
 clear hmm HB1 HN1 HR1
 generalize W1.alloc (.map #[] 0)=W2 at HM2 HB2 HN2 HR2 HO2 HE3⊢
 have n2:=HN2.out.at_ 2 (.map (some bZ)) rfl
 go_wp2_with (first
  | (at_range;refine wpList_range_own _ rfl _ 137 rfl 9 3 nN Tryz.underlying137 _ bZ m D rfl HO2.out ?_;intro w0 hrg0 hg0 hs0)
  | go_in)
 go_frame
 rw[HE3.out] at hrg0 hs0⊢
 have HRG:=hid hrg0
 have HB3:=hid (HB2.out.grown hg0 HB2.out.size (by simp))
 have HN3:=hid (HN2.out.grown hg0 (by simp))
 have HR3:=hid (HR2.out.grown hg0 (by simp))
 have HM3:=hid (HM2.out.kept hg0 (by simp))
 clear hrg0 hg0 hs0 n2 HB2 HN2 HR2 HM2 HO2 HE3 HE2
 go_loopg [6] (Maps.size D) (fun c _ wr=>∃(left:Lit→Bool) (Dout:DataW Unit),wr.ranges Tryz.prog 9 (plainElem Tryz.prog 3) bZ (Y+3) m D left c∧c≤Maps.size D∧wr.ownsMap Tryz.prog 9 (plainElem Tryz.prog 3) (Y+2) (Maps.size D - c) Dout∧jM D Dout left (fun s=>S (3,label,s))∧Below W.heap.size W wr∧Loc wr Y #[.int .i64 num,.string label,.map (some bZ)] 139∧Loc wr (Y+1) #[.string nm,.map (some rb)] 118)
 case atStart=>exact⟨_,.map [],HRG.out,Nat.le_refl _,HM3.out.mono (Nat.zero_le _),jM.start D _,HB3.out,HN3.out,HR3.out⟩
 case round=>
  obtain⟨left,Dout,hrg,hcs,hout,hsift,hb,hn,hro⟩:=hrel
  have HS:=hid hsift
  have HB:=hid hb
  have HN:=hid hn
  have HRO:=hid hro
  have HG:=hid hrg
  have HOUT:=hid hout
  have HC:=hid hcs
  clear hsift hb hn hro hrg hout hcs HRG HB3 HN3 HR3 HM3
  go_wp2_with (first
   | (at_next;refine wpList_next_ranges _ rfl _ rfl 9 nN (plainElem Tryz.prog 3) Value.string (Value.int .i64) (fun key kl hkey=>by obtain⟨x,rfl,_⟩:=yr hkey;exact⟨x,rfl⟩) (fun v y hv=>by obtain⟨c,rfl,_⟩:=plainElem_int_inv Tryz.underlying3 hv;exact⟨c,rfl⟩) bZ (Y+3) m D left gk rfl HG.out ?_ ?_)
   | go_in)
  ·intro hc0 hl0
   have HL0:=hid hl0
   have HC0:=hid hc0
   clear hl0 hc0
   go_wp2_with fail
   go_ret
   refine⟨Y+2,rfl,by rw[HYW.out];omega,?_,HB.out⟩
   have:=HS.out.done HL0.out HO.out HD.out HOUT.out
   obtain⟨D',ho',hD'⟩:=this
   exact⟨D',ho'.mono (by have:=HO.out.size_le;omega),hD'⟩
  ·intro x c kl y1 y2 w1 cnt1 hkey hlk hv hat hrg1 hlt hg1 hs1 hen
   obtain⟨x',ex,hkl,hxs⟩:=yr hkey
   injection ex with ex
   subst ex
   subst hkl
   obtain⟨c',ec,hyv,hwc⟩:=plainElem_int_inv Tryz.underlying3 hv
   injection ec with _ ec
   subst ec
   have hat':∀z,D.atKey (jq x) z=.lit (.int .i64 c):=fun z=>(hat z).trans (congrArg Prod.fst hyv)
   have HAT:=hid hat'
   have HXS:=hid hxs
   have HWC:=hid hwc
   have HLT:=hid hlt
   have HG1:=hid hrg1
   have HOUT1:=hid (HOUT.out.kept hg1 (by simp))
   have HB1:=hid (HB.out.grown hg1 HB.out.size (fun j hj=>by injection hj with hj;rw[←hj,HYW.out];omega))
   have HN1:=hid (HN.out.grown hg1 (by simp))
   have HRO1:=hid (HRO.out.grown hg1 (by simp))
   clear hkey hlk hv hat hat' hrg1 hlt hg1 hs1 hxs hwc hyv y1 y2 HG HOUT HB HN HRO
   have n1:=HN1.out.at_ 1 (.string label) rfl
   have r0:w1.cell? ⟨Y+1,0,none⟩=some (.string nm):=(HRO1.out.cell 0).trans rfl
   have r1:w1.cell? ⟨Y+1,1,none⟩=some (.map (some rb)):=(HRO1.out.cell 1).trans rfl
   go_wp2_with fail
   refine(xL (r:=(3,label,x)) (HR.out.kept (af HB1.out none) (by simp)) ⟨WalkArith.wf_i64 (n:=3) (by decide),HL.out,HXS.out⟩).mono ?_
   rintro e w2 ⟨rfl,hb2⟩
   have HG2:=hid (HG1.out.kept (af hb2 none) (by simp) (by simp))
   have HOUT2:=hid (HOUT1.out.kept (af hb2 none) (by simp))
   have HB2:=hid (HB1.out.trans (hb2.mono HB1.out.size))
   have HN2:=hid (HN1.out.grown (af hb2 none) (by simp))
   have HRO2:=hid (HRO1.out.grown (af hb2 none) (by simp))
   clear hb2 hen n1 r0 r1 HG1 HOUT1 HB1 HN1 HRO1
   have HNE:Hid (bZ≠Y+2∧bZ≠Y+3):=hid (by have:=HBLK.out;rw[HYW.out];omega)
   cases hs:S (3,label,x) with
   | true=>
    have HST:=hid hs
    clear hs
    have HLN:Hid (Maps.size D - gk<maxLen):=hid (by have h1:=HO.out.size_le;have h2:=HMM.out;omega)
    go_wp2_with (first
     | (at_mapUpdate;refine wpList_mapUpdate_own _ rfl _ _ _ 137 rfl 9 3 nN Tryz.underlying137 _ (Y+2) _ _ rfl HOUT2.out HLN.out _ _ _ rfl rfl (oY HXS.out) _ [] (plainElem_int Tryz.underlying3 HWC.out) ?_;intro w3 hout3 hg3;go_frame)
     | go_in)
    have HG3:=hid (HG2.out.kept hg3 (fun e=>by injection e with e;exact HNE.out.1 e) (by simp))
    have HB3:=hid (HB2.out.grown hg3 HB2.out.size (fun j hj=>by injection hj with hj;rw[←hj,HYW.out];omega))
    have HN3:=hid (HN2.out.grown hg3 (by simp))
    have HRO3:=hid (HRO2.out.grown hg3 (by simp))
    have HOUT3:=hid hout3
    clear hg3 hout3
    go_roundg cnt1
    case rel=>
     refine⟨_,_,HG3.out,by have:=HLT.out;have:=HC.out;omega,HOUT3.out.mono (by have:=HLT.out;have:=HC.out;omega),HS.out.put HOUT2.out.isMap HXS.out HST.out HAT.out,HB3.out,HN3.out,HRO3.out⟩
    case measure=>exact HLT.out
   | false=>
    have HST:=hid hs
    clear hs
    go_wp2_with fail
    go_roundg cnt1
    case rel=>
     refine⟨_,_,HG2.out,by have:=HLT.out;have:=HC.out;omega,HOUT2.out.mono (by have:=HLT.out;have:=HC.out;omega),HS.out.skip HST.out,HB2.out,HN2.out,HRO2.out⟩
    case measure=>exact HLT.out
end
section
open Go.RowKit Go.Maps
def AY (x:aq):Int × ByteArray × (ByteArray→Option Int):=(x.num,x.label,x.aW)
def I4 (S:aI→Bool) (x:aq):Int × ByteArray × (ByteArray→Option Int):=(x.num,x.label,fun s=>if S (3,x.label,s) then x.aW s else none)
def rW (S:aI→Bool) (x:aq):Bool:=S (1,x.label,⟨#[]⟩)
def dP (S:aI→Bool) (ns:List aq):List (Int × ByteArray × (ByteArray→Option Int)):=(ns.filter (rW S)).map (I4 S)
structure eP (W0:World) (Sb:Nat) (vn ve:Value) (sn:List aq) (se:List aJ) (m:Nat) (W:World):Prop where
 ls:Loc W Sb #[vn,ve,.int .i64 0] 126
 on:W.ownsRow W0.heap.size 139 3 vn sn.length (sn.flatMap eD)
 oe:W.ownsRow W0.heap.size 142 3 ve se.length (se.flatMap fL)
 aW:∀x∈sn,bF W x.bZ m x.aW
 ns:W0.heap.size≤Sb
 below:Below W0.heap.size W0 W
 new:∀x∈sn,W0.heap.size≤x.bZ
theorem eP.later {W0 W w:World} {Sb m:Nat} {vn ve:Value} {sn:List aq} {se:List aJ} (h:eP W0 Sb vn ve sn se m W) (hb:Below W.heap.size W w):eP W0 Sb vn ve sn se m w:=
 ⟨h.ls.grown (af hb none) (by simp),h.on.kept (af hb none) (by cases vn.ownBlock<;>simp),h.oe.kept (af hb none) (by cases ve.ownBlock<;>simp),fun x hx=>(h.aW x hx).kept (af hb none) (by simp),h.ns,h.below.trans (hb.mono h.below.size),h.new⟩
theorem eP.drew {W0 W:World} {Sb m:Nat} {vn ve:Value} {sn:List aq} {se:List aJ} (h:eP W0 Sb vn ve sn se m W):eP W0 Sb vn ve sn se m W.drew:=
 ⟨h.ls,h.on,h.oe,h.aW,h.ns,h.below.drew,h.new⟩
theorem bF.isMap {W:World} {b n:Nat} {f:ByteArray→Option Int} (h:bF W b n f):∃es c,W.heap[b]?=some (.map es c):=by
 obtain⟨D,⟨es,c,hb,_⟩,_⟩:=h
 exact⟨es,c,hb⟩
theorem bF.aV {W:World} {b n g:Nat} {f:ByteArray→Option Int} (h:bF W b n f) {cs:Array Value} {T:TypeId} {z:Nat × Nat} (hg:W.heap[g]?=some (.cells cs T z)):b≠g:=by
 obtain⟨es,c,hb⟩:=h.isMap
 intro e
 subst e
 rw[hb] at hg
 cases hg
theorem bF.eh {W:World} {b n:Nat} {f:ByteArray→Option Int} (h:bF W b n f) {B k m:Nat} {T:TypeId} {v:Value} {xs:List Value} (ho:W.ownsRow B T k v m xs):some b≠v.ownBlock:=by
 rcases ho.2 with ⟨rfl,_⟩|⟨g,cap,cur,rfl,_,hg,_⟩
 ·simp[Value.ownBlock]
 ·intro e
  injection e with e
  exact h.aV hg e
theorem eP.Ep {W0 W w:World} {Sb m:Nat} {vn ve v':Value} {sn:List aq} {se:List aJ} {x:aq} (h:eP W0 Sb vn ve sn se m W) (hp:bF W x.bZ m x.aW) (hnew:W0.heap.size≤x.bZ) (hg:W.grownBy w vn.ownBlock)
  (ho:w.ownsRow W0.heap.size 139 3 v' (sn.length+1) (sn.flatMap eD++eD x)):eP W0 Sb v' ve (sn++[x]) se m (w.setCell ⟨Sb,0,none⟩ v'):=by
 have hl:=h.ls.fs h.on hg (by decide)
 have hset:=aC w Sb 0 v'
 have hk:∀{y:aq},bF W y.bZ m y.aW→bF (w.setCell ⟨Sb,0,none⟩ v') y.bZ m y.aW:=fun {y} hy=>by
  have hy':=hy.kept hg (hy.eh h.on)
  exact hy'.kept hset (by intro e;injection e with e;exact hy'.aV hl e)
 refine⟨hl.set 0 v',?_,?_,?_,h.ns,(h.below.grown hg h.below.size (fun k hk=>(h.on.lt k hk).1)).setCell (p:=⟨Sb,0,none⟩) h.ns v',fun y hy=>(List.mem_append.1 hy).elim (h.new y) (fun hy=>by rw[List.mem_singleton.1 hy];exact hnew)⟩
 ·have e:(sn++[x]).length=sn.length+1:=by simp
  have e2:(sn++[x]).flatMap eD=sn.flatMap eD++eD x:=by simp
  rw[e,e2]
  exact ho.kept hset (Or.inr (fun e=>aQ ho hl (by decide) e))
 ·exact(h.oe.kept hg (gm h.oe h.on (by decide))).kept hset (Or.inr (fun e=>aQ (h.oe.kept hg (gm h.oe h.on (by decide))) hl (by decide) e))
 ·intro y hy
  rcases List.mem_append.1 hy with hy|hy
  ·exact hk (h.aW y hy)
  ·simp only[List.mem_singleton] at hy
   subst hy
   exact hk hp
theorem eP.Kg {W0 W w:World} {Sb m:Nat} {vn ve v':Value} {sn:List aq} {se:List aJ} {x:aJ} (h:eP W0 Sb vn ve sn se m W) (hg:W.grownBy w ve.ownBlock)
  (ho:w.ownsRow W0.heap.size 142 3 v' (se.length+1) (se.flatMap fL++fL x)):eP W0 Sb vn v' sn (se++[x]) m (w.setCell ⟨Sb,1,none⟩ v'):=by
 have hl:=h.ls.fs h.oe hg (by decide)
 have hset:=aC w Sb 1 v'
 refine⟨hl.set 1 v',?_,?_,?_,h.ns,(h.below.grown hg h.below.size (fun k hk=>(h.oe.lt k hk).1)).setCell (p:=⟨Sb,1,none⟩) h.ns v',h.new⟩
 ·exact(h.on.kept hg (gm h.on h.oe (by decide))).kept hset (Or.inr (fun e=>aQ (h.on.kept hg (gm h.on h.oe (by decide))) hl (by decide) e))
 ·have e:(se++[x]).length=se.length+1:=by simp
  have e2:(se++[x]).flatMap fL=se.flatMap fL++fL x:=by simp
  rw[e,e2]
  exact ho.kept hset (Or.inr (fun e=>aQ ho hl (by decide) e))
 ·intro y hy
  have hy':=(h.aW y hy).kept hg ((h.aW y hy).eh h.oe)
  exact hy'.kept hset (by intro e;injection e with e;exact hy'.aV hl e)
theorem eP.aside {W0 W:World} {Sb m Z j:Nat} {vn ve u:Value} {sn:List aq} {se:List aJ} {cs:Array Value} {T:TypeId} (h:eP W0 Sb vn ve sn se m W) (hz:Loc W Z cs T) (hs:Z≠Sb) (h1:vn.ownBlock≠some Z) (h2:ve.ownBlock≠some Z) (h3:W0.heap.size≤Z):eP W0 Sb vn ve sn se m (W.setCell ⟨Z,j,none⟩ u):=
 ⟨h.ls.setOther (Ne.symm hs) j u,h.on.kept (aC W Z j u) (Or.inr h1),h.oe.kept (aC W Z j u) (Or.inr h2),fun x hx=>(h.aW x hx).kept (aC W Z j u) (by intro e;injection e with e;exact(h.aW x hx).aV hz e),h.ns,h.below.setCell (p:=⟨Z,j,none⟩) h3 u,h.new⟩
theorem yD {S:aI→Bool} {ns sn:List aq} (h:sn.map AY=dP S ns) (hs:ns.Pairwise (fun a b=>a.num<b.num)):sn.Pairwise (fun a b=>a.num<b.num):=by
 have h1:(sn.map AY).Pairwise (fun a b=>a.1<b.1):=by
  rw[h]
  unfold dP
  rw[List.pairwise_map]
  exact(hs.filter _)
 rwa [List.pairwise_map] at h1
theorem zA {S:aI→Bool} {ns sn:List aq} (h:sn.map AY=dP S ns):sn.length≤ns.length:=by
 have:=congrArg List.length h
 unfold dP at this
 rw[List.length_map,List.length_map] at this
 rw[this]
 exact List.length_filter_le _ _
theorem eP.qm {W0 W:World} {Sb m:Nat} {vn ve:Value} {sn:List aq} {se:List aJ} (h:eP W0 Sb vn ve sn se m W) (hs:sn.Pairwise (fun a b=>a.num<b.num)) (hf:sn.length≤1000000∧se.length≤1000000):et Sb 0 sn se m W:=by
 have s1:=aP h.on h.on.1
 have s2:=aP h.oe h.oe.1
 obtain⟨a1,c1,rfl,_⟩:=eI s1
 obtain⟨a2,c2,rfl,_⟩:=eI s2
 exact⟨⟨a1,c1,(h.ls.cell 0).trans rfl,s1⟩,⟨a2,c2,(h.ls.cell 1).trans rfl,s2⟩,hs,hf,h.aW⟩
theorem eP.by {W0 W w:World} {Sb m:Nat} {vn ve:Value} {sn:List aq} {se:List aJ} (h:eP W0 Sb vn ve sn se m W) (hs:sn.Pairwise (fun a b=>a.num<b.num)) (hf:sn.length≤1000000∧se.length≤1000000) (he:∀k,W0.heap.size≤k→k<W.heap.size→w.heap[k]?=W.heap[k]?):et Sb 0 sn se m w:=by
 have row:∀{T:TypeId} {n:Nat} {v:Value} {xs:List Value},W.ownsRow W0.heap.size T 3 v n xs→w.ownsRow W0.heap.size T 3 v n xs:=fun {T n v xs} hr=>by
  refine⟨hr.1,?_⟩
  rcases hr.2 with h0|⟨g,cap,cur,rfl,hb,hg,r⟩
  ·exact Or.inl h0
  ·exact Or.inr ⟨g,cap,cur,rfl,hb,(he g hb (lt_of_block hg)).trans hg,r⟩
 have hl:Loc w Sb #[vn,ve,.int .i64 0] 126:=(he Sb h.ns h.ls.lt).trans h.ls
 have s1:=aP (row h.on) h.on.1
 have s2:=aP (row h.oe) h.oe.1
 obtain⟨a1,c1,rfl,_⟩:=eI s1
 obtain⟨a2,c2,rfl,_⟩:=eI s2
 refine⟨⟨a1,c1,(hl.cell 0).trans rfl,s1⟩,⟨a2,c2,(hl.cell 1).trans rfl,s2⟩,hs,hf,fun x hx=>?_⟩
 obtain⟨D,⟨es,c,hb,r⟩,hS⟩:=h.aW x hx
 exact⟨D,⟨es,c,(he x.bZ (h.new x hx) (lt_of_block hb)).trans hb,r⟩,hS⟩
end
section
open Go Go.RowKit
theorem bB {w:World} {B k n:Nat} {T:TypeId} {v:Value} {xs:List Value} (h:w.ownsRow B T k v n xs):∃ao cap,v=.slice ao n cap:=by
 rcases h.2 with ⟨hv,h0⟩|⟨g,cap,cur,hv,_⟩
 ·exact⟨none,0,by rw[hv,h0]⟩
 ·exact⟨_,cap,hv⟩
end
section
open Go.RowKit Go.Maps
theorem Tryz.yh:(Tryz.prog.info? 139).map (fun i=>(i.zero,i.size,i.bytes))=some (some (.agg #[.int .i64 0,.string ⟨#[]⟩,.map none]),3,32):=by kernel_rfl
theorem Tryz.xC:(Tryz.prog.info? 142).map (fun i=>(i.zero,i.size,i.bytes))=some (some (.agg #[.string ⟨#[]⟩,.int .i64 0,.int .i64 0]),3,32):=by kernel_rfl
theorem xS (x:aq):∀u∈eD x,u.oneCell'=true:=by
 intro u hu
 simp[eD] at hu
 rcases hu with rfl|rfl|rfl<;>rfl
theorem zw (x:aJ):∀u∈fL x,u.oneCell'=true:=by
 intro u hu
 simp[fL] at hu
 rcases hu with rfl|rfl|rfl<;>rfl
theorem CA {S:aI→Bool} {ns:List aq} {k:Nat} (hk:k<ns.length):dP S (ns.take (k+1))=dP S (ns.take k)++(if rW S ns[k] then [I4 S ns[k]] else []):=by
 unfold dP
 rw[List.take_add_one,List.getElem?_eq_getElem hk,List.filter_append,List.map_append]
 simp only[Option.toList_some]
 cases hs:rW S ns[k]<;>simp[List.filter,hs]
theorem KS {W:World} {b o m rb rn:Nat} {ns:List aq} {es:List aJ} {S:aI→Bool} {nm:ByteArray} (h:et b o ns es m W) (hr:bm W rb rn S) (hm:m<maxLen) (hn:∀x∈ns,x.label.size≤maxLen) (he:∀x∈es,x.type.size≤maxLen):
  Calls Tryz.prog 64 #[.pointer (some ⟨b,o,none⟩),.agg #[.string nm,.map (some rb)]] W fun e W'=>∃Sb sn,e=.returned (.pointer (some ⟨Sb,0,none⟩))∧W.heap.size≤Sb∧sn.map AY=dP S ns∧et Sb 0 sn (es.filter (eM sn S)) m W'∧Below W.heap.size W W'∧∀w,(∀k,W.heap.size≤k→k<W'.heap.size→w.heap[k]?=W'.heap[k]?)→et Sb 0 sn (es.filter (eM sn S)) m w:=by
 obtain⟨i0,hi,hz0,hz1,hz2⟩:=info_parts Tryz.yh
 obtain⟨i1,hj,hy0,hy1,hy2⟩:=info_parts Tryz.xC
 have H:=hid h
 have HR:=hid hr
 have HMM:=hid hm
 have HNL:=hid hn
 have HEL:=hid he
 have HB0:=hid ((Below.refl W.heap.size W).alloc (Nat.le_refl _) (.cells #[.string nm,.map (some rb)] 118))
 have HR0:=hid (Loc.new W #[.string nm,.map (some rb)] 118)
 have HB1:=hid (HB0.out.alloc HB0.out.size (.cells #[.slice none 0 0,.slice none 0 0,.int .i64 0] 126))
 have HR1:=hid (HR0.out.alloc (.cells #[.slice none 0 0,.slice none 0 0,.int .i64 0] 126))
 have HS1:=hid (Loc.new (W.alloc (.cells #[.string nm,.map (some rb)] 118)) #[.slice none 0 0,.slice none 0 0,.int .i64 0] 126)
 clear h hr hm hn he HB0 HR0
 go_enter Tryz.func64,Tryz.ntmps64
 go_upto_region 2 with fail
 obtain⟨Y,hY⟩:∃Y,Y=W.heap.size:=⟨_,rfl⟩
 have e1:(W.alloc (.cells #[.string nm,.map (some rb)] 118)).heap.size=Y+1:=by rw[hY];simp
 have HYW:=hid hY
 rw[e1] at HS1
 rw[←hY] at HR1⊢
 clear hY e1
 generalize (W.alloc (.cells #[.string nm,.map (some rb)] 118)).alloc (.cells #[.slice none 0 0,.slice none 0 0,.int .i64 0] 126)=W1 at HB1 HR1 HS1⊢
 have HA1:Hid (eP W (Y+1) (.slice none 0 0) (.slice none 0 0) [] [] m W1):=hid ⟨HS1.out,⟨rfl,Or.inl ⟨rfl,rfl⟩⟩,⟨rfl,Or.inl ⟨rfl,rfl⟩⟩,by simp,by rw[HYW.out];exact Nat.le_succ _,HB1.out,fun x hx=>(by cases hx)⟩
 obtain⟨an,kn,cn0,sn0⟩:=H.out.cn
 have cn:W1.cell? ⟨b,o,none⟩=some (.slice an ns.length kn):=(HB1.out.cell (block_lt_of_cell cn0)).trans cn0
 have HSN:=hid sn0
 have HFEW:=hid H.out.rF
 have hfn:=H.out.rF.1
 clear sn0 cn0 HS1
 go_wp2_with fail
 go_loopg [17] ns.length (fun n iv w=>∃(k:Nat) (sn:List aq) (vn:Value),iv=.int .i64 (k:Int)∧k+n=ns.length∧sn.map AY=dP S (ns.take k)∧eP W (Y+1) vn (.slice none 0 0) sn [] m w∧Loc w Y #[.string nm,.map (some rb)] 118)
 case atStart=>exact⟨0,[],_,rfl,by omega,rfl,HA1.out,HR1.out⟩
 case round=>
  obtain⟨k,sn,vn,rfl,hk,hsn,hseen,hro⟩:=hrel
  have HSNV:=hid hsn
  have HA:=hid hseen
  have HRO:=hid hro
  clear hsn hseen hro HA1 HR1 HB1
  by_cases hlt:k<ns.length
  ·obtain⟨g,oo,rfl,hcell⟩:=bY (l:=ns) eD (fun _=>rfl) (HSN.out.below HA.out.below) hlt
   obtain⟨y,hy⟩:∃y,ns[k]=y:=⟨_,rfl⟩
   have HY:=hid hy
   have hmem:y∈ns:=by rw[←hy];exact List.getElem_mem hlt
   have HLB:=hid (HNL.out y hmem)
   have HPY:=hid (H.out.aW y hmem)
   rw[hy] at hcell
   clear hy hmem
   obtain⟨num,label,bZ,aW⟩:=y
   have p0:wr.cell? ⟨g,oo+k*3,none⟩=some (.int .i64 num):=hcell 0 (by decide)
   have p1:wr.cell? ⟨g,oo+k*3+1,none⟩=some (.string label):=hcell 1 (by decide)
   have p2:wr.cell? ⟨g,oo+k*3+2,none⟩=some (.map (some bZ)):=hcell 2 (by decide)
   have hki:(k:Int)<(ns.length:Int):=by omega
   clear hcell cn
   have HA1:=hid (HA.out.later ((Below.refl _ _).alloc (Nat.le_refl _) (.cells #[.int .i64 num,.string label,.map (some bZ)] 139)))
   have HRO1:=hid (HRO.out.alloc (.cells #[.int .i64 num,.string label,.map (some bZ)] 139))
   have HZ1:=hid (Loc.new wr #[.int .i64 num,.string label,.map (some bZ)] 139)
   have HZN:=hid HA.out.below.size
   have HZV:Hid (vn.ownBlock≠some wr.heap.size):=hid (by intro e;have:=(HA.out.on.lt _ e).2;omega)
   have HZS:=hid (Ne.symm (Nat.ne_of_lt HA.out.ls.lt))
   have HYS:=hid (Nat.ne_of_lt HRO.out.lt)
   have HSNL:Hid (sn.length≤1000000):=hid (by have h1:=zA HSNV.out;rw[List.length_take] at h1;omega)
   clear HA HRO
   go_upto_region 5 with fail
   obtain⟨Z,hZ⟩:∃Z,Z=wr.heap.size:=⟨_,rfl⟩
   rw[←hZ] at HZ1 HZN HZV HZS HYS⊢
   clear hZ p0 p1 p2
   generalize wr.alloc (.cells #[.int .i64 num,.string label,.map (some bZ)] 139)=W2 at HA1 HRO1 HZ1⊢
   have z1:=HZ1.out.at_ 1 (.string label) rfl
   have r0:=HRO1.out.at_ 0 (.string nm) rfl
   have r1:=HRO1.out.at_ 1 (.map (some rb)) rfl
   go_wp2_with fail
   refine(xL (r:=(1,label,⟨#[]⟩)) (HR.out.kept (af HA1.out.below none) (by simp)) (nU (by decide) (by decide) HLB.out)).mono ?_
   rintro e W3 ⟨rfl,hb⟩
   have HA3:=hid (HA1.out.later hb)
   have HRO3:=hid (HRO1.out.grown (af hb none) (by simp))
   have HZ3:=hid (HZ1.out.grown (af hb none) (by simp))
   clear hb z1 r0 r1 HA1 HRO1 HZ1
   have HNX:=hid (CA (S:=S) hlt)
   rw[HY.out] at HNX
   cases hs:S (1,label,⟨#[]⟩) with
   | false=>
    have HSF:Hid (rW S ⟨num,label,bZ,aW⟩=false):=hid hs
    clear hs
    go_wp2_with fail
    go_roundg (gk - 1)
    case rel=>exact⟨k+1,sn,vn,by simp,by omega,by rw[HNX.out,HSF.out,HSNV.out];simp,HA3.out,HRO3.out⟩
    case measure=>omega
   | true=>
    have HST:Hid (rW S ⟨num,label,bZ,aW⟩=true):=hid hs
    clear hs
    have z0:=HZ3.out.at_ 0 (.int .i64 num) rfl
    have z1:=HZ3.out.at_ 1 (.string label) rfl
    have z2:=HZ3.out.at_ 2 (.map (some bZ)) rfl
    have r0:=HRO3.out.at_ 0 (.string nm) rfl
    have r1:=HRO3.out.at_ 1 (.map (some rb)) rfl
    go_wp2_with fail
    refine(C5 (x:=⟨num,label,bZ,aW⟩) (HPY.out.kept (af HA3.out.below none) (by simp)) HMM.out (HR.out.kept (af HA3.out.below none) (by simp)) HLB.out).mono ?_
    rintro e W4 ⟨B',rfl,hB',hp4,hb⟩
    have HBN:Hid (W.heap.size≤B'):=hid (Nat.le_trans HA3.out.below.size hB')
    have HA4:=hid (HA3.out.later hb)
    have HRO4:=hid (HRO3.out.grown (af hb none) (by simp))
    have HZ4:=hid (HZ3.out.grown (af hb none) (by simp))
    have HP4:=hid hp4
    clear hb hp4 z0 z1 z2 r0 r1 HA3 HRO3 HZ3
    have z2:=HZ4.out.at_ 2 (.map (some bZ)) rfl
    have fz2:=HZ4.out.free 2
    go_upto_region 7 with fail
    have HA5:=hid (HA4.out.aside (j:=2) (u:=.map (some B')) HZ4.out HZS.out HZV.out (by simp[Value.ownBlock]) HZN.out)
    have HRO5:=hid (HRO4.out.setOther (b':=Z) HYS.out 2 (.map (some B')))
    have HZ5:=hid (HZ4.out.set 2 (.map (some B')))
    have HP5:=hid (HP4.out.kept (aC W4 Z 2 (.map (some B'))) (by intro e;injection e with e;exact HP4.out.aV HZ4.out e))
    clear z2 fz2 HA4 HRO4 HZ4 HP4
    generalize W4.setCell ⟨Z,2,none⟩ (.map (some B'))=W5 at HA5 HRO5 HZ5 HP5⊢
    obtain⟨av,cv,hvn⟩:=bB HA5.out.on
    subst hvn
    have z0:=HZ5.out.at_ 0 (.int .i64 num) rfl
    have z1:=HZ5.out.at_ 1 (.string label) rfl
    have z2:=HZ5.out.at_ 2 (.map (some B')) rfl
    have s0:W5.cell? ⟨Y+1,0,none⟩=some (.slice av sn.length cv):=(HA5.out.ls.cell 0).trans rfl
    have HD:=hid (HA5.out.later ((Below.refl _ _).alloc (Nat.le_refl _) (.cells #[.int .i64 num,.string label,.map (some B')] 139))).drew
    have HROD:Hid (Loc ((W5.alloc (.cells #[.int .i64 num,.string label,.map (some B')] 139)).drew) Y #[.string nm,.map (some rb)] 118):=hid (HRO5.out.alloc (.cells #[.int .i64 num,.string label,.map (some B')] 139))
    have hpd:=HP5.out.kept (ar W5 (.cells #[.int .i64 num,.string label,.map (some B')] 139) none) (by simp)
    have HPD:Hid (bF ((W5.alloc (.cells #[.int .i64 num,.string label,.map (some B')] 139)).drew) B' m (fun s=>if S (3,label,s) then aW s else none)):=hid hpd
    clear hpd
    have sa0:(W5.alloc (.cells #[.int .i64 num,.string label,.map (some B')] 139)).cell? ⟨Y+1,0,none⟩=some (.slice av sn.length cv):=(HD.out.ls.cell 0).trans rfl
    have hsl:=HSNL.out
    clear HA5 HRO5 HZ5 HP5
    go_region_law (go_must (refine step_append_lies _ rfl _ _ 123 rfl W.heap.size 139 i0 (.agg #[.int .i64 0,.string ⟨#[]⟩,.map none]) 3 32 Tryz.underlying123 hi hz0 hz1 hz2 rfl (by decide) (.slice av sn.length cv) _ _ (by simp[Act.eval]) HD.out.on ⟨W5.heap.size,0,none⟩ 1 1 [.int .i64 num,.string label,.map (some B')] (by simp[Act.eval]) rfl (World.news_of_block (heap_alloc_new W5 _)) (xS ⟨num,label,B',aW⟩) (by omega) (by unfold maxLen;omega) (by omega) HD.out.below.size _ rfl ?_);intro g2 cap2 w5 hown hgrow _ _;have HLW:=HD.out.ls.fs HD.out.on hgrow (by decide);have c5:w5.cell? ⟨Y+1,0,none⟩=some (.slice av sn.length cv):=(HLW.cell 0).trans rfl;have f5:w5.frozen? ⟨Y+1,0,none⟩=false:=HLW.free 0;have H5:=hid (HD.out.Ep (x:=⟨num,label,B',fun s=>if S (3,label,s) then aW s else none⟩) HPD.out HBN.out hgrow hown);have HRO6:=hid ((HROD.out.fs HD.out.on hgrow (by decide)).setOther (b':=Y+1) (by simp) 0 (.slice (some ⟨g2,0,none⟩) (sn.length+1) cap2));clear HLW hown hgrow)
    all_goals
     go_wp2_with fail
     go_roundg (gk - 1)
     case rel=>exact⟨k+1,_,_,by simp,by omega,by rw[HNX.out,HST.out,List.map_append,HSNV.out];rfl,H5.out,HRO6.out⟩
     case measure=>omega
  ·have hki:¬(k:Int)<(ns.length:Int):=by omega
   have HSV:Hid (sn.map AY=dP S ns):=hid (by have:=HSNV.out;rwa [List.take_of_length_le (by omega)] at this)
   have HSO:=hid (yD HSV.out H.out.gh)
   have HSL:Hid (sn.length≤1000000):=hid (Nat.le_trans (zA HSV.out) H.out.rF.1)
   obtain⟨ae,ke,ce0,se0⟩:=H.out.ce
   have ce:wr.cell? ⟨b,o+1,none⟩=some (.slice ae es.length ke):=(HA.out.below.cell (block_lt_of_cell ce0)).trans ce0
   have HSE:=hid se0
   have hfe:=H.out.rF.2
   clear se0 ce0 cn HSNV
   go_wp2_with fail
   go_loopg [46] es.length (fun n iv w=>∃(k:Nat) (se:List aJ) (ve:Value),iv=.int .i64 (k:Int)∧k+n=es.length∧se=(es.take k).filter (eM sn S)∧eP W (Y+1) vn ve sn se m w∧Loc w Y #[.string nm,.map (some rb)] 118)
   case atStart=>exact⟨0,[],_,rfl,by omega,rfl,HA.out,HRO.out⟩
   case round=>
    obtain⟨k2,se,ve,rfl,hk2,hse,hseen,hro⟩:=hrel
    have HSEV:=hid hse
    have HA2:=hid hseen
    have HRO2:=hid hro
    clear hse hseen hro HA HRO ce
    have HSEL:Hid (se.length≤1000000):=hid (by rw[HSEV.out];refine Nat.le_trans (List.length_filter_le _ _) ?_;rw[List.length_take];omega)
    by_cases hlt2:k2<es.length
    ·obtain⟨g,oo,rfl,hcell⟩:=bY (l:=es) fL (fun _=>rfl) (HSE.out.below HA2.out.below) hlt2
     obtain⟨y,hy⟩:∃y,es[k2]=y:=⟨_,rfl⟩
     have HY:=hid hy
     have HTY:=hid (HEL.out y (by rw[←hy];exact List.getElem_mem hlt2))
     rw[hy] at hcell
     clear hy
     obtain⟨ty,src,dst⟩:=y
     have p0:wr.cell? ⟨g,oo+k2*3,none⟩=some (.string ty):=hcell 0 (by decide)
     have p1:wr.cell? ⟨g,oo+k2*3+1,none⟩=some (.int .i64 src):=hcell 1 (by decide)
     have p2:wr.cell? ⟨g,oo+k2*3+2,none⟩=some (.int .i64 dst):=hcell 2 (by decide)
     have hki2:(k2:Int)<(es.length:Int):=by omega
     clear hcell
     have HA3:=hid (HA2.out.later ((Below.refl _ _).alloc (Nat.le_refl _) (.cells #[.string ty,.int .i64 src,.int .i64 dst] 142)))
     have HRO3:=hid (HRO2.out.alloc (.cells #[.string ty,.int .i64 src,.int .i64 dst] 142))
     have HZ3:=hid (Loc.new wr #[.string ty,.int .i64 src,.int .i64 dst] 142)
     clear HA2 HRO2
     go_upto_region 12 with fail
     obtain⟨Z,hZ⟩:∃Z,Z=wr.heap.size:=⟨_,rfl⟩
     rw[←hZ] at HZ3⊢
     clear hZ p0 p1 p2
     generalize wr.alloc (.cells #[.string ty,.int .i64 src,.int .i64 dst] 142)=W2 at HA3 HRO3 HZ3⊢
     have z0:=HZ3.out.at_ 0 (.string ty) rfl
     have z1:=HZ3.out.at_ 1 (.int .i64 src) rfl
     have z2:=HZ3.out.at_ 2 (.int .i64 dst) rfl
     have r0:=HRO3.out.at_ 0 (.string nm) rfl
     have r1:=HRO3.out.at_ 1 (.map (some rb)) rfl
     go_wp2_with fail
     refine(yH (x:=⟨ty,src,dst⟩) (HA3.out.qm HSO.out ⟨HSL.out,HSEL.out⟩) (HR.out.kept (af HA3.out.below none) (by simp)) HTY.out).mono ?_
     rintro e W3 ⟨rfl,hb⟩
     have HA4:=hid (HA3.out.later hb)
     have HRO4:=hid (HRO3.out.grown (af hb none) (by simp))
     have HZ4:=hid (HZ3.out.grown (af hb none) (by simp))
     clear hb z0 z1 z2 r0 r1 HA3 HRO3 HZ3
     have HNX:Hid ((es.take (k2+1)).filter (eM sn S)=(es.take k2).filter (eM sn S)++(if eM sn S ⟨ty,src,dst⟩ then [⟨ty,src,dst⟩] else [])):=hid (by
      rw[List.take_add_one,List.getElem?_eq_getElem hlt2,List.filter_append,HY.out]
      simp only[Option.toList_some]
      cases hh:eM sn S ⟨ty,src,dst⟩<;>simp[List.filter,hh])
     cases hs:eM sn S ⟨ty,src,dst⟩ with
     | false=>
      have HSF:=hid hs
      clear hs
      go_wp2_with fail
      go_roundg (gk - 1)
      case rel=>exact⟨k2+1,se,ve,by simp,by omega,by rw[HNX.out,HSF.out,HSEV.out];simp,HA4.out,HRO4.out⟩
      case measure=>omega
     | true=>
      have HST:=hid hs
      clear hs
      obtain⟨av,cv,hve⟩:=bB HA4.out.oe
      subst hve
      have z0:=HZ4.out.at_ 0 (.string ty) rfl
      have z1:=HZ4.out.at_ 1 (.int .i64 src) rfl
      have z2:=HZ4.out.at_ 2 (.int .i64 dst) rfl
      have s1:W3.cell? ⟨Y+1,1,none⟩=some (.slice av se.length cv):=(HA4.out.ls.cell 1).trans rfl
      have HD:=hid (HA4.out.later ((Below.refl _ _).alloc (Nat.le_refl _) (.cells #[.string ty,.int .i64 src,.int .i64 dst] 142))).drew
      have HROD:Hid (Loc ((W3.alloc (.cells #[.string ty,.int .i64 src,.int .i64 dst] 142)).drew) Y #[.string nm,.map (some rb)] 118):=hid (HRO4.out.alloc (.cells #[.string ty,.int .i64 src,.int .i64 dst] 142))
      have sa1:(W3.alloc (.cells #[.string ty,.int .i64 src,.int .i64 dst] 142)).cell? ⟨Y+1,1,none⟩=some (.slice av se.length cv):=(HD.out.ls.cell 1).trans rfl
      have hsl:=HSEL.out
      clear HA4 HRO4 HZ4
      go_upto_region 13 with fail
      go_region_law (go_must (refine step_append_lies _ rfl _ _ 124 rfl W.heap.size 142 i1 (.agg #[.string ⟨#[]⟩,.int .i64 0,.int .i64 0]) 3 32 Tryz.underlying124 hj hy0 hy1 hy2 rfl (by decide) (.slice av se.length cv) _ _ (by simp[Act.eval]) HD.out.oe ⟨W3.heap.size,0,none⟩ 1 1 [.string ty,.int .i64 src,.int .i64 dst] (by simp[Act.eval]) rfl (World.news_of_block (heap_alloc_new W3 _)) (zw ⟨ty,src,dst⟩) (by omega) (by unfold maxLen;omega) (by omega) HD.out.below.size _ rfl ?_);intro g2 cap2 w5 hown hgrow _ _;have HLW:=HD.out.ls.fs HD.out.oe hgrow (by decide);have c5:w5.cell? ⟨Y+1,1,none⟩=some (.slice av se.length cv):=(HLW.cell 1).trans rfl;have f5:w5.frozen? ⟨Y+1,1,none⟩=false:=HLW.free 1;have H5:=hid (HD.out.Kg (x:=⟨ty,src,dst⟩) hgrow hown);have HRO6:=hid ((HROD.out.fs HD.out.oe hgrow (by decide)).setOther (b':=Y+1) (by simp) 1 (.slice (some ⟨g2,0,none⟩) (se.length+1) cap2));clear HLW hown hgrow)
      all_goals
       go_wp2_with fail
       go_roundg (gk - 1)
       case rel=>exact⟨k2+1,_,_,by simp,by omega,by rw[HNX.out,HST.out,HSEV.out];rfl,H5.out,HRO6.out⟩
       case measure=>omega
    ·have hki2:¬(k2:Int)<(es.length:Int):=by omega
     have HE:Hid (se=es.filter (eM sn S)):=hid (by have:=HSEV.out;rwa [List.take_of_length_le (by omega)] at this)
     go_wp2_with fail
     go_ret
     exact⟨Y+1,rfl,HA2.out.ns,sn,HSV.out,by rw[←HE.out];exact HA2.out.qm HSO.out ⟨HSL.out,HSEL.out⟩,HA2.out.below,fun w hw=>by rw[←HE.out];exact HA2.out.by HSO.out ⟨HSL.out,HSEL.out⟩ hw⟩
end
end Go.Proofs.YtobgbmfpicmpcaaGreatDoor
