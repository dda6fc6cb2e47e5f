/- The law Confined, walked out of its callees' contracts. -/
import Derived.Test.YtobgbmfpicmpcaaGreatDoorDN04
import Derived.Test.YtobgbmfpicmpcaaGreatDoorC42
import Derived.Test.YtobgbmfpicmpcaaGreatDoorDN02
import Derived.Test.YtobgbmfpicmpcaaGreatDoorDN03
import Derived.Lib.Hide
set_option maxRecDepth 100000
set_option maxHeartbeats 8000000
namespace Go.Proofs.YtobgbmfpicmpcaaGreatDoor
open Go.Lib (hid)
section
open Go.RowKit Go.Maps Go.Sort
theorem zp {W0:World} {raw deeds:List Int} {texts:List ByteArray} {ao ad at_:Option Addr} {cp cd qag:Nat} {mx:Int} {ev:Value} (hs:bO W0 1 (.slice ao raw.length cp) raw.length (raw.flatMap kI)) (hraw:∀x∈raw,ux x) (hlen:raw.length≤9223372036854775807) (hsd:bO W0 1 (.slice ad deeds.length cd) deeds.length (deeds.flatMap kI)) (hdi:∀x∈deeds,ux x) (hdl:deeds.length≤9223372036854775807) (hst:bO W0 1 (.slice at_ texts.length qag) texts.length (strs texts)) (htx:∀x∈texts,x.size≤maxLen) (htl:texts.length≤9223372036854775807) (hm:W0.cell? ⟨1,0,none⟩=some (.int .i64 mx)) (ht:BG W0) (hge:W0.cell? ⟨5,0,none⟩=some ev) (hev:ev=.nilIface∨∃te pe,ev=.iface te pe):
  Calls Tryz.prog 9 #[.slice ao raw.length cp,.slice ad deeds.length cd,.slice at_ texts.length qag] W0 fun e W'=>e=.returned (.bool true)∧Below W0.heap.size W0 W':=by
 have HMD:=hid (Lo hs hraw hlen hm ht hge hev)
 have HT:Hid (∀w,Below W0.heap.size W0 w→BG w):=hid (fun w hb=>ht.below hb)
 have HGE:Hid (∀w,Below W0.heap.size W0 w→w.cell? ⟨5,0,none⟩=some ev):=hid (fun w hb=>(hb.cell (block_lt_of_cell hge)).trans hge)
 have HEV:=hid hev
 have HSD:=hid hsd
 have HDI:=hid hdi
 have HST:=hid hst
 have HTX:=hid htx
 clear hs hraw hlen hsd hdi hst htx hm ht hge hev
 go_enter Tryz.func9,Tryz.ntmps9
 go_wp2_with fail
 refine HMD.out.mono ?_
 rintro e W1 ⟨G,rfl,pol,cs,vn,ve,ns,es,last,m,hv,hok,hdi,her,h6,hm,hla,hb1⟩
 obtain⟨b1,b2,rfl⟩:=CL her
 have HC1:Hid (ki W0.heap.size G b1 b2 ns ns es 0 W0 W1):=hid ⟨cs,vn,ve,last,m,hv,hok,hdi,rfl,h6,by omega,by omega,hb1,hb1.size⟩
 have HD0:=hid hdi
 have HOT:=hid (tj hv.own (jc hok hdi) hdi (by omega) (HT.out _ hb1))
 clear hv hok her h6 hm hb1 HMD hdi hla
 go_wp2_with fail
 refine HOT.out.mono ?_
 rintro e W2 ⟨qah,ts0,rfl,hts0,hnt0,hrw,hb2⟩
 obtain⟨ww,wc,rfl⟩:=bB hrw
 have HWS:=hid hrw
 have HC2:=hid (HC1.out.later hb2)
 have HSLN:Hid ((bb (bs ns ts0 es)).length≤1000000):=hid (by
  obtain⟨_,_,_,_,_,_,hok,hdi,_⟩:=HC2.out
  have h1:=(jc hok hdi).rF
  unfold bb bs
  rw[List.length_map]
  refine Nat.le_trans (List.length_filter_le _ _) ?_
  rw[List.length_append,List.length_map,List.length_map,List.length_zip]
  omega)
 have HOX:Hid (∀k ns2 es2 w,ki W0.heap.size G b1 b2 ns ns2 es2 k W0 w→k≤21→Calls Tryz.prog 29 #[.pointer (some ⟨G,0,none⟩)] w fun e W'=>∃v,e=.returned v∧W'.ownsRow w.heap.size 9 1 v (bb (bs ns ts0 es)).length (strs (bb (bs ns ts0 es)))∧Below w.heap.size w W'):=hid (fun k ns2 es2 w hc hk=>hc.LB hk HT.out HD0.out hts0 hnt0)
 obtain⟨SL,hSL⟩:∃SL,bb (bs ns ts0 es)=SL:=⟨_,rfl⟩
 rw[hSL] at HWS HSLN HOX⊢
 clear hrw hb2 HOT HC1 hts0 hnt0 hSL
 go_wp2_with fail
 obtain⟨n,hn,hn1,hn2⟩:∃n,n=min deeds.length 20∧n≤deeds.length∧n≤20:=⟨_,rfl,by omega,by omega⟩
 have hlen2:(deeds.length:Int)≤9223372036854775807:=by omega
 have hlen3:(texts.length:Int)≤9223372036854775807:=by omega
 obtain⟨L1,hL1⟩:∃L1,W1.heap.size=L1:=⟨_,rfl⟩
 rw[hL1] at HWS
 clear hL1
 go_loopg [9] n (fun c iv w=>∃(k:Nat),iv=.int .i64 (k:Int)∧k+c=n∧(∃ns2 es2,ki W0.heap.size G b1 b2 ns ns2 es2 k W0 w)∧w.ownsRow L1 9 1 (.slice ww SL.length wc) SL.length (strs SL))
 case atStart=>exact⟨0,rfl,by omega,⟨_,_,HC2.out⟩,HWS.out⟩
 case round=>
  obtain⟨k,rfl,hk,⟨ns2,es2,hcf⟩,hrow⟩:=hrel
  have HCF:=hid hcf
  have HX:=hid hrow
  clear hcf hrow HC2 HWS
  by_cases hlt:k<n
  ·have hki:(k:Int)<(deeds.length:Int):=by omega
   have hk20:(k:Int)<20:=by omega
   have hkr:k<deeds.length:=by omega
   obtain⟨g,oo,hal,hcell⟩:=bY (l:=deeds) kI (fun _=>rfl) (HSD.out.below HCF.out.low) hkr
   have hc0:=hcell 0 (by decide)
   have hI:=HDI.out deeds[k] (List.getElem_mem hkr)
   obtain⟨y,hy⟩:∃y,deeds[k]=y:=⟨_,rfl⟩
   rw[hy] at hc0 hI
   subst hal
   have hcy:wr.cell? ⟨g,oo+k,none⟩=some (.int .i64 y):=by have h1:=hc0;rw[Nat.mul_one] at h1;exact h1
   have HYI:=hid hI
   have HSH:=hid (Ix hI (HT.out wr HCF.out.low))
   have HLW:Hid (oo+k<0∨∀w,Below wr.heap.size wr w→w.cell? ⟨g,oo+k,none⟩=some (.int .i64 y)):=hid (Or.inr (fun w hb=>(hb.cell (block_lt_of_cell hcy)).trans hcy))
   clear hc0 hcell hy hI
   go_wp2_with fail
   refine HSH.out.mono ?_
   rintro e W4 ⟨⟨tx,rfl,hts⟩,hb4⟩
   have hcy4:W4.cell? ⟨g,oo+k,none⟩=some (.int .i64 y):=HLW.out.elim (fun h=>absurd h (Nat.not_lt_zero _)) (fun h=>h W4 hb4)
   have HC4:=hid (HCF.out.later hb4)
   have HX4:=hid (a8 HX.out hb4)
   have HSZ:Hid (tx.size≤maxLen):=hid (by unfold maxLen;omega)
   clear hb4 HSH hts HX HCF hcy HLW
   have HRN:Hid (∀(t:ByteArray) (w:World),t.size≤maxLen→ki W0.heap.size G b1 b2 ns ns2 es2 k W0 w→Calls Tryz.prog 26 #[.pointer (some ⟨G,0,none⟩),.string fm,.string t,.int .i64 5000] w fun e W'=>∃v l er ns3 es3,e=.returned (.tuple #[v,.int .i64 er])∧W'.ownsRow w.heap.size 9 1 v l.length (strs l)∧ki W0.heap.size G b1 b2 ns ns3 es3 (k+1) W0 W'∧(er≠0→l=[]∧ns3.map de=ns2.map de∧es3=es2)∧Fo w W'):=hid (fun t w ht hc=>hc.run (by omega) ht HT.out HGE.out HEV.out)
   have HDM:=hid (HC4.out.Lw (by omega) HT.out)
   have hor:(k<texts.length∧pk (y.tdiv 64) 4=0)∨(k<texts.length∧¬pk (y.tdiv 64) 4=0)∨¬k<texts.length:=by
    by_cases h1:k<texts.length
    ·by_cases h2:pk (y.tdiv 64) 4=0
     ·exact Or.inl ⟨h1,h2⟩
     ·exact Or.inr (Or.inl ⟨h1,h2⟩)
    ·exact Or.inr (Or.inr h1)
   obtain⟨ty,HTY,HTC⟩:∃ty:ByteArray,Hid (ty.size≤maxLen)∧Hid (∀h:k<texts.length,texts[k]=ty):=by
    by_cases h1:k<texts.length
    ·exact⟨texts[k],hid (HTX.out _ (List.getElem_mem h1)),hid (fun _=>rfl)⟩
    ·exact⟨tx,HSZ,hid (fun h=>absurd h h1)⟩
   have HPK:=hid (vI (W:=W4) (c:=y.tdiv 64) (n:=4) (Ex HYI.out (by omega)) (by omega) (by omega))
   obtain⟨hy1,hy2⟩:=HYI.out
   rcases hor with ⟨htk,hpk⟩|⟨htk,hpk⟩|htk
   case' inl=>
    have htk2:(k:Int)<(texts.length:Int):=by omega
    obtain⟨g2,o2,hal2,hcell2⟩:=bY (l:=texts) (fun s=>[.string s]) (fun _=>rfl) (by have h1:=HST.out.below HC4.out.low;unfold strs at h1;rw[List.map_eq_flatMap] at h1;exact h1) htk
    have hc2:=hcell2 0 (by decide)
    subst hal2
    rw[HTC.out htk] at hc2
    have hct:W4.cell? ⟨g2,o2+k,none⟩=some (.string ty):=by have h1:=hc2;rw[Nat.mul_one] at h1;exact h1
    clear hc2 hcell2
    go_wp2_with fail
    refine HPK.out.mono ?_
    rintro e w1 ⟨rfl,hw1⟩
    obtain rfl:=hw1.symm
    rw[hpk]
    clear hpk hcy4 HPK hy1 hy2
    go_upto_region 11 with fail
   case' inr.inl=>
    have htk2:(k:Int)<(texts.length:Int):=by omega
    go_wp2_with fail
    refine HPK.out.mono ?_
    rintro e w1 ⟨rfl,hw1⟩
    obtain rfl:=hw1.symm
    clear hcy4
    generalize pk (y.tdiv 64) 4=z at hpk⊢
    clear HPK hy1 hy2
    go_upto_region 11 with fail
   case' inr.inr=>
    have htk2:¬(k:Int)<(texts.length:Int):=by omega
    clear hcy4 HPK hy1 hy2
    go_upto_region 11 with fail
   all_goals
    go_wp2_with fail
    refine HDM.out.mono ?_
    rintro e W5 ⟨v5,D1,rfl,hr5,hD5,hl5,hb5⟩
    obtain⟨p5,c5,rfl⟩:=bB hr5
    have HC5:=hid (HC4.out.later hb5)
    have HX5:=hid (a8 HX4.out hb5)
    have HR5:=hid hr5
    have HD5:=hid hD5
    have HL5:=hid hl5
    clear hr5 hD5 hl5 hb5 HC4 HX4 HDM
    go_wp2_with fail
    refine(HRN.out _ _ (by first|exact HTY.out|exact HSZ.out) HC5.out).mono ?_
    rintro e W6 ⟨v6,l6,er,ns3,es3,rfl,hr6,hc6,he6,hs6⟩
    obtain⟨p6,c6,rfl⟩:=bB hr6
    have HC6:=hid hc6
    have HE6:Hid (er≠0→ns3.map de=ns2.map de∧es3=es2):=hid (fun h=>(he6 h).2)
    have HLE:Hid (er≠0→l6.length=0):=hid (fun h=>by rw[(he6 h).1];rfl)
    have HX6:=hid (hs6 _ _ _ _ HX5.out)
    have HR6:=hid (hs6 _ _ _ _ HR5.out)
    have HDN:=hid (hc6.Lw (by omega) HT.out)
    clear hr6 hc6 he6 hs6 HX5 HR5 HRN HC5
    generalize l6.length=n6 at HLE⊢
    go_wp2_with fail
    refine HDN.out.mono ?_
    rintro e W7 ⟨v7,qai,rfl,hr7,hD7,hl7,hb7⟩
    obtain⟨qaj,c7,rfl⟩:=bB hr7
    have HC7:=hid (HC6.out.later hb7)
    have HX7:=hid (a8 HX6.out hb7)
    have HR7:=hid (a8 HR6.out hb7)
    have HS7:=hid (J5 (aP HR7.out HR7.out.1) (aP hr7 hr7.1) HL5.out)
    have HEQ:Hid (er≠0→zE D1 qai=true):=hid (fun hne=>by
     obtain⟨h2,h3⟩:=HE6.out hne
     subst h3
     exact decide_eq_true (gr.one HD5.out hD7 h2))
    clear hr7 hD7 hl7 hb7 HC6 HX6 HR6 HDN HE6 HD5 HL5 HR7
    generalize zE D1 qai=sm at HS7 HEQ
    go_wp2_with fail
    refine HS7.out.mono ?_
    rintro e W8 ⟨rfl,hb8⟩
    have HC8:=hid (HC7.out.later hb8)
    have HX8:=hid (a8 HX7.out hb8)
    have HO8:=hid (HOX.out (k+1) ns3 es3 W8 HC8.out (by omega))
    clear hb8 HC7 HX7 HS7
    go_wp2_with fail
    refine HO8.out.mono ?_
    rintro e W9 ⟨v9,rfl,hr9,hb9⟩
    obtain⟨p9,c9,rfl⟩:=bB hr9
    have HC9:=hid (HC8.out.later hb9)
    have HX9:=hid (a8 HX8.out hb9)
    have HS9:=hid (J5 (aP HX9.out HX9.out.1) (aP hr9 hr9.1) HSLN.out)
    have hsl:zE SL SL=true:=decide_eq_true rfl
    rw[hsl] at HS9
    clear hr9 hb9 HC8 HX8 HO8 hsl
    go_wp2_with fail
    refine HS9.out.mono ?_
    rintro e W10 ⟨rfl,hb10⟩
    have HC10:=hid (HC9.out.later hb10)
    have HX10:=hid (a8 HX9.out hb10)
    clear hb10 HC9 HX9 HS9
    by_cases her:er=0
    ·subst her
     clear HEQ HLE
     go_wp2_with fail
     go_roundg (gk - 1)
     case rel=>exact⟨k+1,by simp,by omega,⟨_,_,HC10.out⟩,HX10.out⟩
     case measure=>omega
    ·obtain rfl:=HEQ.out her
     obtain rfl:=HLE.out her
     clear HEQ HLE
     go_wp2_with fail
     go_roundg (gk - 1)
     case rel=>exact⟨k+1,by simp,by omega,⟨_,_,HC10.out⟩,HX10.out⟩
     case measure=>omega
  ·have HB:=hid HCF.out.low
   have hor:((k:Int)<(deeds.length:Int)∧¬(k:Int)<20)∨¬(k:Int)<(deeds.length:Int):=by omega
   rcases hor with ⟨hki,hk20⟩|hki
   all_goals
    clear hlt hn
    go_wp2_with fail
    go_ret
    exact⟨rfl,HB.out⟩
end
end Go.Proofs.YtobgbmfpicmpcaaGreatDoor
