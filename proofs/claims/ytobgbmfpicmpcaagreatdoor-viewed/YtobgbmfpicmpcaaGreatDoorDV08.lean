/- The law Viewed, walked out of its callees' contracts. -/
import Derived.Test.YtobgbmfpicmpcaaGreatDoorDV07
import Derived.Test.YtobgbmfpicmpcaaGreatDoorC42
import Derived.Test.YtobgbmfpicmpcaaGreatDoorDV02
import Derived.Test.YtobgbmfpicmpcaaGreatDoorDV03
import Derived.Test.YtobgbmfpicmpcaaGreatDoorDV04
import Derived.Test.YtobgbmfpicmpcaaGreatDoorDV05
import Derived.Test.YtobgbmfpicmpcaaGreatDoorDV06
import Derived.Lib.Hide
set_option maxRecDepth 100000
set_option maxHeartbeats 8000000
namespace Go.Proofs.YtobgbmfpicmpcaaGreatDoor
open Go.Lib (hid)
section
open Go.RowKit Go.Maps Go.Sort
def LW:ByteArray:=⟨#[118]⟩
def Mx:ByteArray:=⟨#[119]⟩
def Mu:ByteArray:=⟨#[103,117,101,115,116,32,118]⟩
def Mm (n:ByteArray):au:=⟨6,[],[],[],0,false,0,0,n,e0,lD,e0,e0,e0,[]⟩
theorem F7 (n:ByteArray):eG (Mm n)=true:=by kernel_rfl
theorem lP {n t:ByteArray} (hn:bN n=true) (ht:(⟨(iy (cJ (Mm n))).toArray⟩:ByteArray)=t):parseText (fg t)=(Mm n,0):=by
 rw[←ht]
 exact tu (Or.inr (Or.inr (Or.inr (Or.inr (Or.inr ⟨hn,rfl⟩))))) (F7 n)
theorem LH:parseText (fg ⟨#[67,65,76,76,32,118]⟩)=(Mm LW,0):=lP (by decide +kernel) (by decide +kernel)
theorem LG:parseText (fg ⟨#[67,65,76,76,32,119]⟩)=(Mm Mx,0):=lP (by decide +kernel) (by decide +kernel)
theorem tV {q:au} (h:jk q) (hk:q.kind=1):nO q:=by
 rcases h with h|h|h|h|h|h
 ·exact h
 ·exact absurd hk (by rw[(qj h).2.1];decide)
 ·exact absurd hk (by rw[(ol h).2.1];decide)
 ·exact absurd hk (by rw[(og h).2.1];decide)
 ·exact absurd hk (by rw[(mQ h).1];decide)
 ·exact absurd hk (by rw[(wO h).1];decide)
theorem LL:SG (9,LW,⟨#[]⟩)=true:=by rw[FI];decide +kernel
theorem E1:bj LW=1:=by decide +kernel
theorem Ml:(LW.toList==Mx.toList)=false:=by rw[ByteArray.toList_eq,ByteArray.toList_eq];decide +kernel
theorem Mo:fm++⟨#[32]⟩++LW=Mu:=by decide +kernel
theorem u1 (c w i:Int):(br c w i).size≤maxLen:=by
 have h1:=Pure.wb (Pure.lz c w i)
 unfold br maxLen
 omega
theorem jn {D:Nat→Prop} {B:Nat} {W0 W w:World} (h:Below B W0 W) (hk:Kept D W w) (hB:B≤W.heap.size) (hD:∀b,D b→B≤b):Below B W0 w:=
 h.trans ⟨hk.os,hk.tape,hk.output,hk.size,fun b hb=>hk.block b (Nat.lt_of_lt_of_le hb hB) (fun e=>by have:=hD b e;omega)⟩
theorem L5 {W0:World} {raw:List Int} {ao:Option Addr} {cp:Nat} {mx:Int} {ev:Value} {c wh it bu cl:Int} (hs:bO W0 1 (.slice ao raw.length cp) raw.length (raw.flatMap kI)) (hraw:∀x∈raw,ux x) (hlen:raw.length≤9223372036854775807) (hc:ux c) (hw:ux wh) (hi:ux it) (hbu:ux bu) (hcl:ux cl) (hm:W0.cell? ⟨1,0,none⟩=some (.int .i64 mx)) (ht:BG W0) (hge:W0.cell? ⟨5,0,none⟩=some ev) (hev:ev=.nilIface∨∃te pe,ev=.iface te pe):
  Calls Tryz.prog 10 #[.slice ao raw.length cp,.int .i64 c,.int .i64 wh,.int .i64 it,.int .i64 bu,.int .i64 cl] W0 fun e W'=>e=.returned (.bool true)∧Below W0.heap.size W0 W':=by
 have HMD:=hid (Le hs hraw hlen hm ht hge hev)
 have HT:Hid (∀w,Below W0.heap.size W0 w→BG w):=hid (fun w hb=>ht.below hb)
 have HGE:Hid (∀w,Below W0.heap.size W0 w→w.cell? ⟨5,0,none⟩=some ev):=hid (fun w hb=>(hb.cell (block_lt_of_cell hge)).trans hge)
 have HEV:=hid hev
 have HC:=hid (And.intro hc (And.intro hw hi))
 have HBU:=hid hbu
 have HCL:=hid hcl
 have HPR:=hid (tu (Pure.lz c wh it) (Pure.yl c wh it))
 have HKD:=hid (Pure.ji c wh it).1
 have HGR:=hid (tV (Pure.lz c wh it) (Pure.ji c wh it).1)
 have HTS:=hid (u1 c wh it)
 clear hs hraw hlen hc hw hi hbu hcl hm ht hge hev
 go_enter Tryz.func10,Tryz.ntmps10
 go_wp2_with fail
 refine HMD.out.mono ?_
 rintro e W1 ⟨G,rfl,pol,cs,vn,ve,ns,es,last,m,hv,hok,her,h6,hm,_,hb1⟩
 obtain⟨b1,b2,rfl⟩:=CL her
 have HV1:=hid hv
 have HOK:=hid hok
 have HMM:Hid (6≤m∧m+7000<maxLen):=hid ⟨h6,by unfold maxLen;omega⟩
 have HFR:=hid (CW b1 b2)
 have HFG:=hid (AI b1 b2)
 have HB1:=hid hb1
 clear hv hok her h6 hm hb1 HMD
 go_wp2_with fail
 refine(Mh HC.out.1 HC.out.2.1 HC.out.2.2 (HT.out _ HB1.out)).mono ?_
 rintro e W2 ⟨rfl,hb2⟩
 have HV2:=hid (HV1.out.later hb2)
 have HB2:=hid (HB1.out.trans (hb2.mono HB1.out.size))
 clear hb2 HV1 HB1
 obtain⟨t,htt⟩:∃t,br c wh it=t:=⟨_,rfl⟩
 have htt2:(⟨(iy (cJ (od c wh it))).toArray⟩:ByteArray)=t:=htt
 rw[htt2] at HPR
 rw[htt] at HTS⊢
 clear htt htt2
 generalize od c wh it=q at HPR HKD HGR
 have HGL:Hid (W0.heap.size≤G):=hid (HV2.out.base G (Or.inl rfl))
 have HDE:=hid (LQ (nm:=LW) (role:=fH) HV2.out HTS.out HFR.out HPR.out HKD.out E1 (by decide) (fun w hb=>HGE.out w (HB2.out.trans (hb.mono HB2.out.size))) HEV.out)
 simp only at HDE
 unfold LW fH at HDE
 go_wp2_with fail
 refine HDE.out.mono ?_
 rintro e W3 ⟨rfl,V,vc,vs,vcn,vi,vpp,hl3,hv3,hr3,hk3⟩
 obtain⟨sa,sc,rfl⟩:=bB hr3.rs
 obtain⟨ca,cc,rfl⟩:=bB hr3.rc
 obtain⟨ia,ic,rfl⟩:=bB hr3.rt
 obtain⟨pa,pc,rfl⟩:=bB hr3.rp
 have HW3:=hid (LX (SV:=SR) HV2.out hk3 hl3 hv3 hr3 List.mem_cons_self 0)
 have HB3:=hid (jn HB2.out hk3 HB2.out.size (fun b hb=>by rw[hb];exact HGL.out))
 have HVO:Hid ((gA ⟨#[118]⟩ fH b1 q (.slice sa q.ai.length sc) (.slice ca q.conds.length cc) (.slice ia q.items.length ic) (.slice pa q.ay.length pc)).all (·.oneCell')=true):=hid (lg _ _ _ _)
 obtain⟨cs3,hcs3⟩:∃cs3,cs.setIfInBounds 4 (.slice (some ⟨V,0,none⟩) 1 vc)=cs3:=⟨_,rfl⟩
 have HW3':Hid (VW G [(fH,b1,SR),(fm,b2,SG)] cs3 vn ve ns es last m V vc ⟨#[118]⟩ fH b1 SR q (.slice sa q.ai.length sc) (.slice ca q.conds.length cc) (.slice ia q.items.length ic) (.slice pa q.ay.length pc) 0 (.slice none 0 0) [] W3):=hid (by rw[←hcs3];exact HW3.out)
 clear hl3 hv3 hr3 hk3 HDE HV2 HW3 hcs3
 have HD2:=hid (lC (role:=fm) HW3'.out HTS.out HFG.out HPR.out HKD.out E1 HVO.out (fun w hb=>HGE.out w (HB3.out.trans (hb.mono HB3.out.size))) HEV.out)
 unfold fm at HD2
 go_wp2_with fail
 refine HD2.out.mono ?_
 rintro e W4 ⟨rfl,hb4⟩
 have HW4:=hid (HW3'.out.later hb4)
 have HB4:=hid (HB3.out.trans (hb4.mono HB3.out.size))
 clear hb4 HD2 HW3' HB3
 have HRD:=hid (L3 (role:=fH) (budget:=bu) HW4.out HOK.out HMM.out HTS.out HFR.out HPR.out HKD.out HGR.out HBU.out (fun w hb=>HT.out w (HB4.out.trans (hb.mono HB4.out.size))) (fun w hb=>HGE.out w (HB4.out.trans (hb.mono HB4.out.size))) HEV.out)
 simp only at HRD
 have HLN:Hid ((Ap SR ns es q bu).1.length≤1000000):=hid (by have:=oi (ns:=gq SR ns) (es:=jS SR ns es) (q:=q) (yP bu);unfold Ap;omega)
 obtain⟨RA,hRA⟩:∃RA,Ap SR ns es q bu=RA:=⟨_,rfl⟩
 have HRQ:=hid hRA
 rw[hRA] at HRD HLN
 clear hRA
 obtain⟨la,ea⟩:=RA
 simp only at HRD HLN
 have hrB:fH=⟨#[114,111,111,116]⟩:=rfl
 rw[hrB] at HRD
 clear hrB
 go_wp2_with fail
 refine HRD.out.mono ?_
 rintro e W5 ⟨⟨va,rfl,hra⟩,hb5⟩
 obtain⟨qag,wc,rfl⟩:=bB hra
 have HXA:=hid hra
 have HW5:=hid ((HW4.out.later hb5).L2 W5.heap.size)
 have HB5:=hid (HB4.out.trans (hb5.mono HB4.out.size))
 have HXL:Hid (∀g,(Value.slice qag la.length wc).ownBlock=some g→g<W5.heap.size):=hid (fun g hg=>(hra.lt g hg).2)
 obtain⟨K,hK⟩:∃K,W5.heap.size=K:=⟨_,rfl⟩
 obtain⟨L4,hL4⟩:∃L4,W4.heap.size=L4:=⟨_,rfl⟩
 have HKB:Hid (W0.heap.size≤K):=hid (by rw[←hK];exact HB5.out.size)
 have HKK:Hid (K≤W5.heap.size):=hid (by rw[hK];exact Nat.le_refl _)
 rw[hK] at HW5 HXL
 rw[hL4] at HXA
 clear hra hb5 HRD HW4 HB4 hK hL4
 go_wp2_with fail
 refine(vI HCL.out (by omega) (by omega)).mono ?_
 rintro e w1 ⟨rfl,hw1⟩
 obtain rfl:=hw1.symm
 have hp0:=ma (c:=cl) (n:=5) (by omega)
 have hp1:=zb (c:=cl) (n:=5) (by omega)
 obtain⟨n,hn⟩:∃n:Nat,1+pk cl 5=(n:Int):=⟨(1+pk cl 5).toNat,by omega⟩
 have hn1:1≤n:=by omega
 have hn5:n≤5:=by omega
 generalize pk cl 5=pp at hp0 hp1 hn⊢
 go_wp2_with fail
 clear hn hp0 hp1
 have HCS:Hid (fm=⟨#[103,117,101,115,116]⟩):=hid rfl
 go_loopg [20] n (fun c iv w=>∃(k:Nat) (cs':Array Value) (va':Value),iv=.int .i64 (k:Int)∧k+c=n∧VW G [(fH,b1,SR),(fm,b2,SG)] cs' vn ve ns es last m V vc ⟨#[118]⟩ fH b1 SR q (.slice sa q.ai.length sc) (.slice ca q.conds.length cc) (.slice ia q.items.length ic) (.slice pa q.ay.length pc) K va' (List.replicate k Mu) w∧w.ownsRow L4 9 1 (.slice qag la.length wc) la.length (strs la)∧Below W0.heap.size W0 w∧K≤w.heap.size)
 case atStart=>exact⟨0,cs3,.slice none 0 0,rfl,by omega,HW5.out,HXA.out,HB5.out,HKK.out⟩
 case round=>
  obtain⟨k,cs',va',rfl,hk,hvw,hrow,hbw,hkw⟩:=hrel
  have HVW:=hid hvw
  have HX:=hid hrow
  have HB:=hid hbw
  have HKW:=hid hkw
  clear hvw hrow hbw hkw HW5 HXA HB5 HKK
  by_cases hlt:k<n
  ·have hki:(k:Int)<(n:Int):=by omega
   have hlow:∀b,qad G va' b→W0.heap.size≤b:=fun b hb=>hb.elim (fun e=>by rw[e];exact HGL.out) (fun e=>Nat.le_trans HKB.out (HVW.out.aud.lt b e).1)
   have HLO:=hid hlow
   have HRN:=hid (F9 (role:=fm) (text:=⟨#[67,65,76,76,32,118]⟩) (budget:=bu) HVW.out HOK.out HMM.out (by unfold maxLen;decide) HFG.out LH rfl rfl LL HGR.out HBU.out ⟨(show fm.size≤1000 by decide),by decide⟩ (by rw[List.length_replicate];omega) HKW.out (fun w hw=>HT.out w (jn HB.out hw HB.out.size HLO.out)) (fun w hb=>HGE.out w (HB.out.trans (hb.mono HB.out.size))) HEV.out)
   rw[HRQ.out] at HRN
   simp only at HRN
   rw[HCS.out] at HRN
   clear hlow
   go_wp2_with fail
   refine HRN.out.mono ?_
   rintro e W6 ⟨v6,va6,rfl,hr6,hvw6,hk6⟩
   obtain⟨xa,xc,rfl⟩:=bB hr6
   have HX6:=hid (tR HX.out (fun g hg=>hk6.block g (HX.out.lt g hg).2 (fun e=>e.elim (fun e=>aQ HX.out HVW.out.own.bZ (by decide) (by rw[hg,e])) (fun e=>by have h1:=(HVW.out.aud.lt g e).1;have h2:=HXL.out g hg;omega))))
   have HR6:=hid hr6
   have HV6:=hid hvw6
   have HB6:=hid (jn HB.out hk6 HB.out.size HLO.out)
   have HK6:=hid (Nat.le_trans HKW.out hk6.size)
   clear hr6 hvw6 hk6 HRN HX HVW HB HKW HLO
   have HS1:=hid (J5 (aP HR6.out HR6.out.1) (aP HX6.out HX6.out.1) HLN.out)
   go_wp2_with fail
   refine HS1.out.mono ?_
   rintro e W7 ⟨rfl,hb7⟩
   have hsl:zE la la=true:=decide_eq_true rfl
   rw[hsl]
   have HV7:Hid (VW G [(fH,b1,SR),(fm,b2,SG)] (cs'.setIfInBounds 5 va6) vn ve ns es last m V vc ⟨#[118]⟩ fH b1 SR q (.slice sa q.ai.length sc) (.slice ca q.conds.length cc) (.slice ia q.items.length ic) (.slice pa q.ay.length pc) K va6 (List.replicate (k+1) Mu) W7):=hid (by
    have h1:=HV6.out.later hb7
    rw[List.replicate_succ',←Mo]
    exact h1)
   have HX7:=hid (fY HX6.out hb7)
   have HB7:=hid (HB6.out.trans (hb7.mono HB6.out.size))
   have HK7:=hid (Nat.le_trans HK6.out hb7.size)
   clear hb7 hsl HS1 HX6 HV6 HB6 HK6 HR6
   go_wp2_with fail
   go_roundg (gk - 1)
   case rel=>exact⟨k+1,_,va6,by simp,by omega,HV7.out,HX7.out,HB7.out,HK7.out⟩
   case measure=>omega
  ·have hki:¬(k:Int)<(n:Int):=by omega
   obtain rfl:k=n:=by omega
   have HRM:=hid (Lt (role:=fm) (text:=⟨#[67,65,76,76,32,119]⟩) (budget:=bu) HVW.out (by unfold maxLen;decide) HFG.out LG rfl HVO.out Ml HBU.out (fun w hb=>HGE.out w (HB.out.trans (hb.mono HB.out.size))) HEV.out)
   rw[HCS.out] at HRM
   clear hlt
   go_wp2_with fail
   refine HRM.out.mono ?_
   rintro e W6 ⟨rfl,hb6⟩
   have HB6:=hid (HB.out.trans (hb6.mono HB.out.size))
   have HAU:=hid (Mj (HVW.out.later hb6) (by rw[List.length_replicate];omega) (by rw[List.length_replicate];omega))
   clear hb6 HRM HVW HX HB HKW
   go_wp2_with fail
   refine HAU.out.mono ?_
   rintro e W7 ⟨v7,rfl,hr7,hb7⟩
   have HB7:=hid (HB6.out.trans (hb7.mono HB6.out.size))
   obtain⟨xa,xc,rfl⟩:=bB hr7
   have HSE:=hid (aP hr7 hr7.1)
   rw[List.length_replicate] at HSE⊢
   clear hr7 hb7 HAU HB6
   go_wp2_with fail
   go_loopg [27] k (fun c iv w=>∃(j:Nat),iv=.int .i64 (j:Int)∧j+c=k∧w=W7)
   case atStart=>exact⟨0,rfl,by omega,rfl⟩
   case round=>
    obtain⟨j,rfl,hj,rfl⟩:=hrel
    by_cases hjk:j<k
    ·have hji:(j:Int)<(k:Int):=by omega
     obtain⟨g,oo,hal,hcell⟩:=bY (l:=List.replicate k Mu) (fun s=>[.string s]) (fun _=>rfl) (by rw[List.length_replicate];have h1:=HSE.out;unfold strs at h1;rw[List.map_eq_flatMap] at h1;exact h1) (i:=j) (by rw[List.length_replicate];exact hjk)
     have hc0:=hcell 0 (by decide)
     subst hal
     have hcy:wr.cell? ⟨g,oo+j,none⟩=some (.string ⟨#[103,117,101,115,116,32,118]⟩):=by have h1:=hc0;rw[Nat.mul_one,List.getElem_replicate] at h1;exact h1
     clear hc0 hcell
     go_wp2_with fail
     go_roundg (gk - 1)
     case rel=>exact⟨j+1,by simp,by omega,rfl⟩
     case measure=>omega
    ·have hji:¬(j:Int)<(k:Int):=by omega
     go_wp2_with fail
     go_ret
     exact⟨rfl,HB7.out⟩
end
end Go.Proofs.YtobgbmfpicmpcaaGreatDoor
