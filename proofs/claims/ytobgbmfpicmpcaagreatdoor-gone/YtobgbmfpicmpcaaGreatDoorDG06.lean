/- The law Gone, walked out of its callees' contracts. -/
import Derived.Test.YtobgbmfpicmpcaaGreatDoorDG04
import Derived.Test.YtobgbmfpicmpcaaGreatDoorDG05
import Derived.Test.YtobgbmfpicmpcaaGreatDoorDG02
import Derived.Test.YtobgbmfpicmpcaaGreatDoorDG03
import Derived.Lib.Hide
set_option maxRecDepth 100000
set_option maxHeartbeats 8000000
namespace Go.Proofs.YtobgbmfpicmpcaaGreatDoor
open Go.Lib (hid)
section
open Go.RowKit Go.Maps Go.Sort
theorem F1 {a b:Int} (ha:oD a) (hb:oD b) (h:a≠b):((dB a).toList==(dB b).toList)=false:=by
 have h1:dB a≠dB b:=fun e=>by
  have h2:=Pure.BD ha
  have h3:=Pure.BD hb
  rw[e,h3] at h2
  injection h2 with _ _ h4
  exact h h4.symm
 rw[beq_eq_false_iff_ne]
 intro e
 apply h1
 rw[ByteArray.toList_eq,ByteArray.toList_eq] at e
 exact Pure.KD e
theorem F9:dB 0=⟨#[48]⟩:=by decide +kernel
theorem gone {W0:World} {raw:List Int} {ao:Option Addr} {cp:Nat} {mx:Int} {ev:Value} (hs:bO W0 1 (.slice ao raw.length cp) raw.length (raw.flatMap kI)) (hraw:∀x∈raw,ux x) (hlen:raw.length≤9223372036854775807) (hm:W0.cell? ⟨1,0,none⟩=some (.int .i64 mx)) (ht:BG W0) (hge:W0.cell? ⟨5,0,none⟩=some ev) (hev:ev=.nilIface∨∃te pe,ev=.iface te pe):
  Calls Tryz.prog 13 #[.slice ao raw.length cp] W0 fun e W'=>e=.returned (.bool true)∧Below W0.heap.size W0 W':=by
 have HMD:=hid (Mp hs hraw hlen hm ht hge hev)
 have HT:Hid (∀w,Below W0.heap.size W0 w→BG w):=hid (fun w hb=>ht.below hb)
 have HGE:Hid (∀w,Below W0.heap.size W0 w→w.cell? ⟨5,0,none⟩=some ev):=hid (fun w hb=>(hb.cell (block_lt_of_cell hge)).trans hge)
 have HEV:=hid hev
 have HSZ:Hid (MZ.size≤maxLen∧MQ.size≤maxLen∧MJ.size≤maxLen∧MV.size≤maxLen∧M0.size≤maxLen):=hid (by unfold maxLen;decide)
 have HI:Hid (ux 1∧ux 5000):=hid ⟨⟨by omega,by omega⟩,⟨by omega,by omega⟩⟩
 clear hs hraw hlen hm ht hge hev
 go_enter Tryz.func13,Tryz.ntmps13
 go_wp2_with fail
 refine HMD.out.mono ?_
 rintro e W1 ⟨G,rfl,pol,cs,vn,ve,ns,es,last,m,hv,hok,hdi,hnk,her,h6,hm,hla,hb1⟩
 obtain⟨b1,b2,rfl⟩:=CL her
 have HX1:Hid (qah W0.heap.size G b1 b2 ns es last 0 W0 W1):=hid ⟨cs,vn,ve,m,hv,hok,hdi,h6,by omega,by omega,hb1,hb1.size⟩
 have HNK:=hid hnk
 have HLA:Hid (0≤last∧last≤100):=hid ⟨hok.last.1,hla⟩
 clear hv hok hdi hnk her h6 hm hla hb1 HMD
 rcases ni (b1:=b1) (b2:=b2) (g:=⟨ns,es,last⟩) yi rfl Mw with ⟨_,hR⟩|⟨hl40,hR⟩
 ·have HR:=hid (HX1.out.run hR (by omega) HSZ.out.1 HI.out.1 HT.out HGE.out HEV.out)
  clear hR
  go_wp2_with fail
  refine HR.out.mono ?_
  rintro e W2 ⟨v2,ns2,rfl,_,_,hx2,_⟩
  have HB:=hid hx2.low
  clear hx2 HR
  go_wp2_with fail
  go_ret
  exact⟨rfl,HB.out⟩
 have HR:=hid (HX1.out.run hR (by omega) HSZ.out.1 HI.out.1 HT.out HGE.out HEV.out)
 have HN:=hid (xl (N:=last+1) HNK.out HX1.out.wh.1 (fun x hx=>by have:=HX1.out.wh.2.1 x hx;omega) hl40)
 clear hR hl40
 go_wp2_with fail
 refine HR.out.mono ?_
 rintro e W2 ⟨v2,ns2,rfl,hr2,hst2,hx2,_⟩
 try simp only at hst2 hx2
 have HRX2:=hid hr2
 have HX2:=hid hx2
 have HN2:Hid (bu ns2 (last+1)):=hid (HN.out.a8 hst2 hx2.wh.1)
 obtain⟨xg,xc,rfl,_⟩:=yy hr2
 clear hr2 hst2 hx2 HR HX1 HN
 obtain⟨P,hP0,hP1,hR2⟩:=MP (b1:=b1) (b2:=b2) (g:=⟨ns2,es,last+1⟩) HN2.out
 rcases hR2 with hR2|⟨h80,hR2⟩
 ·have HR:=hid (HX2.out.run hR2 (by omega) HSZ.out.2.1 HI.out.2 HT.out HGE.out HEV.out)
  clear hR2
  go_wp2_with fail
  refine HR.out.mono ?_
  rintro e W3 ⟨v3,ns3,rfl,_,_,hx3,_⟩
  have HB:=hid hx3.low
  clear hx3 HR
  go_wp2_with fail
  go_ret
  exact⟨rfl,HB.out⟩
 have HR:=hid (HX2.out.run hR2 (by omega) HSZ.out.2.1 HI.out.2 HT.out HGE.out HEV.out)
 have HPX:Hid (∃x∈es++P.map (fun p=>(⟨uB,p.1,p.2⟩:aJ)),x.type=uB∧x.src=last+1):=hid (by
  cases P with
  | nil=>exact absurd rfl hP0
  | cons p r=>exact⟨⟨uB,p.1,p.2⟩,List.mem_append.2 (Or.inr (List.mem_cons_self)),rfl,hP1 p List.mem_cons_self⟩)
 have HPL:Hid (((dB P.length).toList==(dB 0).toList)=false):=hid (F1 (by unfold oD;omega) (by unfold oD;omega) (by cases P with|nil=>exact absurd rfl hP0|cons p r=>simp;omega))
 clear hR2 hP0 hP1
 go_wp2_with fail
 refine HR.out.mono ?_
 rintro e W3 ⟨v3,ns3,rfl,hr3,hst3,hx3,hs3⟩
 try simp only at hst3 hx3
 have HX3:=hid hx3
 have HRX3:=hid (hs3 _ _ _ _ HRX2.out)
 have HRL3:=hid hr3
 have HN3:Hid (bu ns3 (last+1)):=hid (HN2.out.a8 hst3 hx3.wh.1)
 obtain⟨lg,lc,rfl,_⟩:=yy hr3
 clear hr3 hst3 hx3 hs3 HR HX2 HRX2 HN2
 rw[F9] at HPL
 generalize dB P.length=qai at HPL HRL3
 generalize es++P.map (fun p=>(⟨uB,p.1,p.2⟩:aJ))=es3 at HX3 HPX
 clear h80
 have HD:=hid (HX3.out.MO (by omega) HT.out)
 go_wp2_with fail
 refine HD.out.mono ?_
 rintro e W4 ⟨v4,D1,rfl,hr4,hD4,hl4,hb4⟩
 obtain⟨p4,c4,rfl⟩:=bB hr4
 have HX4:=hid (HX3.out.later hb4)
 have HRX4:=hid (aa HRX3.out hb4)
 have HRL4:=hid (aa HRL3.out hb4)
 have HRD4:=hid hr4
 have HDD:=hid hD4
 have HL4:=hid hl4
 clear hr4 hD4 hl4 hb4 HD HX3 HRX3 HRL3
 have HR5:=hid (HX4.out.run (MG (b1:=b1) (b2:=b2) (g:=⟨ns3,es3,last+1⟩) HN3.out HPX.out) (by omega) HSZ.out.2.2.1 HI.out.2 HT.out HGE.out HEV.out)
 go_wp2_with fail
 refine HR5.out.mono ?_
 rintro e W5 ⟨v5,ns5,rfl,_,hst5,hx5,hs5⟩
 try simp only at hst5 hx5
 have HX5:=hid hx5
 have HN5:Hid (bu ns5 (last+1)):=hid (HN3.out.a8 hst5 hx5.wh.1)
 have HST:=hid hst5
 have HRX5:=hid (hs5 _ _ _ _ HRX4.out)
 have HRL5:=hid (hs5 _ _ _ _ HRL4.out)
 have HRD5:=hid (hs5 _ _ _ _ HRD4.out)
 clear hst5 hx5 hs5 HR5 HX4 HRX4 HRL4 HRD4 HN3 HPX
 have HD:=hid (HX5.out.MO (by omega) HT.out)
 go_wp2_with fail
 refine HD.out.mono ?_
 rintro e W6 ⟨v6,qaj,rfl,hr6,hD6,hl6,hb6⟩
 obtain rfl:=ki.one HDD.out hD6 HST.out
 obtain⟨p6,c6,rfl⟩:=bB hr6
 have HX6:=hid (HX5.out.later hb6)
 have HRX6:=hid (aa HRX5.out hb6)
 have HRL6:=hid (aa HRL5.out hb6)
 have HRD6:=hid (aa HRD5.out hb6)
 have HRE6:=hid hr6
 clear hr6 hD6 hl6 hb6 HD HX5 HRX5 HRL5 HRD5 HDD HST
 have HR7:=hid (HX6.out.run (MM (b1:=b1) (b2:=b2) (g:=⟨ns5,es3,last+1⟩) HN5.out HX6.out.wh.2.2.2) (by omega) HSZ.out.2.2.1 HI.out.2 HT.out HGE.out HEV.out)
 go_wp2_with fail
 refine HR7.out.mono ?_
 rintro e W7 ⟨v7,ns7,rfl,hr7,hst7,hx7,hs7⟩
 try simp only at hst7 hx7
 have HX7:=hid hx7
 have HNK7:Hid (NK ns7):=hid ((sv HN5.out).1.a8 hst7)
 have HLN7:Hid (ns7.length<40):=hid (by
  have h1:=congrArg List.length hst7
  rw[List.length_map,List.length_map] at h1
  have h2:=(sv HN5.out).2
  omega)
 have HRX7:=hid (hs7 _ _ _ _ HRX6.out)
 have HRL7:=hid (hs7 _ _ _ _ HRL6.out)
 have HRD7:=hid (hs7 _ _ _ _ HRD6.out)
 have HRE7:=hid (hs7 _ _ _ _ HRE6.out)
 have HRN7:=hid hr7
 obtain⟨qak,nc,rfl,_⟩:=yy hr7
 clear hr7 hst7 hx7 hs7 HR7 HX6 HRX6 HRL6 HRD6 HRE6 HN5
 generalize es3.filter (fun x=>!(eN [last+1] x))=es7 at HX7
 have HR8:=hid (HX7.out.run (MS (b1:=b1) (b2:=b2) (g:=⟨ns7,es7,last+1⟩) HNK7.out HX7.out.wh.1 HX7.out.wh.2.2.1.n40 HX7.out.wh.2.2.1.GQ) (by omega) HSZ.out.2.2.2.1 HI.out.2 HT.out HGE.out HEV.out)
 go_wp2_with fail
 refine HR8.out.mono ?_
 rintro e W8 ⟨v8,ns8,rfl,hr8,hst8,hx8,hs8⟩
 try simp only at hst8 hx8
 have HX8:=hid hx8
 have HLN8:Hid (ns8.length<40):=hid (by
  have h1:=congrArg List.length hst8
  rw[List.length_map,List.length_map] at h1
  have h2:=HLN7.out
  omega)
 have HRX8:=hid (hs8 _ _ _ _ HRX7.out)
 have HRL8:=hid (hs8 _ _ _ _ HRL7.out)
 have HRD8:=hid (hs8 _ _ _ _ HRD7.out)
 have HRE8:=hid (hs8 _ _ _ _ HRE7.out)
 have HRN8:=hid (hs8 _ _ _ _ HRN7.out)
 have HRM8:=hid hr8
 obtain⟨qal,mc,rfl,_⟩:=yy hr8
 clear hr8 hst8 hx8 hs8 HR8 HX7 HRX7 HRL7 HRD7 HRE7 HRN7 HNK7 HLN7
 rcases ni (b1:=b1) (b2:=b2) (g:=⟨ns8,es7,last+1⟩) yl rfl Md with ⟨h40,_⟩|⟨_,hR9⟩
 ·exact absurd HLN8.out (by simp only at h40;omega)
 have HR9:=hid (HX8.out.run hR9 (by omega) HSZ.out.2.2.2.2 HI.out.1 HT.out HGE.out HEV.out)
 clear hR9
 go_wp2_with fail
 refine HR9.out.mono ?_
 rintro e W9 ⟨v9,ns9,rfl,hr9,_,hx9,hs9⟩
 have HB9:=hid hx9.low
 have HRX9:=hid (hs9 _ _ _ _ HRX8.out)
 have HRL9:=hid (hs9 _ _ _ _ HRL8.out)
 have HRD9:=hid (hs9 _ _ _ _ HRD8.out)
 have HRE9:=hid (hs9 _ _ _ _ HRE8.out)
 have HRN9:=hid (hs9 _ _ _ _ HRN8.out)
 have HRM9:=hid (hs9 _ _ _ _ HRM8.out)
 have HRY9:=hid hr9
 obtain⟨yg,yc,rfl,_⟩:=yy hr9
 clear hr9 hx9 hs9 HR9 HX8 HRX8 HRL8 HRD8 HRE8 HRN8 HRM8 HLN8
 have HXY:Hid (((dB (last+1)).toList==(dB (last+1+1)).toList)=false):=hid (F1 (by have:=HLA.out;unfold oD;omega) (by have:=HLA.out;unfold oD;omega) (by omega))
 try simp only at HRY9
 generalize dB (last+1)=qam at HXY HRX9
 generalize dB (last+1+1)=qan at HXY HRY9
 have HS:=hid (J5 (aP HRD9.out HRD9.out.1) (aP HRE9.out HRE9.out.1) HL4.out)
 have hsl:zE D1 D1=true:=decide_eq_true rfl
 rw[hsl] at HS
 clear hsl
 go_wp2_with fail
 refine HS.out.mono ?_
 rintro e W10 ⟨rfl,hb10⟩
 have HB10:=hid (HB9.out.trans (hb10.mono HB9.out.size))
 obtain⟨_,_,hX,cX⟩:=yy (aa HRX9.out hb10)
 obtain⟨_,_,hL,cL⟩:=yy (aa HRL9.out hb10)
 obtain⟨_,_,hN,qao⟩:=yy (aa HRN9.out hb10)
 obtain⟨_,_,hM,cM⟩:=yy (aa HRM9.out hb10)
 obtain⟨_,_,hY,cY⟩:=yy (aa HRY9.out hb10)
 injection hX with hX _ _
 injection hL with hL _ _
 injection hN with hN _ _
 injection hM with hM _ _
 injection hY with hY _ _
 injection hX with hX
 injection hL with hL
 injection hN with hN
 injection hM with hM
 injection hY with hY
 rw[←hX] at cX
 rw[←hL] at cL
 rw[←hN] at qao
 rw[←hM] at cM
 rw[←hY] at cY
 rw[Hs] at qao
 unfold Jq at qao
 have hxy:=HXY.out
 have hpl:=HPL.out
 have hz:(⟨#[48]⟩:ByteArray).toList=[48]:=by rw[ByteArray.toList_eq]
 rw[hz] at hpl
 have hpn:(qai=⟨#[48]⟩)=False:=eq_false (fun e=>by rw[e,hz] at hpl;exact absurd hpl (by decide))
 have hxn:(qam=qan)=False:=eq_false (fun e=>by rw[e] at hxy;simp at hxy)
 clear hX hL hN hM hY hb10 HS HB9 HRX9 HRL9 HRD9 HRE9 HRN9 HRM9 HRY9 HXY HPL
 clear HNK HLA HSZ HI HT HGE HEV HL4
 go_upto_region 17 with fail
 go_quiet (fail)
 go_wp2_with fail
 go_ret
 exact⟨rfl,by first|exact HB10.out.drewN _|exact⟨HB10.out.os,HB10.out.tape,HB10.out.output,HB10.out.size,HB10.out.block⟩⟩
end
end Go.Proofs.YtobgbmfpicmpcaaGreatDoor
