/- The law Blind, walked out of its callees' contracts. -/
import Derived.Test.YtobgbmfpicmpcaaGreatDoorC42
import Derived.Test.YtobgbmfpicmpcaaGreatDoorDB04
import Derived.Test.YtobgbmfpicmpcaaGreatDoorDB02
import Derived.Test.YtobgbmfpicmpcaaGreatDoorDB03
import Derived.Lib.Hide
set_option maxRecDepth 100000
set_option maxHeartbeats 8000000
namespace Go.Proofs.YtobgbmfpicmpcaaGreatDoor
open Go.Lib (hid)
section
open Go.RowKit Go.Maps Go.Sort
theorem krText_fits (c w i:Int):(krText c w i).size≤maxLen:=by
 have h1:=Pure.wb (Pure.kr_good c w i)
 unfold krText maxLen
 omega
theorem hkText_fits (c:Int):(hkText c).size≤maxLen:=by
 have h1:=Pure.wb (Pure.hk_good c)
 unfold hkText maxLen
 omega
theorem hid_run {b1 b2:Nat} {g:oJ} (hs:g.ns.Pairwise (fun a b=>a.num<b.num)) (c b:Int):SameFor SG g (lK [(fH,b1,SR),(fm,b2,SG)] g fH (hkText c) b).2:=by
 have hp:parseText (fg (hkText c))=(hkQ c,0):=tu (Pure.hk_good c) (Pure.hk_scope c)
 unfold lK
 rw[CW,hp]
 simp only[if_pos]
 unfold uq
 rw[if_neg (hk_kind c).1,if_neg (hk_kind c).2]
 exact hid_dn hs c
def BS (B G b1 b2:Nat) (ns:List aq) (es:List aJ) (k:Nat) (W0 W:World):Prop:=
 ∃cs vn ve ns' es' last m,VG B G [(fH,b1,SR),(fm,b2,SG)] cs vn ve ns' es' last m W∧gq SG ns'=gq SG ns∧jS SG ns' es'=jS SG ns es∧qG ⟨ns',es',last⟩∧6≤m∧m≤410000+k*7010∧last≤100+k∧Below B W0 W∧B≤W.heap.size
variable {B G b1 b2 k:Nat} {ns:List aq} {es:List aJ} {W0 W w:World}
theorem BS.later (h:BS B G b1 b2 ns es k W0 W) (hb:Below W.heap.size W w):BS B G b1 b2 ns es k W0 w:=by
 obtain⟨cs,vn,ve,ns',es',last,m,hv,hs,he,hok,h6,hm,hl,hbw,hB⟩:=h
 exact⟨cs,vn,ve,ns',es',last,m,hv.later hb,hs,he,hok,h6,hm,hl,hbw.trans (hb.mono hB),Nat.le_trans hB hb.size⟩
theorem hidRun {c:Int} {ev:Value} (h:BS B G b1 b2 ns es k W0 W) (hk:k≤1000) (ht:∀w,Below B W0 w→BG w) (hge:∀w,Below B W0 w→w.cell? ⟨5,0,none⟩=some ev) (hev:ev=.nilIface∨∃te pe,ev=.iface te pe):
  Calls Tryz.prog 26 #[.pointer (some ⟨G,0,none⟩),.string fH,.string (hkText c),.int .i64 5000] W fun e W'=>(∃v er,e=.returned (.tuple #[v,.int .i64 er]))∧BS B G b1 b2 ns es (k+1) W0 W'∧Fo W W':=by
 obtain⟨cs,vn,ve,ns',es',last,m,hv,hs,he,hok,h6,hm,hl,hbw,hB⟩:=h
 have hr:=Iz (role:=fH) (text:=hkText c) (budget:=5000) hv hok (by unfold maxLen;omega) hB (hkText_fits c) ⟨by omega,by omega⟩ (fun w hw=>ht w (hbw.trans hw)) (fun w hw=>hge w (hbw.trans hw)) hev
 have hro:=BE (pol:=[(fH,b1,SR),(fm,b2,SG)]) (role:=fH) (text:=hkText c) (b:=5000) hok (by simp only;omega)
 have hsf:=hid_run (b1:=b1) (b2:=b2) (g:=⟨ns',es',last⟩) hv.own.gh c 5000
 generalize lK [(fH,b1,SR),(fm,b2,SG)] ⟨ns',es',last⟩ fH (hkText c) 5000=R at hr hro hsf
 refine hr.mono ?_
 rintro e W' ⟨⟨v,rfl,_⟩,ns2,cs2,vn2,ve2,m2,hst2,hv2,hm2,hk2⟩
 refine⟨⟨v,_,rfl⟩,⟨cs2,vn2,ve2,ns2,R.2.es,R.2.last,m2+6,hv2.more (Nat.le_add_right _ _),?_,?_,qG.de (ns:=R.2.ns) hro.1 hst2,by omega,by omega,by have:=hro.2;simp only at this;omega,hbw.trans (hv.under hk2 hB),Nat.le_trans hB hk2.size⟩,fun Bx v n xs hrow=>hv.row hrow (by decide) (by decide) (by decide) hk2⟩
 ·rw[←kV SG ns2,hst2,kV,hsf.1];exact hs
 ·rw[←rf SG ns2,hst2,rf,hsf.2];exact he
theorem GS.blind {last:Int} (h:GS B G b1 b2 ns es last 1 W0 W) (hl:last≤100):BS B G b1 b2 ns es 0 W0 W:=by
 obtain⟨cs,vn,ve,ns',m,hv,hs,hok,h6,hm,hbw,hB⟩:=h
 refine⟨cs,vn,ve,ns',es,last,m,hv,?_,?_,hok,h6,by omega,by omega,hbw,hB⟩
 ·rw[←kV SG ns',hs,kV]
 ·rw[←rf SG ns',hs,rf]
theorem BS.seen (h:BS B G b1 b2 ns es k W0 W) (hk:k≤30):∃ns' es' last,GS B G b1 b2 ns' es' last 40 W0 W∧∀q b,Ap SG ns' es' q b=Ap SG ns es q b:=by
 obtain⟨cs,vn,ve,ns',es',last,m,hv,hs,he,hok,h6,hm,hl,hbw,hB⟩:=h
 refine⟨ns',es',last,⟨cs,vn,ve,ns',m,hv,rfl,hok,h6,by omega,hbw,hB⟩,fun q b=>?_⟩
 unfold Ap
 rw[hs,he]
theorem row_below {W w:World} {Bx n:Nat} {v:Value} {xs:List Value} (h:W.ownsRow Bx 9 1 v n xs) (hb:Below W.heap.size W w):w.ownsRow Bx 9 1 v n xs:=h.kept (af hb none) (by cases v.ownBlock<;>simp)
theorem BS.low (h:BS B G b1 b2 ns es k W0 W):Below B W0 W:=by
 obtain⟨_,_,_,_,_,_,_,_,_,_,_,_,_,_,h,_⟩:=h
 exact h
theorem GS.low {last:Int} (h:GS B G b1 b2 ns es last k W0 W):Below B W0 W:=by
 obtain⟨_,_,_,_,_,_,_,_,_,_,h,_⟩:=h
 exact h
theorem blind {W0:World} {raw deeds:List Int} {ao ad:Option Addr} {cp cd:Nat} {mx:Int} {ev:Value} {c wh it bu:Int} (hs:bO W0 1 (.slice ao raw.length cp) raw.length (raw.flatMap kI)) (hraw:∀x∈raw,ux x) (hlen:raw.length≤9223372036854775807) (hsd:bO W0 1 (.slice ad deeds.length cd) deeds.length (deeds.flatMap kI)) (hdi:∀x∈deeds,ux x) (hdl:deeds.length≤9223372036854775807) (hc:ux c) (hw:ux wh) (hi:ux it) (hbu:ux bu) (hm:W0.cell? ⟨1,0,none⟩=some (.int .i64 mx)) (ht:BG W0) (hge:W0.cell? ⟨5,0,none⟩=some ev) (hev:ev=.nilIface∨∃te pe,ev=.iface te pe):
  Calls Tryz.prog 8 #[.slice ao raw.length cp,.slice ad deeds.length cd,.int .i64 c,.int .i64 wh,.int .i64 it,.int .i64 bu] W0 fun e W'=>e=.returned (.bool true)∧Below W0.heap.size W0 W':=by
 have HMD:=hid (Le hs hraw hlen hm ht hge hev)
 have HT:Hid (∀w,Below W0.heap.size W0 w→BG w):=hid (fun w hb=>ht.below hb)
 have HGE:Hid (∀w,Below W0.heap.size W0 w→w.cell? ⟨5,0,none⟩=some ev):=hid (fun w hb=>(hb.cell (block_lt_of_cell hge)).trans hge)
 have HEV:=hid hev
 have HC:=hid (And.intro hc (And.intro hw hi))
 have HBU:=hid hbu
 have HSD:=hid hsd
 have HDI:=hid hdi
 have HPR:=hid (tu (Pure.kr_good c wh it) (Pure.kr_scope c wh it))
 have HKD:=hid (Pure.kr_parts c wh it).1
 have HTS:=hid (krText_fits c wh it)
 clear hs hraw hlen hsd hdi hc hw hi hbu hm ht hge hev
 go_enter Tryz.func8,Tryz.ntmps8
 go_wp2_with fail
 refine HMD.out.mono ?_
 rintro e W1 ⟨G,rfl,pol,cs,vn,ve,ns,es,last,m,hv,hok,her,h6,hm,hla,hb1⟩
 obtain⟨b1,b2,rfl⟩:=CL her
 have HG1:Hid (GS W0.heap.size G b1 b2 ns es last 0 W0 W1):=hid ⟨cs,vn,ve,ns,m,hv,rfl,hok,h6,by omega,hb1,hb1.size⟩
 have HFG:=hid (AI b1 b2)
 have HB1:=hid hb1
 have HLA:=hid hla
 clear hv hok her h6 hm hb1 HMD hla
 go_wp2_with fail
 refine(read_K HC.out.1 HC.out.2.1 HC.out.2.2 (HT.out _ HB1.out)).mono ?_
 rintro e W2 ⟨rfl,hb2⟩
 have HG2:=hid (HG1.out.later hb2)
 clear hb2 HG1 HB1
 obtain⟨t,htt⟩:∃t,krText c wh it=t:=⟨_,rfl⟩
 have htt2:(⟨(iy (cJ (krQ c wh it))).toArray⟩:ByteArray)=t:=htt
 rw[htt2] at HPR
 rw[htt] at HTS⊢
 clear htt htt2
 generalize krQ c wh it=q at HPR HKD
 have HRA:=hid (KQ (budget:=bu) HG2.out (by omega) HFG.out HPR.out HKD.out HTS.out HBU.out HT.out HGE.out HEV.out)
 simp only at HRA
 go_wp2_with fail
 refine HRA.out.mono ?_
 rintro e W3 ⟨⟨va,rfl,hra⟩,hg3,_⟩
 have HXA:=hid hra
 have HBS:=hid (hg3.blind HLA.out)
 have HLN:Hid ((Ap SG ns es q bu).1.length≤1000000):=hid (by have:=answer_len (ns:=gq SG ns) (es:=jS SG ns es) (q:=q) (yP bu);unfold Ap;omega)
 obtain⟨RA,hRA⟩:∃RA,Ap SG ns es q bu=RA:=⟨_,rfl⟩
 have HRQ:=hid hRA
 rw[hRA] at HXA HLN⊢
 clear hra hg3 HRA HG2 hRA
 obtain⟨la,ea⟩:=RA
 simp only at HXA HLN⊢
 obtain⟨aa,ac,rfl⟩:=bB HXA.out
 go_wp2_with fail
 obtain⟨n,hn,hn1,hn2⟩:∃n,n=min deeds.length 30∧n≤deeds.length∧n≤30:=⟨_,rfl,by omega,by omega⟩
 have hlen2:(deeds.length:Int)≤9223372036854775807:=by omega
 go_loopg [17] n (fun c iv w=>∃(k:Nat),iv=.int .i64 (k:Int)∧k+c=n∧BS W0.heap.size G b1 b2 ns es k W0 w∧w.ownsRow W2.heap.size 9 1 (.slice aa la.length ac) la.length (strs la))
 case atStart=>exact⟨0,rfl,by omega,HBS.out,HXA.out⟩
 case round=>
  obtain⟨k,rfl,hk,hbs,hrow⟩:=hrel
  have HB:=hid hbs
  have HX:=hid hrow
  clear hbs hrow HBS HXA
  by_cases hlt:k<n
  ·have hki:(k:Int)<(deeds.length:Int):=by omega
   have hk30:(k:Int)<30:=by omega
   have hkr:k<deeds.length:=by omega
   obtain⟨g,oo,hal,hcell⟩:=bY (l:=deeds) kI (fun _=>rfl) (HSD.out.below HB.out.low) hkr
   have hc0:=hcell 0 (by decide)
   have hI:=HDI.out deeds[k] (List.getElem_mem hkr)
   obtain⟨y,hy⟩:∃y,deeds[k]=y:=⟨_,rfl⟩
   rw[hy] at hc0 hI
   subst hal
   have hcy:wr.cell? ⟨g,oo+k,none⟩=some (.int .i64 y):=by have h1:=hc0;rw[Nat.mul_one] at h1;exact h1
   have HSH:=hid (hidden_K hI (HT.out wr HB.out.low))
   clear hc0 hcell hy hI
   go_wp2_with fail
   refine HSH.out.mono ?_
   rintro e W4 ⟨rfl,hb4⟩
   have HX4:=hid (row_below HX.out hb4)
   have HRN:=hid (hidRun (c:=y) (HB.out.later hb4) (by omega) HT.out HGE.out HEV.out)
   clear hb4 HSH hcy
   go_wp2_with fail
   refine HRN.out.mono ?_
   rintro e W5 ⟨⟨v5,er5,rfl⟩,hb5,hst5⟩
   have HB5:=hid hb5
   have HX5:=hid (hst5 _ _ _ _ HX4.out)
   clear hb5 hst5 HRN HX4
   go_wp2_with fail
   go_roundg (gk - 1)
   case rel=>exact⟨k+1,by simp,by omega,HB5.out,HX5.out⟩
   case measure=>omega
  ·obtain⟨ns',es',last',hgs,hans⟩:=HB.out.seen (by omega)
   have HRB:=hid (KQ (budget:=bu) hgs (by omega) HFG.out HPR.out HKD.out HTS.out HBU.out HT.out HGE.out HEV.out)
   simp only at HRB
   rw[hans q bu,HRQ.out] at HRB
   clear hgs hans
   have hor:((k:Int)<(deeds.length:Int)∧¬(k:Int)<30)∨¬(k:Int)<(deeds.length:Int):=by omega
   rcases hor with ⟨hki,hk30⟩|hki
   all_goals
    clear hlt hn
    go_wp2_with fail
    refine HRB.out.mono ?_
    rintro e W6 ⟨⟨vb,rfl,hrb⟩,hg6,hst6⟩
    have HXB:=hid hrb
    have HX6:=hid (hst6 _ _ _ _ HX.out)
    have HB6:=hid hg6.low
    clear hrb hst6 hg6 HRB
    obtain⟨ba,bc,rfl⟩:=bB HXB.out
    have HS1:=hid (J5 (aP HX6.out HX6.out.1) (aP HXB.out HXB.out.1) HLN.out)
    go_wp2_with fail
    refine HS1.out.mono ?_
    rintro e W7 ⟨rfl,hb7⟩
    have HB7:=hid (HB6.out.trans (hb7.mono HB6.out.size))
    have hsl:zE la la=true:=decide_eq_true rfl
    rw[hsl]
    clear hb7 hsl HS1 HX6 HXB
    go_wp2_with fail
    go_ret
    exact⟨rfl,HB7.out⟩
end
end Go.Proofs.YtobgbmfpicmpcaaGreatDoor
