/- The law Paid, walked out of its callees' contracts. -/
import Derived.Test.YtobgbmfpicmpcaaGreatDoorC42
import Derived.Test.YtobgbmfpicmpcaaGreatDoorDP04
import Derived.Test.YtobgbmfpicmpcaaGreatDoorDP02
import Derived.Test.YtobgbmfpicmpcaaGreatDoorDP03
import Derived.Lib.Hide
set_option maxRecDepth 100000
set_option maxHeartbeats 8000000
namespace Go.Proofs.YtobgbmfpicmpcaaGreatDoor
open Go.Lib (hid)
section
open Go.RowKit Go.Maps Go.Sort
theorem krText_small (c w i:Int):(krText c w i).size≤maxLen:=by
 have h1:=Pure.wb (Pure.kr_good c w i)
 unfold krText maxLen
 omega
theorem budG_of {b:Int} (h:0≤b∧b≤5000):uj b=b:=by unfold uj;omega
theorem ansK_two {S:aI→Bool} {ns:List aq} {es:List aJ} {q:au} {b:Int}:(Ap S ns es q b).2=0∨Ap S ns es q b=([],6):=answerP_no
theorem ansK_more {S:aI→Bool} {ns:List aq} {es:List aJ} {q:au} {a b:Int} (h0:0≤a) (hab:a≤b) (h5:b≤5000) (h:(Ap S ns es q a).2=0):Ap S ns es q b=Ap S ns es q a:=by
 unfold Ap at h⊢
 rw[budG_of ⟨h0,by omega⟩] at h⊢
 rw[budG_of ⟨by omega,h5⟩]
 exact answerP_more h0 hab h
theorem paid {W0:World} {raw:List Int} {ao:Option Addr} {cp:Nat} {mx:Int} {ev:Value} {c wh it small great:Int} (hs:bO W0 1 (.slice ao raw.length cp) raw.length (raw.flatMap kI)) (hraw:∀x∈raw,ux x) (hlen:raw.length≤9223372036854775807) (hc:ux c) (hw:ux wh) (hi:ux it) (hsm:ux small) (hgr:ux great) (hm:W0.cell? ⟨1,0,none⟩=some (.int .i64 mx)) (ht:BG W0) (hge:W0.cell? ⟨5,0,none⟩=some ev) (hev:ev=.nilIface∨∃te pe,ev=.iface te pe):
  Calls Tryz.prog 12 #[.slice ao raw.length cp,.int .i64 c,.int .i64 wh,.int .i64 it,.int .i64 small,.int .i64 great] W0 fun e W'=>e=.returned (.bool true)∧Below W0.heap.size W0 W':=by
 have HMD:=hid (Le hs hraw hlen hm ht hge hev)
 have HT:Hid (∀w,Below W0.heap.size W0 w→BG w):=hid (fun w hb=>ht.below hb)
 have HGE:Hid (∀w,Below W0.heap.size W0 w→w.cell? ⟨5,0,none⟩=some ev):=hid (fun w hb=>(hb.cell (block_lt_of_cell hge)).trans hge)
 have HEV:=hid hev
 have HC:=hid (And.intro hc (And.intro hw hi))
 have HSM:=hid (And.intro hsm hgr)
 have HPR:=hid (tu (Pure.kr_good c wh it) (Pure.kr_scope c wh it))
 have HKD:=hid (Pure.kr_parts c wh it).1
 have HTS:=hid (krText_small c wh it)
 clear hs hraw hlen hc hw hi hsm hgr hm ht hge hev
 go_enter Tryz.func12,Tryz.ntmps12
 go_wp2_with fail
 refine HMD.out.mono ?_
 rintro e W1 ⟨G,rfl,pol,cs,vn,ve,ns,es,last,m,hv,hok,her,h6,hm,_,hb1⟩
 obtain⟨b1,b2,rfl⟩:=CL her
 have HG1:Hid (GS W0.heap.size G b1 b2 ns es last 0 W0 W1):=hid ⟨cs,vn,ve,ns,m,hv,rfl,hok,h6,by omega,hb1,hb1.size⟩
 have HFG:=hid (AI b1 b2)
 have HB1:=hid hb1
 clear hv hok her h6 hm hb1 HMD
 go_wp2_with fail
 refine(read_K HC.out.1 HC.out.2.1 HC.out.2.2 (HT.out _ HB1.out)).mono ?_
 rintro e W2 ⟨rfl,hb2⟩
 have HG2:=hid (HG1.out.later hb2)
 clear hb2 HG1 HB1
 obtain⟨t,htt⟩:∃t,krText c wh it=t:=⟨_,rfl⟩
 have htt2:(⟨(iy (cJ (krQ c wh it))).toArray⟩:ByteArray)=t:=htt
 rw[htt2] at HPR
 rw[htt] at HTS⊢
 clear htt htt2
 generalize krQ c wh it=q at HPR HKD
 go_wp2_with fail
 refine(vI HSM.out.1 (by omega) (by omega)).mono ?_
 rintro e w1 ⟨rfl,hw1⟩
 obtain rfl:=hw1.symm
 have ha0:=ma (c:=small) (n:=5000) (by omega)
 have ha1:=zb (c:=small) (n:=5000) (by omega)
 generalize pk small 5000=a at ha0 ha1⊢
 go_wp2_with fail
 refine(vI (n:=5000 - a+1) HSM.out.2 (by omega) (by omega)).mono ?_
 rintro e w1 ⟨rfl,hw1⟩
 obtain rfl:=hw1.symm
 have hd0:=ma (c:=great) (n:=5000 - a+1) (by omega)
 have hd1:=zb (c:=great) (n:=5000 - a+1) (by omega)
 generalize pk great (5000 - a+1)=d at hd0 hd1⊢
 have HRA:=hid (KQ (budget:=a) HG2.out (by omega) HFG.out HPR.out HKD.out HTS.out ⟨by omega,by omega⟩ HT.out HGE.out HEV.out)
 simp only at HRA
 go_wp2_with fail
 refine HRA.out.mono ?_
 rintro e W3 ⟨⟨va,rfl,hra⟩,hg3,_⟩
 have HXA:=hid hra
 have HG3:=hid hg3
 have HRB:=hid (KQ (budget:=a+d) hg3 (by omega) HFG.out HPR.out HKD.out HTS.out ⟨by omega,by omega⟩ HT.out HGE.out HEV.out)
 simp only at HRB
 clear hra hg3 HRA HG2
 go_wp2_with fail
 refine HRB.out.mono ?_
 rintro e W4 ⟨⟨vb,rfl,hrb⟩,hg4,hst4⟩
 have HXB:=hid hrb
 have HXA4:=hid (hst4 _ _ _ _ HXA.out)
 have HRN:=hid (KQ (budget:=5000) hg4 (by omega) HFG.out HPR.out HKD.out HTS.out ⟨by omega,by omega⟩ HT.out HGE.out HEV.out)
 simp only at HRN
 clear hrb hg4 hst4 HRB HXA HG3
 go_wp2_with fail
 refine HRN.out.mono ?_
 rintro e W5 ⟨⟨vn5,rfl,hrn⟩,hg5,hst5⟩
 have HXN:=hid hrn
 have HXA5:=hid (hst5 _ _ _ _ HXA4.out)
 have HXB5:=hid (hst5 _ _ _ _ HXB.out)
 have HRM:=hid (KQ (budget:=-1) hg5 (by omega) HFG.out HPR.out HKD.out HTS.out ⟨by omega,by omega⟩ HT.out HGE.out HEV.out)
 simp only at HRM
 clear hrn hg5 hst5 HRN HXA4 HXB
 go_wp2_with fail
 refine HRM.out.mono ?_
 rintro e W6 ⟨⟨vm,rfl,_⟩,hg6,hst6⟩
 have HXA6:=hid (hst6 _ _ _ _ HXA5.out)
 have HXB6:=hid (hst6 _ _ _ _ HXB5.out)
 have HXN6:=hid (hst6 _ _ _ _ HXN.out)
 have HG6:=hid hg6
 clear hg6 hst6 HRM HXA5 HXB5 HXN
 obtain⟨aa,ac,rfl⟩:=bB HXA6.out
 obtain⟨ba,bc,rfl⟩:=bB HXB6.out
 obtain⟨na,nc,rfl⟩:=bB HXN6.out
 have HLA:Hid ((Ap SG ns es q a).1.length≤1000000∧(Ap SG ns es q (a+d)).1.length≤1000000):=hid ⟨by have:=answer_len (ns:=gq SG ns) (es:=jS SG ns es) (q:=q) (yP a);unfold Ap;omega,by have:=answer_len (ns:=gq SG ns) (es:=jS SG ns es) (q:=q) (yP (a+d));unfold Ap;omega⟩
 have HA2:=hid (ansK_two (S:=SG) (ns:=ns) (es:=es) (q:=q) (b:=a))
 have HB2:=hid (ansK_two (S:=SG) (ns:=ns) (es:=es) (q:=q) (b:=a+d))
 have HN2:=hid (ansK_two (S:=SG) (ns:=ns) (es:=es) (q:=q) (b:=5000))
 have HAB:=hid (fun h=>ansK_more (S:=SG) (ns:=ns) (es:=es) (q:=q) (a:=a) (b:=a+d) ha0 (by omega) (by omega) h)
 have HBN:=hid (fun h=>ansK_more (S:=SG) (ns:=ns) (es:=es) (q:=q) (a:=a+d) (b:=5000) (by omega) (by omega) (by omega) h)
 have HMZ:Hid (Ap SG ns es q (-1)=Ap SG ns es q 0):=hid rfl
 have HRZ:Hid (∀w,Below W6.heap.size W6 w→_):=hid (fun w (hb:Below W6.heap.size W6 w)=>KQ (budget:=0) (HG6.out.later hb) (by omega) HFG.out HPR.out HKD.out HTS.out ⟨by omega,by omega⟩ HT.out HGE.out HEV.out)
 simp only at HRZ
 rw[HMZ.out]
 clear HMZ ha0 ha1 hd0 hd1
 generalize Ap SG ns es q a=RA at HXA6 HLA HA2 HAB⊢
 generalize Ap SG ns es q (a+d)=RB at HXB6 HLA HB2 HAB HBN⊢
 generalize Ap SG ns es q 5000=RN at HXN6 HN2 HBN⊢
 generalize Ap SG ns es q 0=RZ at HRZ⊢
 obtain⟨la,ea⟩:=RA
 obtain⟨lb,eb⟩:=RB
 obtain⟨ln,en⟩:=RN
 obtain⟨lz,ez⟩:=RZ
 simp only at HXA6 HXB6 HXN6 HLA HA2 HB2 HN2 HAB HBN HRZ⊢
 have HS1:=hid (J5 (aP HXA6.out HXA6.out.1) (aP HXB6.out HXB6.out.1) HLA.out.1)
 go_wp2_with fail
 refine HS1.out.mono ?_
 rintro e W7 ⟨rfl,hb7⟩
 have HB7:=hid hb7
 have HS2:=hid (J5 ((aP HXB6.out HXB6.out.1).below hb7) ((aP HXN6.out HXN6.out.1).below hb7) HLA.out.2)
 clear hb7 HS1
 go_wp2_with fail
 refine HS2.out.mono ?_
 rintro e W8 ⟨rfl,hb8⟩
 have HB8:=hid (HB7.out.trans (hb8.mono HB7.out.size))
 clear hb8 HS2 HB7
 go_wp2_with fail
 refine(HRZ.out W8 HB8.out).mono ?_
 rintro e W9 ⟨⟨vz,rfl,_⟩,hg9,_⟩
 have HB9:Hid (Below W0.heap.size W0 W9):=hid (by obtain⟨_,_,_,_,_,_,_,_,_,_,h,_⟩:=hg9;exact h)
 clear hg9 HRZ HG6
 have hez:(ez==ez)=true:=by simp
 rcases HA2.out with h1|h1
 ·have h2:=HAB.out h1
  injection h2 with h2 h3
  subst h1
  have h4:=HBN.out h3
  injection h4 with h4 h5
  subst h2 h3
  subst h4 h5
  have hs:∀l,zE l l=true:=fun l=>decide_eq_true rfl
  simp only[hs]
  clear HA2 HB2 HN2 HAB HBN HXA6 HXB6 HXN6 hs
  go_wp2_with fail
  go_ret
  exact⟨rfl,HB9.out⟩
 ·injection h1 with h1 h2
  subst h1 h2
  rcases HB2.out with h1|h1
  ·have h4:=HBN.out h1
   injection h4 with h4 h5
   subst h1
   subst h4 h5
   have hs:∀l,zE l l=true:=fun l=>decide_eq_true rfl
   simp only[hs]
   generalize zE [] _=sb
   clear HA2 HB2 HN2 HAB HBN HXA6 HXB6 HXN6 hs
   go_wp2_with fail
   go_ret
   exact⟨rfl,HB9.out⟩
  ·injection h1 with h1 h2
   subst h1 h2
   generalize zE [] []=sb
   generalize zE [] ln=sc
   clear HA2 HB2 HN2 HAB HBN HXA6 HXB6 HXN6
   go_wp2_with fail
   go_ret
   exact⟨rfl,HB9.out⟩
end
end Go.Proofs.YtobgbmfpicmpcaaGreatDoor
