/- veilkeep's made, with what every run keeps and what root's deeds keep: no k is 9. -/
import Derived.Test.YtobgbmfpicmpcaaGreatDoorC42
import Derived.Test.YtobgbmfpicmpcaaGreatDoorDG03
import Derived.Test.YtobgbmfpicmpcaaGreatDoorDG04
import Derived.Test.YtobgbmfpicmpcaaGreatDoorDG02
import Derived.Lib.Hide
set_option maxRecDepth 100000
set_option maxHeartbeats 8000000
namespace Go.Proofs.YtobgbmfpicmpcaaGreatDoor
open Go.Lib (hid)
section
open Go.RowKit Go.Maps Go.Sort
theorem Mv:qad ⟨[],[],0⟩:=⟨fun x hx=>(by cases hx),fun x hx=>(by cases hx),fun x hx=>(by cases hx)⟩
def L8 (W0:World) (G:Nat) (W':World):Prop:=∃pol cs vn ve ns es last m,VG W0.heap.size G pol cs vn ve ns es last m W'∧qG ⟨ns,es,last⟩∧qad ⟨ns,es,last⟩∧NK ns∧pol.map er=GV∧6≤m∧m≤400000∧last≤100∧Below W0.heap.size W0 W'
theorem Mp {W0:World} {raw:List Int} {ao:Option Addr} {cp:Nat} {mx:Int} {ev:Value} (hs:bO W0 1 (.slice ao raw.length cp) raw.length (raw.flatMap kI)) (hraw:∀x∈raw,ux x) (hlen:raw.length≤9223372036854775807) (hm:W0.cell? ⟨1,0,none⟩=some (.int .i64 mx)) (ht:BG W0) (hge:W0.cell? ⟨5,0,none⟩=some ev) (hev:ev=.nilIface∨∃te pe,ev=.iface te pe):
  Calls Tryz.prog 25 #[.slice ao raw.length cp] W0 fun e W'=>∃G,e=.returned (.pointer (some ⟨G,0,none⟩))∧L8 W0 G W':=by
 have HS:=hid hs
 have HRW:=hid hraw
 have HT:Hid (∀w,Below W0.heap.size W0 w→BG w):=hid (fun w hb=>ht.below hb)
 have HGE:Hid (∀w,Below W0.heap.size W0 w→w.cell? ⟨5,0,none⟩=some ev):=hid (fun w hb=>(hb.cell (block_lt_of_cell hge)).trans hge)
 have HEV:=hid hev
 have HN:=hid (Ld (s:=uC) hm)
 rw[E9] at HN
 clear hs hraw ht hge hev hm
 go_enter Tryz.func25,Tryz.ntmps25
 go_wp2_with fail
 refine HN.out.mono ?_
 rintro e W1 ⟨hb1,h1⟩
 rcases h1 with ⟨h0,_⟩|⟨ls,l,G,vp,m,hls,her,_,hG,rfl,hloc,hpol⟩
 ·cases h0
 injection hls with hls
 subst hls
 have HB1:=hid hb1
 have HV1:=hid (Jw hG hloc hpol)
 obtain⟨b1,b2,rfl⟩:=CL her
 clear hloc hpol hb1 hG HN her
 have HR1:=hid (Iz (role:=fH) (text:=Kf) (budget:=1) HV1.out FC (by unfold maxLen;omega) HB1.out.size (by unfold maxLen;decide) ⟨by omega,by omega⟩ (fun w hw=>HT.out w (HB1.out.trans hw)) (fun w hw=>HGE.out w (HB1.out.trans hw)) HEV.out)
 rw[vt] at HR1
 go_wp2_with fail
 refine HR1.out.mono ?_
 rintro e W2 ⟨⟨v1,rfl,hrow1⟩,ns1,cs1,vn1,ve1,m1,hst1,hv2,hm1,hk1⟩
 simp only at hst1 hv2 hrow1
 have HB2:=hid (HB1.out.trans (HV1.out.under hk1 HB1.out.size))
 have HV2:=hid (hv2.more (Nat.le_add_right m1 6))
 have HRW1:=hid hrow1
 have HST1:=hid hst1
 have hm1':m1≤7006:=by omega
 have HM1:=hid hm1'
 clear hst1 hv2 hrow1 hm1 hk1 hm1' HR1
 have hok1:qG ⟨ns1,[],1⟩:=by
  have h1:=(BE (pol:=[(fH,b1,SR),(fm,b2,SG)]) (role:=fH) (text:=Kf) (b:=1) FC (by decide)).1
  rw[vt] at h1
  exact h1.de HST1.out
 have HOK1:=hid hok1
 have HDI1:Hid (qad ⟨ns1,[],1⟩):=hid (by
  have h1:=p9 (b1:=b1) (b2:=b2) Mv fH Kf 1
  rw[vt] at h1
  exact h1.a8 HST1.out)
 have HNK1:Hid (NK ns1):=hid (zp.a8 HST1.out)
 have HR2:=hid (Iz (role:=fm) (text:=KW) (budget:=1) HV2.out hok1 (by have:=HM1.out;unfold maxLen;omega) HB2.out.size (by unfold maxLen;decide) ⟨by omega,by omega⟩ (fun w hw=>HT.out w (HB2.out.trans hw)) (fun w hw=>HGE.out w (HB2.out.trans hw)) HEV.out)
 rw[Bo (by rw[HST1.out];rfl)] at HR2
 clear hok1
 go_wp2_with fail
 refine HR2.out.mono ?_
 rintro e W3 ⟨⟨v2,rfl,hrow2⟩,ns2,cs2,vn2,ve2,m2,hst2,hv3,hm2,hk2⟩
 simp only at hst2 hv3 hrow2
 have HB3:=hid (HB2.out.trans (HV2.out.under hk2 HB2.out.size))
 have hrow1:=HV2.out.row HRW1.out (by decide) (by decide) (by decide) hk2
 obtain⟨g1,c1,rfl,cell1⟩:=yy hrow1
 obtain⟨g2,c2,rfl,cell2⟩:=yy hrow2
 have HV3:=hid (hv3.more (Nat.le_add_right m2 6))
 have HOK3:=hid (HOK1.out.de hst2)
 have HDI3:Hid (qad ⟨ns2,[],1⟩):=hid (HDI1.out.a8 hst2)
 have HNK3:Hid (NK ns2):=hid (HNK1.out.a8 hst2)
 have hm3:m2≤14100:=by have:=HM1.out;omega
 have HM3:=hid hm3
 clear hrow1 hrow2 hst2 hv3 hm2 hk2 hm3 HR2 HRW1
 unfold Jq at cell1
 unfold BJ at cell2
 go_wp2_with fail
 obtain⟨n,hn,hn1,hn2⟩:∃n,n=min raw.length 40∧n≤raw.length∧n≤40:=⟨_,rfl,by omega,by omega⟩
 have hlen2:(raw.length:Int)≤9223372036854775807:=by omega
 go_loopg [9] n (fun c iv w=>∃(k:Nat) (cs:Array Value) (vn ve:Value) (ns:List aq) (es:List aJ) (last:Int) (m:Nat),iv=.int .i64 (k:Int)∧k+c=n∧VG W0.heap.size G [(fH,b1,SR),(fm,b2,SG)] cs vn ve ns es last m w∧qG ⟨ns,es,last⟩∧qad ⟨ns,es,last⟩∧NK ns∧6≤m∧m≤15000+k*7010∧last≤1+k∧Below W0.heap.size W0 w)
 case atStart=>exact⟨0,cs2,vn2,ve2,ns2,[],1,m2+6,rfl,by omega,HV3.out,HOK3.out,HDI3.out,HNK3.out,by omega,by have:=HM3.out;omega,by omega,HB3.out⟩
 case round=>
  obtain⟨k,cs,vn,ve,ns,es,last,m,rfl,hk,hv,hok,hdi,hnk,hm6,hmk,hla,hbw⟩:=hrel
  have HV:=hid hv
  have HOK:=hid hok
  have HDI:=hid hdi
  have HNK:=hid hnk
  have HMK:=hid (And.intro hm6 (And.intro hmk hla))
  have HBW:=hid hbw
  clear hv hok hdi hnk hm6 hmk hla hbw HV3 HOK3 HB3 cell1 cell2
  by_cases hlt:k<n
  ·have hki:(k:Int)<(raw.length:Int):=by omega
   have hk40:(k:Int)<40:=by omega
   have hkr:k<raw.length:=by omega
   obtain⟨g,oo,hal,hcell⟩:=bY (l:=raw) kI (fun _=>rfl) (HS.out.below HBW.out) hkr
   have hc0:=hcell 0 (by decide)
   have hI:=HRW.out raw[k] (List.getElem_mem hkr)
   obtain⟨y,hy⟩:∃y,raw[k]=y:=⟨_,rfl⟩
   rw[hy] at hc0 hI
   subst hal
   have hcy:wr.cell? ⟨g,oo+k,none⟩=some (.int .i64 y):=by have h1:=hc0;rw[Nat.mul_one] at h1;exact h1
   have HSH:=hid (xi hI (HT.out wr HBW.out))
   clear hc0 hcell hy hI
   go_wp2_with fail
   refine HSH.out.mono ?_
   rintro e W4 ⟨rfl,hb4⟩
   have hts:=np y
   have HRNK:=hid (MA (b1:=b1) (b2:=b2) (g:=⟨ns,es,last⟩) HNK.out y 5000)
   generalize b9 y=t at hts HRNK⊢
   have HB4:=hid (HBW.out.trans (hb4.mono HBW.out.size))
   have HV4:=hid (HV.out.later hb4)
   have hla:last<1000000:=by have:=HMK.out.2.2;omega
   have HRDI:=hid (p9 (b1:=b1) (b2:=b2) HDI.out fH t 5000)
   have HROK:=hid (BE (pol:=[(fH,b1,SR),(fm,b2,SG)]) (role:=fH) (text:=t) (b:=5000) HOK.out hla)
   have HRN:=hid (Iz (role:=fH) (text:=t) (budget:=5000) HV4.out HOK.out (by have:=HMK.out;unfold maxLen;omega) HB4.out.size hts ⟨by omega,by omega⟩ (fun w hw=>HT.out w (HB4.out.trans hw)) (fun w hw=>HGE.out w (HB4.out.trans hw)) HEV.out)
   generalize lK [(fH,b1,SR),(fm,b2,SG)] ⟨ns,es,last⟩ fH t 5000=R at HROK HRN HRDI HRNK
   clear hb4 hts hla HSH hcy
   go_wp2_with fail
   refine HRN.out.mono ?_
   rintro e W5 ⟨⟨v5,rfl,_⟩,ns5,cs5,vn5,ve5,m5,hst5,hv5,hm5,hk5⟩
   have HB5:=hid (HB4.out.trans (HV4.out.under hk5 HB4.out.size))
   have HV5:=hid (hv5.more (Nat.le_add_right m5 6))
   have HOK5:Hid (qG ⟨ns5,R.2.es,R.2.last⟩):=hid (qG.de (ns:=R.2.ns) HROK.out.1 hst5)
   have HDI5:Hid (qad ⟨ns5,R.2.es,R.2.last⟩):=hid (qad.a8 (ns:=R.2.ns) (l:=R.2.last) HRDI.out hst5)
   have HNK5:Hid (NK ns5):=hid (HRNK.out.a8 hst5)
   have HM5:Hid (6≤m5+6∧m5+6≤15000+(k+1)*7010∧R.2.last≤1+((k+1:Nat):Int)):=hid (by have h1:=HMK.out;have h2:=HROK.out.2;refine⟨by omega,by omega,?_⟩;have h3:=h1.2.2;omega)
   clear hst5 hv5 hm5 hk5 HRN
   go_wp2_with fail
   go_roundg (gk - 1)
   case rel=>exact⟨k+1,cs5,vn5,ve5,ns5,R.2.es,R.2.last,m5+6,by simp,by omega,HV5.out,HOK5.out,HDI5.out,HNK5.out,HM5.out.1,HM5.out.2.1,HM5.out.2.2,HB5.out⟩
   case measure=>omega
  ·have hkn:k=n:=by omega
   have HFIN:Hid (L8 W0 G wr):=hid ⟨_,cs,vn,ve,ns,es,last,m,HV.out,HOK.out,HDI.out,HNK.out,rfl,HMK.out.1,by have:=HMK.out;omega,by have:=HMK.out;omega,HBW.out⟩
   by_cases hr:k<raw.length
   ·have hki:(k:Int)<(raw.length:Int):=by omega
    have hk40:¬(k:Int)<40:=by omega
    clear hkn hn
    go_wp2_with fail
    go_ret
    exact⟨G,rfl,HFIN.out⟩
   ·have hki:¬(k:Int)<(raw.length:Int):=by omega
    clear hkn hn
    go_wp2_with fail
    go_ret
    exact⟨G,rfl,HFIN.out⟩
end
end Go.Proofs.YtobgbmfpicmpcaaGreatDoor
