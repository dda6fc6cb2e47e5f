/- Reads of the graph that made left. -/
import Derived.Test.YtobgbmfpicmpcaaGreatDoorC42
import Derived.Test.YtobgbmfpicmpcaaGreatDoorDV02
import Derived.Test.YtobgbmfpicmpcaaGreatDoorDV05
import Derived.Test.YtobgbmfpicmpcaaGreatDoorDV04
import Derived.Test.YtobgbmfpicmpcaaGreatDoorDV03
import Derived.Lib.Hide
set_option maxRecDepth 100000
set_option maxHeartbeats 8000000
namespace Go.Proofs.YtobgbmfpicmpcaaGreatDoor
open Go.Lib (hid)
section
open Go.RowKit Go.Maps Go.Sort
theorem oi {ns:List aq} {es:List aJ} {q:au} {b:Int} (hb:0≤b∧b≤5000):(eK ns es q b).1.length≤10000:=by
 unfold eK
 split
 ·simp only
  rw[List.length_map]
  have h1:=gD ns es q.conds q.ai ⟨#[]⟩ ⟨b,jN,[]⟩ hb.1
  have h2:bH ns es q.conds q.ai ⟨#[]⟩ ⟨b,jN,[]⟩=aR ns es q b:=rfl
  rw[h2] at h1
  simp only[List.length_nil] at h1
  have h3:=Fc q.items ((aR ns es q b).rows.map (fi ns q.items))
  rw[List.length_map] at h3
  have h4:(gR q.order q.down (lJ q.items ((aR ns es q b).rows.map (fi ns q.items)))).length=(lJ q.items ((aR ns es q b).rows.map (fi ns q.items))).length:=by
   unfold gR
   rw[List.length_map,(fJ _ _).length_eq,List.length_map]
  unfold ix
  split
  ·rw[List.length_drop];omega
  ·rw[List.length_take,List.length_drop];omega
 ·simp
variable {B G b1 b2 k:Nat} {ns:List aq} {es:List aJ} {last:Int} {W0 W w:World}
end
section
open Go.RowKit Go.Maps Go.Sort
variable {G m V vc bv K:Nat} {pol:List cU} {cs:Array Value} {vn ve vs vcn vi vpp va:Value} {ns:List aq} {es:List aJ} {last:Int} {nm rv:ByteArray} {SV:aI→Bool} {qab:au} {qac:List ByteArray} {W:World}
theorem L3 {role text:ByteArray} {ev:Value} {r:cU} {q:au} {budget:Int} (h:VW G pol cs vn ve ns es last m V vc nm rv bv SV qab vs vcn vi vpp K va qac W) (hg:qG ⟨ns,es,last⟩) (hm:6≤m∧m+7000<maxLen) (hs:text.size≤maxLen) (hf:jg pol role=some r) (hpq:parseText (fg text)=(q,0)) (hkd:q.kind=1) (hgr:nO q) (hbu:ux budget) (ht:∀w,Below W.heap.size W w→BG w) (hge:∀w,Below W.heap.size W w→w.cell? ⟨5,0,none⟩=some ev) (hev:ev=.nilIface∨∃te pe,ev=.iface te pe):
  Calls Tryz.prog 26 #[.pointer (some ⟨G,0,none⟩),.string role,.string text,.int .i64 budget] W fun e W'=>(∃v,e=.returned (.tuple #[v,.int .i64 (Ap r.2.2 ns es q budget).2])∧W'.ownsRow W.heap.size 9 1 v (Ap r.2.2 ns es q budget).1.length (strs (Ap r.2.2 ns es q budget).1))∧Below W.heap.size W W':=by
 have HRR:=hid (fun vp mp (hp:pn vp pol mp W)=>hp.right r (List.mem_of_find?_eq_some hf))
 have HPI:=hid h.KY
 obtain⟨vp,mp,c0,hp⟩:=h.KY
 obtain⟨ap,cp,rfl⟩:=bB hp.own
 have p0:W.cell? ⟨G,0,none⟩=some (.slice ap pol.length cp):=(h.own.bZ.cell 0).trans c0
 have HRO:=hid (Gq (nm:=role) hp.rF (aP hp.own hp.own.1))
 rw[hf] at HRO
 have H:=hid h
 have HS:=hid hs
 have HGE:=hid hge
 have HEV:=hid hev
 have HPQ:=hid hpq
 have HKD:=hid hkd
 have HG:=hid hg
 have HMM:=hid hm
 have HT:=hid ht
 have HGR:=hid hgr
 obtain⟨hbu1,hbu2⟩:=hbu
 clear hg hm ht hgr h hs hge hev c0 hp hf hpq hkd
 obtain⟨rn,rb,S⟩:=r
 unfold zu at HRO
 simp only at HRO
 go_enter Tryz.func26,Tryz.ntmps26
 go_wp2_with fail
 refine HRO.out.mono ?_
 rintro e W1 ⟨rfl,hb1⟩
 have HB1:=hid hb1
 clear hb1 HRO p0
 have HB2:=hid (HB1.out.alloc HB1.out.size (.cells #[.string rn,.map (some rb)] 118))
 have HR2:=hid (Loc.new W1 #[.string rn,.map (some rb)] 118)
 go_upto_region 4 with fail
 obtain⟨Y,hY⟩:∃Y,Y=W1.heap.size:=⟨_,rfl⟩
 have HYN:Hid (W.heap.size≤Y):=hid (by rw[hY];exact HB1.out.size)
 rw[←hY] at HR2⊢
 clear hY
 generalize W1.alloc (.cells #[.string rn,.map (some rb)] 118)=W2 at HB2 HR2⊢
 go_wp2_with fail
 refine(Dd text W2 (HGE.out W2 HB2.out) HEV.out HS.out).mono ?_
 rw[HPQ.out]
 rintro e W3 ⟨hb,vs,vc,vi,vp,rfl,hrows⟩
 simp only at hrows⊢
 obtain⟨sa,sc,rfl,m1⟩:=aU (l:=q.ai) hrows.rs
 obtain⟨ca,cc,rfl,m2⟩:=aU (l:=q.conds) hrows.rc
 obtain⟨ia,ic,rfl,m3⟩:=aU (l:=q.items) hrows.rt
 obtain⟨pa,pc,rfl,m4⟩:=aU (l:=q.ay) hrows.rp
 clear m1 m2 m3 m4
 obtain⟨qc,hqc⟩:∃qc,qC q (.slice sa q.ai.length sc) (.slice ca q.conds.length cc) (.slice ia q.items.length ic) (.slice pa q.ay.length pc)=qc:=⟨_,rfl⟩
 have hqs:qc.size=17:=by rw[←hqc];rfl
 have hqo:qc.all (·.oneCell')=true:=by rw[←hqc];exact nh q
 have q0:qc[0]?=some (.int .i64 q.kind):=by rw[←hqc];rfl
 have q8:qc[8]?=some (.string q.name):=by rw[←hqc];rfl
 have HQC:=hid hqc
 rw[hqc]
 have HQS:Hid ((Tryz.prog.info? 29).map (·.size)=some qc.toList.length):=hid (by rw[Tryz.aX,Array.length_toList,hqs])
 have kb:=AM (w:=W3) (cs:=qc) (T:=29) zq
 have HQI:=hid (hrows.later kb)
 have HL4:Hid (Loc ((W3.alloc (.cells zq 29)).setCells W3.heap.size 0 qc.toList) W3.heap.size qc 29):=hid ((Loc.new W3 zq 29).dh (new:=qc) (by rw[hqs];rfl))
 have HB3:=hid (HB2.out.trans (hb.mono HB2.out.size))
 have HB4:=hid (HB3.out.trans (kb.mono HB3.out.size))
 have HR4:=hid ((HR2.out.grown (af hb none) (by simp)).grown (af kb none) (by simp))
 clear hb hrows kb HR2 HB2 hqc
 rename_i KK hKK
 refine hKK _ _ ?_
 clear hKK KK
 refine iF rfl rfl ?_
 refine iY rfl rfl rfl rfl ?_
 refine iY rfl rfl rfl rfl ?_
 refine kY rfl rfl ?_
 refine wpList_store_mid rfl 29 _ _ rfl W3.heap.size 0 qc rfl rfl (by rw[hqs];exact(Loc.new W3 zq 29).there) (by rw[hqs];exact Tryz.aX) hqo ?_
 obtain⟨X,hX⟩:∃X,X=W3.heap.size:=⟨_,rfl⟩
 have HXN:Hid (W.heap.size≤X):=hid (by rw[hX];exact HB3.out.size)
 rw[←hX] at HL4 HQI HB4 HR4⊢
 clear hX hqo
 generalize (W3.alloc (.cells zq 29)).setCells X 0 qc.toList=W4 at HL4 HQI HB4 HR4⊢
 have k0:W4.cell? ⟨X,0,none⟩=some (.int .i64 q.kind):=(HL4.out.cell 0).trans q0
 rw[HKD.out] at k0
 have HBD:=hid (yP budget)
 go_upto_region 8 with fail
 have hbe:min (max budget 0) 5000=uj budget:=rfl
 rw[hbe]
 have HRE:Hid (eK (gq S ns) (jS S ns es) q (uj budget)=Ap S ns es q budget):=hid rfl
 generalize uj budget=bd at HBD HRE⊢
 clear hbe
 have HSC:Hid (∀w,Below W4.heap.size W4 w→w.cell? ⟨Y,0,none⟩=some (.string rn)∧w.cell? ⟨Y,1,none⟩=some (.map (some rb))∧w.rangeAt X 0 qc.toList):=hid (fun w hb=>by
  have h1:=HR4.out.grown (af hb none) (by simp)
  exact⟨(h1.cell 0).trans rfl,(h1.cell 1).trans rfl,(HL4.out.grown (af hb none) (by simp)).range⟩)
 have HDW:Hid (Below W4.heap.size W4 W4.drew):=hid ⟨rfl,rfl,rfl,Nat.le_refl _,fun _ _=>rfl⟩
 have HBD4:=hid (HB4.out.trans (HDW.out.mono HB4.out.size))
 obtain⟨hqr,hqf,_⟩:=Cq HGR.out
 have HQR:=hid hqr
 have HQF:=hid hqf
 have hf:ns.length≤1000000∧es.length≤1000000:=by have h1:=HG.out.n40;have h2:=HG.out.GQ;simp only at h1 h2;omega
 obtain⟨vpq,mpq,_,hpq⟩:=HPI.out
 have HRR:=hid (HRR.out vpq mpq hpq)
 clear hpq
 have HOF:=hid (KS (nm:=rn) ((H.out.own.qm hf).below HBD4.out) (HRR.out.kept (af HBD4.out none) (by simp)) (by have:=HMM.out;omega) HG.out.wy HG.out.ty)
 clear hqr hqf hf q0 q8 HRR
 go_upto_region 10 with fail
 clear k0
 refine wp_region_noPanic ?_
 refine wp_region_held_drew (S:=fun w=>w.cell? ⟨Y,0,none⟩=some (.string rn)∧w.cell? ⟨Y,1,none⟩=some (.map (some rb))∧w.rangeAt X 0 qc.toList) (by kernel_rfl) (HSC.out _ HDW.out) (fun hHeld0=>?_)
 refine wpAnyH_take (i:=0) (v:=?v1) rfl (by kernel_rfl) (by kernel_rfl) (by kernel_rfl) (fun _ _ _ h=>h) (Or.inl ⟨by rfl,?y1⟩) hHeld0 ?r1
 case y1=>(intro w hSw;go_simp;(try with_reducible rfl))
 simp only[Act.put,List.getElem_toArray,List.getElem_cons_zero]
 refine wpAnyH_take (i:=1) (v:=?v2) rfl (by kernel_rfl) (by kernel_rfl) (by kernel_rfl) (fun _ _ _ h=>h) (Or.inl ⟨by rfl,?y2⟩) hHeld0 ?r2
 case y2=>(intro w hSw;go_simp;(try with_reducible rfl))
 simp only[Act.put,List.getElem_toArray,List.getElem_cons_zero,List.getElem_cons_succ]
 refine wpAnyH_take (i:=2) (v:=?v3) rfl (by kernel_rfl) (by kernel_rfl) (by kernel_rfl) (fun _ _ _ h=>h) (Or.inl ⟨by rfl,?y3⟩) hHeld0 ?r3
 case y3=>(intro w hSw;go_simp;(try with_reducible rfl))
 simp only[Act.put,List.getElem_toArray,List.getElem_cons_zero,List.getElem_cons_succ]
 refine wpAnyH_take (i:=3) (v:=?v4) rfl (by kernel_rfl) (by kernel_rfl) (by kernel_rfl) (fun _ _ _ h=>h) (Or.inl ⟨by rfl,?y4⟩) hHeld0 ?r4
 case y4=>(intro w hSw;obtain⟨hc1,hc2,_⟩:=hSw;go_simp;(try with_reducible rfl))
 simp only[Act.put,List.getElem_toArray,List.getElem_cons_zero,List.getElem_cons_succ]
 refine wpAnyH_take (i:=5) rfl (by kernel_rfl) (by kernel_rfl) (by kernel_rfl) (fun _ _ _ h=>h) (yieldsIf_load_mid (by rfl) 29 _ rfl X 0 rfl qc.toList _ (fun w hw=>hw.2.2) Tryz.underlying29 rfl HQS.out) hHeld0 ?_
 simp only[Act.put,List.getElem_toArray,List.getElem_cons_zero,List.getElem_cons_succ,Array.toArray_toList]
 refine wpAnyH_take (i:=6) (v:=?v5) rfl (by kernel_rfl) (by kernel_rfl) (by kernel_rfl) (fun _ _ _ h=>h) (Or.inl ⟨by rfl,?y5⟩) hHeld0 ?r5
 case y5=>(intro w hSw;go_simp;(try with_reducible rfl))
 simp only[Act.put,List.getElem_toArray,List.getElem_cons_zero,List.getElem_cons_succ]
 refine wpAnyH_ready (rs:=[4]) (by kernel_rfl) (by simp) ?_
 refine AllReadyH.cons rfl (fun K hK=>?_) AllReadyH.nil
 refine dW rfl 64 _ _ Tryz.Et rfl #[.pointer (some ⟨G,1,none⟩),.agg #[.string rn,.map (some rb)]] (by simp[Act.eval]) HOF.out (fun e W5 hp=>?_)
 obtain⟨Sb,sn,rfl,hSb,her,hseen,hb5,_⟩:=hp
 refine⟨_,rfl,?_⟩
 have HB45:Hid (Below W4.heap.size W4 W5):=hid (HDW.out.trans hb5)
 have HB5:=hid (HB4.out.trans (HB45.out.mono HB4.out.size))
 have HER:=hid her
 have HAN:=hid (G6 (pa:=pa) (pc:=pc) (budget:=bd) hseen (HQF.out.wj HG.out her) HBD.out HQR.out (Jp (HQI.out.later HB45.out)).ss (Jp (HQI.out.later HB45.out)).sc (Jp (HQI.out.later HB45.out)).si (HT.out _ HB5.out))
 rw[HQC.out] at HAN
 refine hK.out _ _ (HSC.out W5 HB45.out) (fun hHeld1=>?_)
 clear hK K hHeld0 hb5 hseen her hSb HOF
 simp only[Act.put,List.getElem_toArray,List.getElem_cons_zero,List.getElem_cons_succ]
 refine wpAnyH_ready (rs:=[7]) (by kernel_rfl) (by simp) ?_
 refine AllReadyH.cons rfl (fun K hK=>?_) AllReadyH.nil
 refine dW rfl 63 _ _ Tryz.IU rfl #[.pointer (some ⟨Sb,0,none⟩),.agg qc,.int .i64 bd] (by simp[Act.eval]) HAN.out (fun e W6 hp=>?_)
 obtain⟨⟨v,rfl,hrow⟩,hb6⟩:=hp
 refine⟨_,rfl,?_⟩
 have HB46:=hid (HB45.out.trans (hb6.mono HB45.out.size))
 have HB6:=hid (HB4.out.trans (HB46.out.mono HB4.out.size))
 have HROW:=hid (bQ hrow HB5.out.size)
 refine hK.out _ _ (HSC.out W6 HB46.out) (fun hHeld2=>?_)
 clear hK K hHeld1 hb6 hrow HAN
 simp only[Act.put,List.getElem_toArray,List.getElem_cons_zero,List.getElem_cons_succ]
 refine wpAnyH_take (i:=8) (v:=?v6) rfl (by kernel_rfl) (by kernel_rfl) (by kernel_rfl) (fun _ _ _ h=>h) (Or.inl ⟨by rfl,?y6⟩) hHeld2 ?r6
 case y6=>(intro w hSw;go_simp;(try with_reducible rfl))
 simp only[Act.put,List.getElem_toArray,List.getElem_cons_zero,List.getElem_cons_succ]
 refine wpAnyH_take (i:=9) (v:=?v7) rfl (by kernel_rfl) (by kernel_rfl) (by kernel_rfl) (fun _ _ _ h=>h) (Or.inl ⟨by rfl,?y7⟩) hHeld2 ?r7
 case y7=>(intro w hSw;go_simp;(try with_reducible rfl))
 simp only[Act.put,List.getElem_toArray,List.getElem_cons_zero,List.getElem_cons_succ]
 refine wpAnyH_take (i:=10) (v:=?v8) rfl (by kernel_rfl) (by kernel_rfl) (by kernel_rfl) (fun _ _ _ h=>h) (Or.inl ⟨by rfl,?y8⟩) hHeld2 ?r8
 case y8=>(intro w hSw;go_simp;(try with_reducible rfl))
 simp only[Act.put,List.getElem_toArray,List.getElem_cons_zero,List.getElem_cons_succ]
 refine wpAnyH_take (i:=11) (v:=?v9) rfl (by kernel_rfl) (by kernel_rfl) (by kernel_rfl) (fun _ _ _ h=>h) (Or.inl ⟨by rfl,?y9⟩) hHeld2 ?r9
 case y9=>(intro w hSw;go_simp;(try with_reducible rfl))
 simp only[Act.put,List.getElem_toArray,List.getElem_cons_zero,List.getElem_cons_succ]
 refine wpAnyH_done (by kernel_rfl) ?_ _
 refine NoPanic.normal ?_
 clear hHeld2
 go_simp
 go_wp2_with fail
 go_ret2
 rw[←HRE.out,←xu HER.out]
 exact⟨⟨v,rfl,HROW.out⟩,HB6.out⟩
end
section
open Go.RowKit Go.Maps Go.Sort
variable {G m V vc bv K:Nat} {pol:List cU} {cs:Array Value} {vn ve vs vcn vi vpp va:Value} {ns:List aq} {es:List aJ} {last:Int} {nm rv:ByteArray} {SV:aI→Bool} {qab:au} {qac:List ByteArray} {W:World}
theorem Mr {rn:ByteArray} {rb qae:Nat} {S:aI→Bool} {budget:Int} (h:VW G pol cs vn ve ns es last m V vc nm rv bv SV qab vs vcn vi vpp K va qac W) (hg:qG ⟨ns,es,last⟩) (hm:6≤m∧m+7000<maxLen) (hr:bm W rb qae S) (hmay:S (9,nm,⟨#[]⟩)=true) (hgr:nO qab) (hbd:0≤budget∧budget≤5000) (hn:rn.size≤1000∧nm.size≤1000) (hau:qac.length≤100) (hK:K≤W.heap.size) (ht:∀w,Kept (qad G va) W w→BG w):
  Calls Tryz.prog 65 #[.pointer (some ⟨G,0,none⟩),.agg #[.string rn,.map (some rb)],.string nm,.int .i64 budget] W fun e W'=>∃v va',e=.returned (.tuple #[v,.int .i64 (eK (gq SV ns) (jS SV ns es) qab budget).2])∧W'.ownsRow W.heap.size 9 1 v (eK (gq SV ns) (jS SV ns es) qab budget).1.length (strs (eK (gq SV ns) (jS SV ns es) qab budget).1)∧VW G pol (cs.setIfInBounds 5 va') vn ve ns es last m V vc nm rv bv SV qab vs vcn vi vpp K va' (qac++[rn++⟨#[32]⟩++nm]) W'∧Kept (qad G va) W W':=by
 obtain⟨sa,sc,rfl⟩:=bB h.rows.rs
 obtain⟨ca,cc,rfl⟩:=bB h.rows.rc
 obtain⟨ia,ic,rfl⟩:=bB h.rows.rt
 obtain⟨pa,pc,rfl⟩:=bB h.rows.rp
 obtain⟨aa,ac,rfl⟩:=bB h.aud
 obtain⟨wc,hwc⟩:∃wc,gA nm rv bv qab (.slice sa qab.ai.length sc) (.slice ca qab.conds.length cc) (.slice ia qab.items.length ic) (.slice pa qab.ay.length pc)=wc:=⟨_,rfl⟩
 have HWC:=hid hwc
 have HVO:Hid (wc.all (·.oneCell')=true):=hid (by rw[←hwc];exact lg nm rv bv qab)
 have HWS:Hid (wc.size=20):=hid (by rw[←hwc];rfl)
 have HW0:Hid (wc[0]?=some (.string nm)):=hid (by rw[←hwc];rfl)
 have H:=hid h
 have HG:=hid hg
 have HMM:=hid hm
 have HR:=hid hr
 have HMY:=hid hmay
 have HGR:=hid hgr
 have HBD:=hid hbd
 have HT:=hid ht
 have HKK:=hid hK
 have HAU:=hid hau
 obtain⟨hn1,hn2⟩:=hn
 have HB1:=hid ((Below.refl W.heap.size W).alloc (Nat.le_refl _) (.cells #[.string rn,.map (some rb)] 118))
 have HR1:=hid (Loc.new W #[.string rn,.map (some rb)] 118)
 clear h hg hm hr hmay hgr hbd ht hK hwc hau
 go_enter Tryz.func65,Tryz.ntmps65
 go_upto_region 1 with fail
 obtain⟨R,hR⟩:∃R,R=W.heap.size:=⟨_,rfl⟩
 have HRN:Hid (W.heap.size≤R):=hid (by rw[hR];exact Nat.le_refl _)
 rw[←hR] at HR1⊢
 clear hR
 generalize W.alloc (.cells #[.string rn,.map (some rb)] 118)=W1 at HB1 HR1⊢
 have HVR:=hid (H.out.later HB1.out).range
 rw[HWC.out] at HVR
 go_wp2_with fail
 refine(ms (nm:=nm) (H.out.later HB1.out).own.bZ H.out.BQ HVR.out HWS.out HVO.out HW0.out).mono ?_
 rintro e W2 ⟨rfl,hb2⟩
 have hz:Below W2.heap.size W2 ((W2.alloc (.cells iM 145)).setCells W2.heap.size 0 wc.toList):=((Below.refl W2.heap.size W2).alloc (Nat.le_refl _) (.cells iM 145)).grown (aS W2.heap.size wc.toList 0 _) (by simp) (fun j hj=>by injection hj with hj;rw[←hj];exact Nat.le_refl _)
 have hb3:=hb2.trans (hz.mono hb2.size)
 have HB3:=hid (HB1.out.trans (hb3.mono HB1.out.size))
 have HR3:=hid (HR1.out.grown (af hb3 none) (by simp))
 have HZ3:=hid ((Loc.new W2 iM 145).dh (new:=wc) (by rw[HWS.out];rfl))
 have HZN:Hid (W.heap.size≤W2.heap.size):=hid (Nat.le_trans HB1.out.size hb2.size)
 clear hb2 hz hb3 HB1 HR1 HVR
 rename_i KK hKK
 refine hKK _ _ ?_
 clear hKK KK
 refine iF rfl rfl ?_
 refine iY rfl rfl rfl rfl ?_
 refine iY rfl rfl rfl rfl ?_
 refine lY rfl rfl ?_
 refine wpList_store_mid rfl 145 _ _ rfl W2.heap.size 0 wc rfl rfl (by rw[HWS.out];exact(Loc.new W2 iM 145).there) (by rw[HWS.out];exact Tryz.sU) HVO.out ?_
 obtain⟨Z,hZ⟩:∃Z,Z=W2.heap.size:=⟨_,rfl⟩
 rw[←hZ] at HB3 HR3 HZ3 HZN⊢
 clear hZ
 generalize (W2.alloc (.cells iM 145)).setCells Z 0 wc.toList=W3 at HB3 HR3 HZ3⊢
 have r0:=HR3.out.at_ 0 (.string rn) rfl
 have r1:=HR3.out.at_ 1 (.map (some rb)) rfl
 have HMA:=hid (xL (nm:=rn) (r:=(9,nm,⟨#[]⟩)) (HR.out.kept (af HB3.out none) (by simp)) (nU (by decide) (by decide) (by unfold maxLen;omega)))
 rw[HMY.out] at HMA
 unfold nf at HMA
 go_wp2_with fail
 refine HMA.out.mono ?_
 rintro e W4 ⟨rfl,hb4⟩
 have HB4:=hid (HB3.out.trans (hb4.mono HB3.out.size))
 have HR4:=hid (HR3.out.grown (af hb4 none) (by simp))
 have HZ4:=hid (HZ3.out.grown (af hb4 none) (by simp))
 clear hb4 HB3 HR3 HZ3 HMA r0 r1
 go_upto_region 6 with fail
 obtain⟨i1,hj,hy0,hy1,hy2⟩:=info_parts Tryz.tN
 have hnk:¬9223372036854775807<rn.size+1+nm.size:=by omega
 have hnk1:¬9223372036854775807<rn.size+1:=by omega
 have hau:=HAU.out
 have c5:W4.cell? ⟨G,5,none⟩=some (.slice aa qac.length ac):=((H.out.later HB4.out).own.bZ.cell 5).trans H.out.Gn
 have r0:=HR4.out.at_ 0 (.string rn) rfl
 have z0:W4.cell? ⟨Z,0,none⟩=some (.string nm):=(HZ4.out.cell 0).trans HW0.out
 have hal:=(Below.refl W4.heap.size W4).alloc (Nat.le_refl _) (.cells #[.string (rn++(⟨#[32]⟩:ByteArray)++nm)] 9)
 have HBA:=hid (HB4.out.trans (hal.mono HB4.out.size))
 have HDA:Hid (VW G pol cs vn ve ns es last m V vc nm rv bv SV qab (.slice sa qab.ai.length sc) (.slice ca qab.conds.length cc) (.slice ia qab.items.length ic) (.slice pa qab.ay.length pc) K (.slice aa qac.length ac) qac ((W4.alloc (.cells #[.string (rn++(⟨#[32]⟩:ByteArray)++nm)] 9)).drew)):=hid ((H.out.later HBA.out).later ⟨rfl,rfl,rfl,Nat.le_refl _,fun _ _=>rfl⟩)
 have ca5:(W4.alloc (.cells #[.string (rn++(⟨#[32]⟩:ByteArray)++nm)] 9)).cell? ⟨G,5,none⟩=some (.slice aa qac.length ac):=((H.out.later HBA.out).own.bZ.cell 5).trans H.out.Gn
 have ra0:(W4.alloc (.cells #[.string (rn++(⟨#[32]⟩:ByteArray)++nm)] 9)).cell? ⟨R,0,none⟩=some (.string rn):=((HR4.out.grown (af hal none) (by simp)).cell 0).trans rfl
 have za0:(W4.alloc (.cells #[.string (rn++(⟨#[32]⟩:ByteArray)++nm)] 9)).cell? ⟨Z,0,none⟩=some (.string nm):=((HZ4.out.grown (af hal none) (by simp)).cell 0).trans HW0.out
 have HRA:=hid (HR4.out.grown (af hal none) (by simp))
 have HZA:=hid (HZ4.out.grown (af hal none) (by simp))
 have HKD:Hid (Kept (qad G (.slice aa qac.length ac)) W ((W4.alloc (.cells #[.string (rn++(⟨#[32]⟩:ByteArray)++nm)] 9)).drew)):=hid ((Kept.refl _ W).below HBA.out).drew
 have hks:K≤((W4.alloc (.cells #[.string (rn++(⟨#[32]⟩:ByteArray)++nm)] 9)).drew).heap.size:=Nat.le_trans HKK.out HKD.out.size
 have HKS:=hid hks
 have HNW:Hid (∀(j:Nat) (u:Value),[Value.string (rn++(⟨#[32]⟩:ByteArray)++nm)][j]?=some u→((W4.alloc (.cells #[.string (rn++(⟨#[32]⟩:ByteArray)++nm)] 9)).drew).cell? ((⟨W4.heap.size,0,none⟩:Addr).add j)=some u):=hid (World.news_of_block (heap_alloc_new W4 (.cells #[.string (rn++(⟨#[32]⟩:ByteArray)++nm)] 9)))
 clear hal hks
 go_region_law (go_must (refine step_append_lies _ rfl _ _ 56 rfl K 9 i1 (.string ⟨#[]⟩) 1 16 Tryz.underlying56 hj hy0 hy1 hy2 rfl (by decide) (.slice aa qac.length ac) _ _ (by simp[Act.eval]) HDA.out.aud ⟨W4.heap.size,0,none⟩ 1 1 [.string (rn++(⟨#[32]⟩:ByteArray)++nm)] (by simp[Act.eval]) rfl HNW.out Hq (by omega) (by unfold maxLen;omega) (by omega) HKS.out _ rfl ?_);intro g2 cap2 w5 hown hgrow hlies _;have HLG:=hid (HDA.out.own.bZ.fs HDA.out.aud hgrow (by decide));have c6:w5.cell? ⟨G,5,none⟩=some (.slice aa qac.length ac):=(HLG.out.cell 5).trans H.out.Gn;have f6:w5.frozen? ⟨G,5,none⟩=false:=HLG.out.free 5;have HGR5:=hid hgrow;have HOW:=hid hown;clear hown hgrow hlies)
 all_goals
  have hk5:Kept (qad G (.slice aa qac.length ac)) W w5:=HKD.out.then HGR5.out (fun b hb=>Or.inl (Or.inr hb))
  have hk6:=hk5.then (aC w5 G 5 (.slice (some ⟨g2,0,none⟩) (qac.length+1) cap2)) (fun b hb=>Or.inl (Or.inl (Option.some.inj hb).symm))
  have HK6:=hid hk6
  have hro:(w5.setCell ⟨G,5,none⟩ (.slice (some ⟨g2,0,none⟩) (qac.length+1) cap2)).ownsRow K 9 1 (.slice (some ⟨g2,0,none⟩) (qac.length+1) cap2) (qac++[rn++(⟨#[32]⟩:ByteArray)++nm]).length (strs (qac++[rn++(⟨#[32]⟩:ByteArray)++nm])):=by
   have h1:=tR HOW.out (fun g hg=>Below.heap_setCell w5 ⟨G,5,none⟩ (.slice (some ⟨g2,0,none⟩) (qac.length+1) cap2) g (fun e=>aQ HOW.out HLG.out (by decide) (by rw[hg];exact congrArg some e)))
   rw[nz,List.length_append]
   exact h1
  have HV6:Hid (VW G pol (cs.setIfInBounds 5 (.slice (some ⟨g2,0,none⟩) (qac.length+1) cap2)) vn ve ns es last m V vc nm rv bv SV qab (.slice sa qab.ai.length sc) (.slice ca qab.conds.length cc) (.slice ia qab.items.length ic) (.slice pa qab.ay.length pc) K (.slice (some ⟨g2,0,none⟩) (qac.length+1) cap2) (qac++[rn++(⟨#[32]⟩:ByteArray)++nm]) (w5.setCell ⟨G,5,none⟩ (.slice (some ⟨g2,0,none⟩) (qac.length+1) cap2))):=hid (H.out.called hk6 (HLG.out.set 5 _) hro)
  have HZ6:=hid (((show Loc ((W4.alloc (.cells #[.string (rn++(⟨#[32]⟩:ByteArray)++nm)] 9)).drew) Z wc 145 from HZA.out).fs HDA.out.aud HGR5.out (by decide)).setOther (b':=G) (by have h2:=HZN.out;have h3:=H.out.own.bZ.lt;omega) 5 (.slice (some ⟨g2,0,none⟩) (qac.length+1) cap2))
  clear hk5 hk6 hro c5 r0 z0 ca5 ra0 za0 c6 f6 HDA HKD HNW HLG HOW HGR5 HZA HRA HR4 HZ4 HB4 HBA
  generalize w5.setCell ⟨G,5,none⟩ (.slice (some ⟨g2,0,none⟩) (qac.length+1) cap2)=W6 at HK6 HV6 HZ6⊢
  go_upto_region 7 with fail
  have HSC:Hid (∀w,Below W6.heap.size W6 w→w.cell? ⟨Z,1,none⟩=some (.string rv)∧w.cell? ⟨Z,2,none⟩=some (.map (some bv))∧w.rangeAt Z 3 (qC qab (.slice sa qab.ai.length sc) (.slice ca qab.conds.length cc) (.slice ia qab.items.length ic) (.slice pa qab.ay.length pc)).toList):=hid (fun w hb=>by
   have h1:=HZ6.out.grown (af hb none) (by simp)
   rw[←HWC.out] at h1
   refine⟨(h1.cell 1).trans rfl,(h1.cell 2).trans rfl,fun j u hj=>?_⟩
   rw[h1.cell (3+j)]
   match j,hj with
   | 0,hj=>exact hj
   | 1,hj=>exact hj
   | 2,hj=>exact hj
   | 3,hj=>exact hj
   | 4,hj=>exact hj
   | 5,hj=>exact hj
   | 6,hj=>exact hj
   | 7,hj=>exact hj
   | 8,hj=>exact hj
   | 9,hj=>exact hj
   | 10,hj=>exact hj
   | 11,hj=>exact hj
   | 12,hj=>exact hj
   | 13,hj=>exact hj
   | 14,hj=>exact hj
   | 15,hj=>exact hj
   | 16,hj=>exact hj
   | j+17,hj=>exact absurd hj (by simp[qC]))
  have HDW:Hid (Below W6.heap.size W6 W6.drew):=hid ⟨rfl,rfl,rfl,Nat.le_refl _,fun _ _=>rfl⟩
  have HQS:Hid ((Tryz.prog.info? 29).map (·.size)=some (qC qab (.slice sa qab.ai.length sc) (.slice ca qab.conds.length cc) (.slice ia qab.items.length ic) (.slice pa qab.ay.length pc)).toList.length):=hid (by rw[Tryz.aX];rfl)
  obtain⟨hqr,hqf,_⟩:=Cq HGR.out
  have HQR:=hid hqr
  have HQF:=hid hqf
  have hf:ns.length≤1000000∧es.length≤1000000:=by have h1:=HG.out.n40;have h2:=HG.out.GQ;simp only at h1 h2;omega
  obtain⟨vpq,mpq,_,hpq⟩:=HV6.out.KY
  have hrr:=hpq.right (rv,bv,SV) HV6.out.vrole
  have HOF:=hid (KS (nm:=rv) ((HV6.out.own.qm hf).below HDW.out) (hrr.kept (af HDW.out none) (by simp)) (by have:=HMM.out;omega) HG.out.wy HG.out.ty)
  simp only at HOF
  clear hqr hqf hf hpq hrr
  refine wp_region_noPanic ?_
  refine wp_region_held_drew (S:=fun w=>w.cell? ⟨Z,1,none⟩=some (.string rv)∧w.cell? ⟨Z,2,none⟩=some (.map (some bv))∧w.rangeAt Z 3 (qC qab (.slice sa qab.ai.length sc) (.slice ca qab.conds.length cc) (.slice ia qab.items.length ic) (.slice pa qab.ay.length pc)).toList) (by kernel_rfl) (HSC.out _ HDW.out) (fun hHeld0=>?_)
  refine wpAnyH_take (i:=0) (v:=.pointer (some ⟨G,0,none⟩)) rfl (by kernel_rfl) (by kernel_rfl) (by kernel_rfl) (fun _ _ _ h=>h) (Or.inl ⟨by rfl,by intro w hSw;go_simp;(try with_reducible rfl)⟩) hHeld0 ?_
  simp only[Act.put,List.getElem_toArray,List.getElem_cons_zero,List.setIfInBounds_toArray,List.set_cons_zero,List.set_cons_succ]
  refine wpAnyH_take (i:=1) (v:=.pointer (some ⟨G,0,none⟩)) rfl (by kernel_rfl) (by kernel_rfl) (by kernel_rfl) (fun _ _ _ h=>h) (Or.inl ⟨by rfl,by intro w hSw;go_simp;(try with_reducible rfl)⟩) hHeld0 ?_
  simp only[Act.put,List.getElem_toArray,List.getElem_cons_zero,List.getElem_cons_succ,List.setIfInBounds_toArray,List.set_cons_zero,List.set_cons_succ]
  refine wpAnyH_take (i:=2) (v:=.pointer (some ⟨G,1,none⟩)) rfl (by kernel_rfl) (by kernel_rfl) (by kernel_rfl) (fun _ _ _ h=>h) (Or.inl ⟨by rfl,by intro w hSw;go_simp;(try with_reducible rfl)⟩) hHeld0 ?_
  simp only[Act.put,List.getElem_toArray,List.getElem_cons_zero,List.getElem_cons_succ,List.setIfInBounds_toArray,List.set_cons_zero,List.set_cons_succ]
  refine wpAnyH_take (i:=3) (v:=.pointer (some ⟨Z,1,none⟩)) rfl (by kernel_rfl) (by kernel_rfl) (by kernel_rfl) (fun _ _ _ h=>h) (Or.inl ⟨by rfl,by intro w hSw;go_simp;(try with_reducible rfl)⟩) hHeld0 ?_
  simp only[Act.put,List.getElem_toArray,List.getElem_cons_zero,List.getElem_cons_succ,List.setIfInBounds_toArray,List.set_cons_zero,List.set_cons_succ]
  refine wpAnyH_take (i:=4) (v:=.agg #[.string rv,.map (some bv)]) rfl (by kernel_rfl) (by kernel_rfl) (by kernel_rfl) (fun _ _ _ h=>h) (Or.inl ⟨by rfl,by intro w hSw;obtain⟨hc1,hc2,_⟩:=hSw;go_simp;(try with_reducible rfl)⟩) hHeld0 ?_
  simp only[Act.put,List.getElem_toArray,List.getElem_cons_zero,List.getElem_cons_succ,List.setIfInBounds_toArray,List.set_cons_zero,List.set_cons_succ]
  refine wpAnyH_take (i:=6) (v:=.pointer (some ⟨Z,3,none⟩)) rfl (by kernel_rfl) (by kernel_rfl) (by kernel_rfl) (fun _ _ _ h=>h) (Or.inl ⟨by rfl,by intro w hSw;go_simp;(try with_reducible rfl)⟩) hHeld0 ?_
  simp only[Act.put,List.getElem_toArray,List.getElem_cons_zero,List.getElem_cons_succ,List.setIfInBounds_toArray,List.set_cons_zero,List.set_cons_succ]
  refine wpAnyH_take (i:=7) rfl (by kernel_rfl) (by kernel_rfl) (by kernel_rfl) (fun _ _ _ h=>h) (yieldsIf_load_mid (by rfl) 29 _ rfl Z 3 rfl (qC qab (.slice sa qab.ai.length sc) (.slice ca qab.conds.length cc) (.slice ia qab.items.length ic) (.slice pa qab.ay.length pc)).toList _ (fun w hw=>hw.2.2) Tryz.underlying29 rfl HQS.out) hHeld0 ?_
  simp only[Act.put,List.getElem_toArray,List.getElem_cons_zero,List.getElem_cons_succ,List.setIfInBounds_toArray,List.set_cons_zero,List.set_cons_succ,Array.toArray_toList]
  refine wpAnyH_take (i:=8) (v:=.int .i64 budget) rfl (by kernel_rfl) (by kernel_rfl) (by kernel_rfl) (fun _ _ _ h=>h) (Or.inl ⟨by rfl,by intro w hSw;go_simp;(try with_reducible rfl)⟩) hHeld0 ?_
  simp only[Act.put,List.getElem_toArray,List.getElem_cons_zero,List.getElem_cons_succ,List.setIfInBounds_toArray,List.set_cons_zero,List.set_cons_succ]
  refine wpAnyH_ready (rs:=[5]) (by kernel_rfl) (by simp) ?_
  refine AllReadyH.cons rfl (fun K hK=>?_) AllReadyH.nil
  refine dW rfl 64 _ _ Tryz.Et rfl #[.pointer (some ⟨G,1,none⟩),.agg #[.string rv,.map (some bv)]] (by simp[Act.eval]) HOF.out (fun e W7 hp=>?_)
  obtain⟨Sb,sn,rfl,hSb,her,hseen,hb7,_⟩:=hp
  refine⟨_,rfl,?_⟩
  have HB67:Hid (Below W6.heap.size W6 W7):=hid (HDW.out.trans hb7)
  have HER:=hid her
  have HQ7:=hid (Jp (HV6.out.later HB67.out).rows)
  have HAN:=hid (G6 (pa:=pa) (pc:=pc) (budget:=budget) hseen (HQF.out.wj HG.out her) HBD.out HQR.out HQ7.out.ss HQ7.out.sc HQ7.out.si (HT.out _ (HK6.out.below HB67.out)))
  refine hK.out _ _ (HSC.out W7 HB67.out) (fun hHeld1=>?_)
  clear hK K hHeld0 hb7 hseen her hSb HOF
  simp only[Act.put,List.getElem_toArray,List.getElem_cons_zero,List.getElem_cons_succ,List.setIfInBounds_toArray,List.set_cons_zero,List.set_cons_succ]
  refine wpAnyH_ready (rs:=[9]) (by kernel_rfl) (by simp) ?_
  refine AllReadyH.cons rfl (fun K hK=>?_) AllReadyH.nil
  refine dW rfl 63 _ _ Tryz.IU rfl #[.pointer (some ⟨Sb,0,none⟩),.agg (qC qab (.slice sa qab.ai.length sc) (.slice ca qab.conds.length cc) (.slice ia qab.items.length ic) (.slice pa qab.ay.length pc)),.int .i64 budget] (by simp[Act.eval]) HAN.out (fun e W8 hp=>?_)
  obtain⟨⟨v,rfl,hrow⟩,hb8⟩:=hp
  refine⟨_,rfl,?_⟩
  have HB68:=hid (HB67.out.trans (hb8.mono HB67.out.size))
  have HROW:=hid (bQ hrow (Nat.le_trans HK6.out.size HB67.out.size))
  refine hK.out _ _ (HSC.out W8 HB68.out) (fun hHeld2=>?_)
  clear hK K hHeld1 hb8 hrow HAN
  simp only[Act.put,List.getElem_toArray,List.getElem_cons_zero,List.getElem_cons_succ,List.setIfInBounds_toArray,List.set_cons_zero,List.set_cons_succ]
  refine wpAnyH_take (i:=10) (v:=v) rfl (by kernel_rfl) (by kernel_rfl) (by kernel_rfl) (fun _ _ _ h=>h) (Or.inl ⟨by rfl,by intro w hSw;go_simp;(try with_reducible rfl)⟩) hHeld2 ?_
  simp only[Act.put,List.getElem_toArray,List.getElem_cons_zero,List.getElem_cons_succ,List.setIfInBounds_toArray,List.set_cons_zero,List.set_cons_succ]
  refine wpAnyH_take (i:=11) (v:=.int .i64 (eK sn (es.filter (eM sn SV)) qab budget).2) rfl (by kernel_rfl) (by kernel_rfl) (by kernel_rfl) (fun _ _ _ h=>h) (Or.inl ⟨by rfl,by intro w hSw;go_simp;(try with_reducible rfl)⟩) hHeld2 ?_
  simp only[Act.put,List.getElem_toArray,List.getElem_cons_zero,List.getElem_cons_succ,List.setIfInBounds_toArray,List.set_cons_zero,List.set_cons_succ]
  refine wpAnyH_take (i:=12) (v:=v) rfl (by kernel_rfl) (by kernel_rfl) (by kernel_rfl) (fun _ _ _ h=>h) (Or.inl ⟨by rfl,by intro w hSw;go_simp;(try with_reducible rfl)⟩) hHeld2 ?_
  simp only[Act.put,List.getElem_toArray,List.getElem_cons_zero,List.getElem_cons_succ,List.setIfInBounds_toArray,List.set_cons_zero,List.set_cons_succ]
  refine wpAnyH_take (i:=13) (v:=.int .i64 (eK sn (es.filter (eM sn SV)) qab budget).2) rfl (by kernel_rfl) (by kernel_rfl) (by kernel_rfl) (fun _ _ _ h=>h) (Or.inl ⟨by rfl,by intro w hSw;go_simp;(try with_reducible rfl)⟩) hHeld2 ?_
  simp only[Act.put,List.getElem_toArray,List.getElem_cons_zero,List.getElem_cons_succ,List.setIfInBounds_toArray,List.set_cons_zero,List.set_cons_succ]
  refine wpAnyH_done (by kernel_rfl) ?_ _
  refine NoPanic.normal ?_
  clear hHeld2
  go_simp
  go_wp2_with fail
  go_ret2
  rw[←xu HER.out]
  exact⟨v,_,rfl,HROW.out,HV6.out.later HB68.out,HK6.out.below HB68.out⟩
end
end Go.Proofs.YtobgbmfpicmpcaaGreatDoor
