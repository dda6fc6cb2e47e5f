/- Runs of a call, and the list of calls. -/
import Derived.Test.YtobgbmfpicmpcaaGreatDoorDV06
import Derived.Test.YtobgbmfpicmpcaaGreatDoorDV02
import Derived.Test.YtobgbmfpicmpcaaGreatDoorDV03
import Derived.Test.YtobgbmfpicmpcaaGreatDoorDV04
import Derived.Test.YtobgbmfpicmpcaaGreatDoorDV05
import Derived.Lib.Hide
set_option maxRecDepth 100000
set_option maxHeartbeats 8000000
namespace Go.Proofs.YtobgbmfpicmpcaaGreatDoor
open Go.Lib (hid)
section
open Go.RowKit Go.Maps Go.Sort
variable {G m V vc bv K:Nat} {pol:List cU} {cs:Array Value} {vn ve vs vcn vi vpp va:Value} {ns:List aq} {es:List aJ} {last:Int} {nm rv:ByteArray} {SV:aI→Bool} {qab:au} {qac:List ByteArray} {W:World}
theorem F9 {role text:ByteArray} {ev:Value} {r:cU} {q:au} {budget:Int} (h:VW G pol cs vn ve ns es last m V vc nm rv bv SV qab vs vcn vi vpp K va qac W) (hg:qG ⟨ns,es,last⟩) (hm:6≤m∧m+7000<maxLen) (hs:text.size≤maxLen) (hf:jg pol role=some r) (hpq:parseText (fg text)=(q,0)) (hkd:q.kind=6) (hqn:q.name=nm) (hmay:r.2.2 (9,nm,⟨#[]⟩)=true) (hgr:nO qab) (hbu:ux budget) (hn:r.1.size≤1000∧nm.size≤1000) (hau:qac.length≤100) (hK:K≤W.heap.size) (ht:∀w,Kept (qad G va) W w→BG w) (hge:∀w,Below W.heap.size W w→w.cell? ⟨5,0,none⟩=some ev) (hev:ev=.nilIface∨∃te pe,ev=.iface te pe):
  Calls Tryz.prog 26 #[.pointer (some ⟨G,0,none⟩),.string role,.string text,.int .i64 budget] W fun e W'=>∃v va',e=.returned (.tuple #[v,.int .i64 (Ap SV ns es qab budget).2])∧W'.ownsRow W.heap.size 9 1 v (Ap SV ns es qab budget).1.length (strs (Ap SV ns es qab budget).1)∧VW G pol (cs.setIfInBounds 5 va') vn ve ns es last m V vc nm rv bv SV qab vs vcn vi vpp K va' (qac++[r.1++⟨#[32]⟩++nm]) W'∧Kept (qad G va) W W':=by
 have HRR:=hid (fun vp mp (hp:pn vp pol mp W)=>hp.right r (List.mem_of_find?_eq_some hf))
 have HPI:=hid h.KY
 obtain⟨vp,mp,c0,hp⟩:=h.KY
 obtain⟨ap,cp,rfl⟩:=bB hp.own
 have p0:W.cell? ⟨G,0,none⟩=some (.slice ap pol.length cp):=(h.own.bZ.cell 0).trans c0
 have HRO:=hid (Gq (nm:=role) hp.rF (aP hp.own hp.own.1))
 rw[hf] at HRO
 have H:=hid h
 have HS:=hid hs
 have HGE:=hid hge
 have HEV:=hid hev
 have HPQ:=hid hpq
 have HKD:=hid hkd
 have HG:=hid hg
 have HMM:=hid hm
 have HT:=hid ht
 have HGR:=hid hgr
 have HQN:=hid hqn
 have HMY:=hid hmay
 have HNN:=hid hn
 have HAU:=hid hau
 have HKK:=hid hK
 obtain⟨hbu1,hbu2⟩:=hbu
 clear hg hm ht hgr hqn hmay hn hau hK h hs hge hev c0 hp hf hpq hkd
 obtain⟨rn,rb,S⟩:=r
 unfold zu at HRO
 simp only at HRO
 go_enter Tryz.func26,Tryz.ntmps26
 go_wp2_with fail
 refine HRO.out.mono ?_
 rintro e W1 ⟨rfl,hb1⟩
 have HB1:=hid hb1
 clear hb1 HRO p0
 have HB2:=hid (HB1.out.alloc HB1.out.size (.cells #[.string rn,.map (some rb)] 118))
 have HR2:=hid (Loc.new W1 #[.string rn,.map (some rb)] 118)
 go_upto_region 4 with fail
 obtain⟨Y,hY⟩:∃Y,Y=W1.heap.size:=⟨_,rfl⟩
 have HYN:Hid (W.heap.size≤Y):=hid (by rw[hY];exact HB1.out.size)
 rw[←hY] at HR2⊢
 clear hY
 generalize W1.alloc (.cells #[.string rn,.map (some rb)] 118)=W2 at HB2 HR2⊢
 go_wp2_with fail
 refine(Dd text W2 (HGE.out W2 HB2.out) HEV.out HS.out).mono ?_
 rw[HPQ.out]
 rintro e W3 ⟨hb,vs,vc,vi,vp,rfl,hrows⟩
 simp only at hrows⊢
 obtain⟨sa,sc,rfl,m1⟩:=aU (l:=q.ai) hrows.rs
 obtain⟨ca,cc,rfl,m2⟩:=aU (l:=q.conds) hrows.rc
 obtain⟨ia,ic,rfl,m3⟩:=aU (l:=q.items) hrows.rt
 obtain⟨pa,pc,rfl,m4⟩:=aU (l:=q.ay) hrows.rp
 clear m1 m2 m3 m4
 obtain⟨qc,hqc⟩:∃qc,qC q (.slice sa q.ai.length sc) (.slice ca q.conds.length cc) (.slice ia q.items.length ic) (.slice pa q.ay.length pc)=qc:=⟨_,rfl⟩
 have hqs:qc.size=17:=by rw[←hqc];rfl
 have hqo:qc.all (·.oneCell')=true:=by rw[←hqc];exact nh q
 have q0:qc[0]?=some (.int .i64 q.kind):=by rw[←hqc];rfl
 have q8:qc[8]?=some (.string q.name):=by rw[←hqc];rfl
 have HQC:=hid hqc
 rw[hqc]
 have HQS:Hid ((Tryz.prog.info? 29).map (·.size)=some qc.toList.length):=hid (by rw[Tryz.aX,Array.length_toList,hqs])
 have kb:=AM (w:=W3) (cs:=qc) (T:=29) zq
 have HQI:=hid (hrows.later kb)
 have HL4:Hid (Loc ((W3.alloc (.cells zq 29)).setCells W3.heap.size 0 qc.toList) W3.heap.size qc 29):=hid ((Loc.new W3 zq 29).dh (new:=qc) (by rw[hqs];rfl))
 have HB3:=hid (HB2.out.trans (hb.mono HB2.out.size))
 have HB4:=hid (HB3.out.trans (kb.mono HB3.out.size))
 have HR4:=hid ((HR2.out.grown (af hb none) (by simp)).grown (af kb none) (by simp))
 clear hb hrows kb HR2 HB2 hqc
 rename_i KK hKK
 refine hKK _ _ ?_
 clear hKK KK
 refine iF rfl rfl ?_
 refine iY rfl rfl rfl rfl ?_
 refine iY rfl rfl rfl rfl ?_
 refine kY rfl rfl ?_
 refine wpList_store_mid rfl 29 _ _ rfl W3.heap.size 0 qc rfl rfl (by rw[hqs];exact(Loc.new W3 zq 29).there) (by rw[hqs];exact Tryz.aX) hqo ?_
 obtain⟨X,hX⟩:∃X,X=W3.heap.size:=⟨_,rfl⟩
 have HXN:Hid (W.heap.size≤X):=hid (by rw[hX];exact HB3.out.size)
 rw[←hX] at HL4 HQI HB4 HR4⊢
 clear hX hqo
 generalize (W3.alloc (.cells zq 29)).setCells X 0 qc.toList=W4 at HL4 HQI HB4 HR4⊢
 have k0:W4.cell? ⟨X,0,none⟩=some (.int .i64 q.kind):=(HL4.out.cell 0).trans q0
 rw[HKD.out] at k0
 have HBD:=hid (yP budget)
 go_upto_region 8 with fail
 have hbe:min (max budget 0) 5000=uj budget:=rfl
 rw[hbe]
 have HRE:Hid (eK (gq SV ns) (jS SV ns es) qab (uj budget)=Ap SV ns es qab budget):=hid rfl
 generalize uj budget=bd at HBD HRE⊢
 clear hbe
 obtain⟨vpq,mpq,_,hpq⟩:=HPI.out
 have HRR:=hid (HRR.out vpq mpq hpq)
 clear hpq
 have r0:=HR4.out.at_ 0 (.string rn) rfl
 have r1:=HR4.out.at_ 1 (.map (some rb)) rfl
 have n8:W4.cell? ⟨X,8,none⟩=some (.string nm):=by rw[←HQN.out];exact(HL4.out.cell 8).trans q8
 have HK4:=hid ((Kept.refl (qad G va) W).below HB4.out)
 have HCN:=hid (Mr (rn:=rn) (budget:=bd) (H.out.later HB4.out) HG.out HMM.out (HRR.out.kept (af HB4.out none) (by simp)) HMY.out HGR.out HBD.out HNN.out HAU.out (Nat.le_trans HKK.out HB4.out.size) (fun w hw=>HT.out w (HK4.out.trans hw)))
 rw[HRE.out] at HCN
 clear q0 q8 HRR HBD HRE HGR HMY
 go_wp2_with fail
 refine HCN.out.mono ?_
 rintro e W5 ⟨v5,va5,rfl,hrow,hvw,hk5⟩
 have HROW:=hid (bQ hrow HB4.out.size)
 have HVW:=hid hvw
 have HK5:=hid (HK4.out.trans hk5)
 clear hrow hvw hk5 HCN k0 r0 r1 n8
 go_wp2_with fail
 go_ret2
 exact⟨v5,va5,rfl,HROW.out,HVW.out,HK5.out⟩
theorem tp {qaf rn:ByteArray} {rb:Nat} {budget:Int} (h:VW G pol cs vn ve ns es last m V vc nm rv bv SV qab vs vcn vi vpp K va qac W) (hvo:(gA nm rv bv qab vs vcn vi vpp).all (·.oneCell')=true) (hne:(nm.toList==qaf.toList)=false):
  Calls Tryz.prog 65 #[.pointer (some ⟨G,0,none⟩),.agg #[.string rn,.map (some rb)],.string qaf,.int .i64 budget] W fun e W'=>e=.returned (.tuple #[.slice none 0 0,.int .i64 5])∧Below W.heap.size W W':=by
 have HB:=hid ((Below.refl W.heap.size W).alloc (Nat.le_refl _) (.cells #[.string rn,.map (some rb)] 118))
 have H:=hid h
 have HVO:=hid hvo
 have HNE:=hid hne
 clear h hvo hne
 go_enter Tryz.func65,Tryz.ntmps65
 go_upto_region 1 with fail
 generalize W.alloc (.cells #[.string rn,.map (some rb)] 118)=W1 at HB⊢
 go_wp2_with fail
 refine(vk (nm:=qaf) (vn:=nm) (H.out.later HB.out).own.bZ H.out.BQ (H.out.later HB.out).range rfl HVO.out rfl HNE.out).mono ?_
 rintro e W2 ⟨rfl,hb2⟩
 have HB2:=hid (HB.out.trans (hb2.mono HB.out.size))
 clear hb2
 rename_i KK hKK
 refine hKK _ _ ?_
 clear hKK KK
 refine iF rfl rfl ?_
 refine iY rfl rfl rfl rfl ?_
 refine iY rfl rfl rfl rfl ?_
 refine lY rfl rfl ?_
 refine wpList_store_mid rfl 145 _ _ rfl W2.heap.size 0 iM rfl rfl (Loc.new W2 iM 145).there Tryz.sU uF ?_
 have HB3:=hid ((HB2.out.alloc HB2.out.size (.cells iM 145)).grown (aS W2.heap.size iM.toList 0 _) (by have:=HB2.out.size;simp;omega) (fun j hj=>by injection hj with hj;rw[←hj];exact HB2.out.size))
 generalize (W2.alloc (.cells iM 145)).setCells W2.heap.size 0 iM.toList=W3 at HB3⊢
 go_wp2_with fail
 go_ret2
 exact⟨rfl,HB3.out⟩
theorem Lt {role text:ByteArray} {ev:Value} {r:cU} {q:au} {budget:Int} (h:VW G pol cs vn ve ns es last m V vc nm rv bv SV qab vs vcn vi vpp K va qac W) (hs:text.size≤maxLen) (hf:jg pol role=some r) (hpq:parseText (fg text)=(q,0)) (hkd:q.kind=6) (hvo:(gA nm rv bv qab vs vcn vi vpp).all (·.oneCell')=true) (hne:(nm.toList==q.name.toList)=false) (hbu:ux budget) (hge:∀w,Below W.heap.size W w→w.cell? ⟨5,0,none⟩=some ev) (hev:ev=.nilIface∨∃te pe,ev=.iface te pe):
  Calls Tryz.prog 26 #[.pointer (some ⟨G,0,none⟩),.string role,.string text,.int .i64 budget] W fun e W'=>e=.returned (.tuple #[.slice none 0 0,.int .i64 5])∧Below W.heap.size W W':=by
 obtain⟨vp,mp,c0,hp⟩:=h.KY
 obtain⟨ap,cp,rfl⟩:=bB hp.own
 have p0:W.cell? ⟨G,0,none⟩=some (.slice ap pol.length cp):=(h.own.bZ.cell 0).trans c0
 have HRO:=hid (Gq (nm:=role) hp.rF (aP hp.own hp.own.1))
 rw[hf] at HRO
 have H:=hid h
 have HS:=hid hs
 have HGE:=hid hge
 have HEV:=hid hev
 have HPQ:=hid hpq
 have HKD:=hid hkd
 have HVO:=hid hvo
 have HNE:=hid hne
 obtain⟨hbu1,hbu2⟩:=hbu
 clear hvo hne h hs hge hev c0 hp hf hpq hkd
 obtain⟨rn,rb,S⟩:=r
 unfold zu at HRO
 simp only at HRO
 go_enter Tryz.func26,Tryz.ntmps26
 go_wp2_with fail
 refine HRO.out.mono ?_
 rintro e W1 ⟨rfl,hb1⟩
 have HB1:=hid hb1
 clear hb1 HRO p0
 have HB2:=hid (HB1.out.alloc HB1.out.size (.cells #[.string rn,.map (some rb)] 118))
 have HR2:=hid (Loc.new W1 #[.string rn,.map (some rb)] 118)
 go_upto_region 4 with fail
 obtain⟨Y,hY⟩:∃Y,Y=W1.heap.size:=⟨_,rfl⟩
 have HYN:Hid (W.heap.size≤Y):=hid (by rw[hY];exact HB1.out.size)
 rw[←hY] at HR2⊢
 clear hY
 generalize W1.alloc (.cells #[.string rn,.map (some rb)] 118)=W2 at HB2 HR2⊢
 go_wp2_with fail
 refine(Dd text W2 (HGE.out W2 HB2.out) HEV.out HS.out).mono ?_
 rw[HPQ.out]
 rintro e W3 ⟨hb,vs,vc,vi,vp,rfl,hrows⟩
 simp only at hrows⊢
 obtain⟨sa,sc,rfl,m1⟩:=aU (l:=q.ai) hrows.rs
 obtain⟨ca,cc,rfl,m2⟩:=aU (l:=q.conds) hrows.rc
 obtain⟨ia,ic,rfl,m3⟩:=aU (l:=q.items) hrows.rt
 obtain⟨pa,pc,rfl,m4⟩:=aU (l:=q.ay) hrows.rp
 clear m1 m2 m3 m4
 obtain⟨qc,hqc⟩:∃qc,qC q (.slice sa q.ai.length sc) (.slice ca q.conds.length cc) (.slice ia q.items.length ic) (.slice pa q.ay.length pc)=qc:=⟨_,rfl⟩
 have hqs:qc.size=17:=by rw[←hqc];rfl
 have hqo:qc.all (·.oneCell')=true:=by rw[←hqc];exact nh q
 have q0:qc[0]?=some (.int .i64 q.kind):=by rw[←hqc];rfl
 have q8:qc[8]?=some (.string q.name):=by rw[←hqc];rfl
 have HQC:=hid hqc
 rw[hqc]
 have HQS:Hid ((Tryz.prog.info? 29).map (·.size)=some qc.toList.length):=hid (by rw[Tryz.aX,Array.length_toList,hqs])
 have kb:=AM (w:=W3) (cs:=qc) (T:=29) zq
 have HQI:=hid (hrows.later kb)
 have HL4:Hid (Loc ((W3.alloc (.cells zq 29)).setCells W3.heap.size 0 qc.toList) W3.heap.size qc 29):=hid ((Loc.new W3 zq 29).dh (new:=qc) (by rw[hqs];rfl))
 have HB3:=hid (HB2.out.trans (hb.mono HB2.out.size))
 have HB4:=hid (HB3.out.trans (kb.mono HB3.out.size))
 have HR4:=hid ((HR2.out.grown (af hb none) (by simp)).grown (af kb none) (by simp))
 clear hb hrows kb HR2 HB2 hqc
 rename_i KK hKK
 refine hKK _ _ ?_
 clear hKK KK
 refine iF rfl rfl ?_
 refine iY rfl rfl rfl rfl ?_
 refine iY rfl rfl rfl rfl ?_
 refine kY rfl rfl ?_
 refine wpList_store_mid rfl 29 _ _ rfl W3.heap.size 0 qc rfl rfl (by rw[hqs];exact(Loc.new W3 zq 29).there) (by rw[hqs];exact Tryz.aX) hqo ?_
 obtain⟨X,hX⟩:∃X,X=W3.heap.size:=⟨_,rfl⟩
 have HXN:Hid (W.heap.size≤X):=hid (by rw[hX];exact HB3.out.size)
 rw[←hX] at HL4 HQI HB4 HR4⊢
 clear hX hqo
 generalize (W3.alloc (.cells zq 29)).setCells X 0 qc.toList=W4 at HL4 HQI HB4 HR4⊢
 have k0:W4.cell? ⟨X,0,none⟩=some (.int .i64 q.kind):=(HL4.out.cell 0).trans q0
 rw[HKD.out] at k0
 go_upto_region 8 with fail
 have hbe:min (max budget 0) 5000=uj budget:=rfl
 rw[hbe]
 generalize uj budget=bd
 clear hbe
 have r0:=HR4.out.at_ 0 (.string rn) rfl
 have r1:=HR4.out.at_ 1 (.map (some rb)) rfl
 have n8:W4.cell? ⟨X,8,none⟩=some (.string q.name):=(HL4.out.cell 8).trans q8
 have HCN:=hid (tp (qaf:=q.name) (rn:=rn) (rb:=rb) (budget:=bd) (H.out.later HB4.out) HVO.out HNE.out)
 clear q0 q8
 go_wp2_with fail
 refine HCN.out.mono ?_
 rintro e W5 ⟨rfl,hb5⟩
 have HB5:=hid (HB4.out.trans (hb5.mono HB4.out.size))
 clear hb5 HCN k0 r0 r1 n8
 go_wp2_with fail
 go_ret2
 exact⟨rfl,HB5.out⟩
theorem LR {B:Nat} {v:Value} {xs:List ByteArray} (h:W.ownsRow B 9 1 v xs.length (strs xs)) (hn:0<xs.length) (hx:xs.length≤1000):
  Calls Tryz.prog 75 #[v] W fun e W'=>∃v',e=.returned v'∧W'.ownsRow W.heap.size 9 1 v' xs.length (strs xs)∧Below W.heap.size W W':=by
 obtain⟨i1,hj,hy0,hy1,hy2⟩:=info_parts Tryz.tN
 obtain⟨_,ao,cap,e,hc,hcell⟩:=aP h h.1
 obtain⟨g,o,rfl,hcs⟩:=hcell hn
 subst e
 have HCS:=hid hcs
 have HBA:=hid ((Below.refl W.heap.size W).alloc (Nat.le_refl _) (.cells #[] 9))
 clear h hcs hcell
 go_enter Tryz.func75,Tryz.ntmps75
 have HNW:Hid (∀(w:World),Below W.heap.size W w→∀(j:Nat) (u:Value),(strs xs)[j]?=some u→w.cell? ((⟨g,o,none⟩:Addr).add j)=some u):=hid (fun w hb j u hu=>by
  have h1:=HCS.out j u hu
  have e:(⟨g,o,none⟩:Addr).add j=⟨g,o+j,none⟩:=by unfold Addr.add;split<;>simp_all
  rw[e]
  exact(hb.cell (block_lt_of_cell h1)).trans h1)
 have hne:(binOp .eql 56 (.slice (some ⟨g,o,none⟩) xs.length cap) (.slice none 0 0)).run Tryz.prog W=.ok (.bool false) W:=by
  have h1:=Lib.run_eql_slice_nil (P:=Tryz.prog) W 56 9 (some ⟨g,o,none⟩) xs.length cap 0 0 Tryz.underlying56
  exact h1
 have HON:Hid (∀u∈strs xs,u.oneCell'=true):=hid (fun u hu=>by unfold strs at hu;obtain⟨t,_,rfl⟩:=List.mem_map.1 hu;rfl)
 go_upto_region 3 with fail
 go_wp2_with (at_builtin;go_must (refine wpList_append_arg _ rfl _ _ 56 rfl 9 i1 (.string ⟨#[]⟩) 1 16 Tryz.underlying56 hj hy0 hy1 hy2 rfl (by decide) W.heap.size 0 0 0 [] rfl rfl (fun j u hu=>by simp at hu) ⟨g,o,none⟩ xs.length cap (strs xs) rfl (by rw[mi,Nat.mul_one]) (HNW.out _ HBA.out) HON.out (fun hle=>absurd hle (by omega)) (by unfold maxLen;omega) (by omega) (fun hle=>absurd hle (by omega)) (fun _ v' w' hown hgr=>?_));have HOW:=hid hown;have HB9:=hid (HBA.out.grown hgr HBA.out.size (fun k hk=>by cases hk));clear hown hgr)
 go_ret
 refine⟨_,rfl,?_,HB9.out⟩
 have h1:=bQ HOW.out HBA.out.size
 rw[Nat.zero_add,List.nil_append] at h1
 exact h1
theorem Mj (h:VW G pol cs vn ve ns es last m V vc nm rv bv SV qab vs vcn vi vpp K va qac W) (hn:0<qac.length) (hx:qac.length≤1000):
  Calls Tryz.prog 34 #[.pointer (some ⟨G,0,none⟩)] W fun e W'=>∃v',e=.returned v'∧W'.ownsRow W.heap.size 9 1 v' qac.length (strs qac)∧Below W.heap.size W W':=by
 have c5:W.cell? ⟨G,5,none⟩=some va:=(h.own.bZ.cell 5).trans h.Gn
 have HCL:=hid (LR h.aud hn hx)
 obtain⟨aa,ac,rfl⟩:=bB h.aud
 clear h hn hx
 go_enter Tryz.func34,Tryz.ntmps34
 go_wp2_with fail
 refine HCL.out.mono ?_
 rintro e W1 ⟨v',rfl,hrow,hb⟩
 have HROW:=hid hrow
 have HB:=hid hb
 clear hrow hb
 go_wp2_with fail
 go_ret
 exact⟨v',rfl,HROW.out,HB.out⟩
end
end Go.Proofs.YtobgbmfpicmpcaaGreatDoor
