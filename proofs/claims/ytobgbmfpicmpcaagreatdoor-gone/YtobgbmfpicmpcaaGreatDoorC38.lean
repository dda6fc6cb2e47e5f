/- The changes: set. -/
import Derived.Test.YtobgbmfpicmpcaaGreatDoorC37
import Derived.Test.YtobgbmfpicmpcaaGreatDoorC17
import Derived.Test.YtobgbmfpicmpcaaGreatDoorC20
import Derived.Test.YtobgbmfpicmpcaaGreatDoorC05
import Derived.Lib.Hide
set_option maxRecDepth 100000
set_option maxHeartbeats 8000000
namespace Go.Proofs.YtobgbmfpicmpcaaGreatDoor
open Go.Lib (hid)
section
open Go.RowKit Go.Maps Go.Sort
variable {gb go m:Nat} {T:TypeId} {cs:Array Value} {vn ve:Value} {ns:List aq} {es:List aJ} {last:Int} {W:World}
theorem Tryz.Gb (args:Array Value) (w:World):(callFunc 264 args).run Tryz.prog w=.ok (.enter 264 args) w:=by go_simp
theorem Tryz.GD (args:Array Value) (w:World):(callFunc 263 args).run Tryz.prog w=.ok (.enter 263 args) w:=by go_simp
theorem zz {sn:List aq} {q:au} {ns:List aq} {l:List Int} {k:Nat} (hk:k<l.length):dh sn q ns (l.take (k+1))=iQ (dh sn q ns (l.take k)) l[k] q.key (eH sn q.value l[k]):=by
 unfold dh
 rw[List.take_add_one,List.getElem?_eq_getElem hk,Option.toList_some,List.foldl_append]
 rfl
theorem DZ (ns:List aq) (n:Int) (k:ByteArray) (v:Option Int):(iQ ns n k v).length=ns.length:=by unfold iQ;rw[List.length_map]
theorem Dr (ns:List aq) (n:Int) (k:ByteArray) (v:Option Int):(iQ ns n k v).map (·.bZ)=ns.map (·.bZ):=by
 unfold iQ
 rw[List.map_map]
 congr 1
 funext x
 simp only[Function.comp]
 split<;>rfl
theorem oP (sn:List aq) (q:au):∀(l:List Int) (ns:List aq),(dh sn q ns l).length=ns.length
 | [],_=>rfl
 | a::r,ns=>(oP sn q r _).trans (DZ ns a q.key (eH sn q.value a))
theorem oQ (sn:List aq) (q:au):∀(l:List Int) (ns:List aq),(dh sn q ns l).map (·.bZ)=ns.map (·.bZ)
 | [],_=>rfl
 | a::r,ns=>(oQ sn q r _).trans (Dr ns a q.key (eH sn q.value a))
theorem Ej {a b:List aq} (h:a.map (·.bZ)=b.map (·.bZ)) {k:Nat} (hk:∃x∈a,x.bZ=k):∃x∈b,x.bZ=k:=by
 obtain⟨x,hx,e⟩:=hk
 have h1:x.bZ∈b.map (·.bZ):=by rw[←h];exact List.mem_map_of_mem hx
 obtain⟨y,hy,e2⟩:=List.mem_map.1 h1
 exact⟨y,hy,e2.trans e⟩
theorem wo (sn:List aq) (q:au) (l:List Int) (ns:List aq):dh (sn.map de) q ns l=dh sn q ns l:=by
 unfold dh
 congr 1
 funext ns n
 rw[mw]
theorem CZ {gb go m:Nat} {sn:List aq} {se:List aJ} {W:World} {t:gj} {n:Int} (h:et gb go sn se m W) (hk:t.key.size≤maxLen) (hv:(Lit.int .i64 t.val).wf=true):∀a,eH sn t n=some a→(Lit.int .i64 a).wf=true:=by
 intro a ha
 unfold eH at ha
 split at ha
 ·injection ha with ha
  rw[←ha]
  exact hv
 ·exact zl (sE h hk a ha)
theorem KH {rb rn sc cc ic pc:Nat} {S:aI→Bool} {nm:ByteArray} {q:au} {budget:Int} {sa ca ia pa:Option Addr} (h:ed gb go T cs vn ve ns es last m W) (hg:qG ⟨ns,es,last⟩) (hm:m+7000<maxLen) (hr:bm W rb rn S) (hq:oL q) (hb:0≤budget∧budget≤5000) (hk:q.name.size≤maxLen) (hkk:q.key.size≤maxLen) (hvk:q.value.key.size≤maxLen) (hvv:(Lit.int .i64 q.value.val).wf=true)
  (hss:bO W 5 (.slice sa q.ai.length sc) q.ai.length (q.ai.flatMap kN)) (hsc:bO W 7 (.slice ca q.conds.length cc) q.conds.length (q.conds.flatMap kk)):
  Calls Tryz.prog 199 #[.pointer (some ⟨gb,go,none⟩),.agg #[.string nm,.map (some rb)],.agg (qC q (.slice sa q.ai.length sc) (.slice ca q.conds.length cc) (.slice ia q.items.length ic) (.slice pa q.ay.length pc)),.int .i64 budget] W fun e W'=>e=.returned (.tuple #[.int .i64 (D8 S ⟨ns,es,last⟩ q budget).1,.int .i64 (D8 S ⟨ns,es,last⟩ q budget).2.1])∧pV gb go T cs vn ve ns m W (D8 S ⟨ns,es,last⟩ q budget).2.2 W':=by
 obtain⟨qc,hqc⟩:∃qc,qC q (.slice sa q.ai.length sc) (.slice ca q.conds.length cc) (.slice ia q.items.length ic) (.slice pa q.ay.length pc)=qc:=⟨_,rfl⟩
 have hf:ns.length≤1000000∧es.length≤1000000:=by have h1:=hg.n40;have h2:=hg.GQ;simp only at h1 h2;omega
 have hqs:qc.size=17:=by rw[←hqc];rfl
 have hB1:=(Below.refl W.heap.size W).alloc (Nat.le_refl _) (.cells #[.string nm,.map (some rb)] 118)
 have hB2:=hB1.alloc hB1.size (.cells qc 29)
 have HR2:=hid ((Loc.new W #[.string nm,.map (some rb)] 118).alloc (.cells qc 29))
 have HQ2:=hid (Loc.new (W.alloc (.cells #[.string nm,.map (some rb)] 118)) qc 29)
 have HB2:=hid hB2
 have hk9:qc[9]?=some (.string q.key):=by rw[←hqc];rfl
 have hka:qc[10]?=some (.string q.value.name)∧qc[11]?=some (.string q.value.key)∧qc[12]?=some (.int .i64 q.value.val):=by rw[←hqc];exact⟨rfl,rfl,rfl⟩
 have HQV:=hid (And.intro hk9 hka)
 clear hk9 hka
 have H:=hid h
 have HVV:=hid (And.intro hkk (And.intro hvk hvv))
 have HG:=hid hg
 have HF:=hid hf
 have HMM:=hid hm
 have HR:=hid hr
 have HQF:=hid hq
 have HKS:=hid hk
 have HSS:=hid hss
 have HSC:=hid hsc
 have HBD:=hid hb
 have HQC:=hid hqc
 have HQS:Hid ((Tryz.prog.info? 29).map (·.size)=some qc.toList.length):=hid (by rw[Tryz.aX,Array.length_toList,hqs])
 clear h hg hf hm hr hq hk hkk hvk hvv hss hsc hB1 hB2 hqs
 rw[hqc]
 clear hqc
 go_enter Tryz.func199,Tryz.ntmps199
 go_upto_region 1 with fail
 obtain⟨Y,hY⟩:∃Y,Y=W.heap.size:=⟨_,rfl⟩
 have HYW:=hid hY
 rw[World.size_alloc] at HQ2
 rw[←hY] at HR2 HQ2⊢
 clear hY
 generalize (W.alloc (.cells #[.string nm,.map (some rb)] 118)).alloc (.cells qc 29)=W2 at HB2 HR2 HQ2⊢
 have HB2S:Hid (W.heap.size≤W2.heap.size):=hid HB2.out.size
 have r0:=HR2.out.at_ 0 (.string nm) rfl
 have r1:=HR2.out.at_ 1 (.map (some rb)) rfl
 have HOF:=hid (KS (nm:=nm) ((H.out.qm HF.out).below HB2.out) (HR.out.kept (af HB2.out none) (by simp)) (by have:=HMM.out;omega) HG.out.wy HG.out.ty)
 go_wp2_with fail
 refine HOF.out.mono ?_
 rintro e W3 ⟨Sb,sn,rfl,hSb,her,hseen,hb3,hstay⟩
 have HST:=hid hstay
 have HB3:=hid (HB2.out.trans (hb3.mono HB2.out.size))
 have HR3:=hid (HR2.out.grown (af hb3 none) (by simp))
 have HQ3:=hid (HQ2.out.grown (af hb3 none) (by simp))
 have HSEEN:=hid hseen
 have HER:=hid her
 have HNO:=hid (zg (ia:=ia) (ic:=ic) (pa:=pa) (pc:=pc) (budget:=budget) hseen (HQF.out.wj HG.out her) HBD.out HKS.out (HSS.out.below HB3.out) (HSC.out.below HB3.out))
 rw[HQC.out] at HNO
 clear hseen her hb3 hSb hstay HOF r0 r1 HB2 HR2 HQ2
 go_wp2_with (refine wpList_load_mid rfl 29 _ rfl (Y+1) 0 rfl qc.toList _ HQ3.out.range Tryz.underlying29 rfl HQS.out ?_;simp only[Array.toArray_toList])
 refine HNO.out.mono ?_
 rintro e W4 ⟨⟨v,rfl,hrow⟩,hb4⟩
 obtain⟨l,hl⟩:∃l,fQ q.name (aR sn (es.filter (eM sn S)) q budget).rows=l:=⟨_,rfl⟩
 rw[hl,zo] at hrow
 have HLL:Hid (l.length≤6000):=hid (by rw[←hl];exact mn HBD.out HQF.out.BN)
 obtain⟨al,cl,rfl⟩:=bB hrow
 obtain⟨lf,hlf⟩:∃lf,(aR sn (es.filter (eM sn S)) q budget).left=lf:=⟨_,rfl⟩
 have HDP:Hid (D8 S ⟨ns,es,last⟩ q budget=if 0≤lf then (if gX sn S 5 q.key l then ((l.length:Int),0,⟨dh sn q ns l,es,last⟩) else (0,7,⟨ns,es,last⟩)) else (0,6,⟨ns,es,last⟩)):=hid (by
  unfold D8 iD
  simp only
  rw[←oO HER.out,hl,hlf,←nr HER.out,py,wo])
 rw[hlf]
 have HB4:=hid (HB3.out.trans (hb4.mono HB3.out.size))
 have HR4:=hid (HR3.out.grown (af hb4 none) (by simp))
 have HQ4:=hid (HQ3.out.grown (af hb4 none) (by simp))
 have HS4:=hid (HSEEN.out.below hb4)
 have HB34:=hid hb4
 have HROW:=hid hrow
 clear hl hlf hrow hb4 HNO HR3 HQ3
 by_cases hle:0≤lf
 ·have hd:decide (0≤lf)=true:=decide_eq_true hle
  rw[hd]
  have HDQ:Hid (D8 S ⟨ns,es,last⟩ q budget=if gX sn S 5 q.key l then ((l.length:Int),0,⟨dh sn q ns l,es,last⟩) else (0,7,⟨ns,es,last⟩)):=hid (by rw[HDP.out,if_pos hle])
  clear hd HDP hle
  have r0:=HR4.out.at_ 0 (.string nm) rfl
  have r1:=HR4.out.at_ 1 (.map (some rb)) rfl
  have q9:W4.cell? ⟨Y+1,9,none⟩=some (.string q.key):=(HQ4.out.cell 9).trans HQV.out.1
  have HMA:=hid (uS (nm:=nm) (v:=5) (k:=q.key) HS4.out (HR.out.kept (af HB4.out none) (by simp)) (yn HER.out HG.out.wy) (aP HROW.out HROW.out.1) (by have:=HLL.out;omega) (by decide) (by decide) HVV.out.1)
  go_wp2_with fail
  refine HMA.out.mono ?_
  rintro e W5 ⟨rfl,hb5⟩
  have HB5:=hid (HB4.out.trans (hb5.mono HB4.out.size))
  have HQ5:=hid (HQ4.out.grown (af hb5 none) (by simp))
  have HB35:=hid (HB34.out.trans (hb5.mono HB34.out.size))
  have HRO5:=hid (HROW.out.kept (af hb5 none) (by cases (Value.ownBlock _)<;>simp))
  clear hb5 HMA r0 r1 q9 HB4 HR4 HS4 HROW HQ4 HB34 HSEEN
  cases ha:gX sn S 5 q.key l with
  | false=>
   have HDR:Hid (D8 S ⟨ns,es,last⟩ q budget=(0,7,⟨ns,es,last⟩)):=hid (by rw[HDQ.out,ha];rfl)
   clear ha HDQ
   go_wp2_with fail
   go_ret2
   refine⟨?_,?_⟩
   ·rw[HDR.out]
    rfl
   ·rw[HDR.out]
    exact pV.same H.out HB5.out
  | true=>
   have HDR:Hid (D8 S ⟨ns,es,last⟩ q budget=((l.length:Int),0,⟨dh sn q ns l,es,last⟩)):=hid (by rw[HDQ.out,ha];rfl)
   clear ha HDQ
   have hlow:=H.out.low
   have HLOW:Hid (∀b,(∃x∈ns,x.bZ=b)→b<W.heap.size):=hid (fun b hb=>hlow b (Or.inr (Or.inr (Or.inr hb))))
   have hll:(l.length:Int)≤6000:=by have:=HLL.out;omega
   clear hlow
   go_wp2_with fail
   go_loopg [38] l.length (fun c iv w=>∃k:Nat,iv=.int .i64 (k:Int)∧k+c=l.length∧ed gb go T cs vn ve (dh sn q ns (l.take k)) es last (m+k) w∧Kept (fun b=>∃x∈ns,x.bZ=b) W5 w)
   case atStart=>exact⟨0,rfl,by omega,H.out.later HB5.out,Kept.refl _ _⟩
   case round=>
    obtain⟨k,rfl,hk,how,hkp⟩:=hrel
    have HOW:=hid how
    have HKP:=hid hkp
    clear how hkp
    by_cases hlt:k<l.length
    ·have hki:(k:Int)<(l.length:Int):=by omega
     have hD1:∀b,(∃x∈ns,x.bZ=b)→b<W3.heap.size:=fun b hb=>Nat.lt_of_lt_of_le (HLOW.out b hb) HB3.out.size
     have hrow:=sD HRO5.out HKP.out hD1
     obtain⟨g,oo,hal,hcell⟩:=bY (l:=l) kI (fun _=>rfl) (aP hrow hrow.1) hlt
     have hc0:=hcell 0 (by decide)
     obtain⟨y,hy⟩:∃y,l[k]=y:=⟨_,rfl⟩
     rw[hy] at hc0
     subst hal
     have hcy:wr.cell? ⟨g,oo+k,none⟩=some (.int .i64 y):=by have h1:=hc0;rw[Nat.mul_one] at h1;exact h1
     have hQw:Loc wr (Y+1) qc 29:=(HKP.out.block _ HQ5.out.lt (fun e=>by have h1:=HLOW.out _ e;have h2:=HYW.out;omega)).trans HQ5.out
     have hSw:et Sb 0 sn (es.filter (eM sn S)) m wr:=HST.out wr (fun k hk1 hk2=>(HKP.out.block k (Nat.lt_of_lt_of_le hk2 HB35.out.size) (fun e=>by have h1:=HLOW.out _ e;have h2:=HB2S.out;omega)).trans (HB35.out.block k hk2))
     have HQW:=hid hQw
     have HSW:=hid hSw
     have HNX:=hid (zz (sn:=sn) (q:=q) (ns:=ns) hlt)
     rw[hy] at HNX
     clear hrow hcell hc0 hy hQw hSw hD1
     have HD:Hid (Below wr.heap.size wr wr.drew):=hid ⟨rfl,rfl,rfl,Nat.le_refl _,fun _ _=>rfl⟩
     go_upto_region 10 with fail
     have HCL:Hid (∀w,Loc w (Y+1) qc 29→w.cell? ⟨Y+1,9,none⟩=some (.string q.key)∧w.cell? ⟨Y+1,10,none⟩=some (.string q.value.name)∧w.cell? ⟨Y+1,11,none⟩=some (.string q.value.key)∧w.cell? ⟨Y+1,12,none⟩=some (.int .i64 q.value.val)):=hid (fun w hl=>⟨(hl.cell 9).trans HQV.out.1,(hl.cell 10).trans HQV.out.2.1,(hl.cell 11).trans HQV.out.2.2.1,(hl.cell 12).trans HQV.out.2.2.2⟩)
     have HMV:=hid (wa (n:=y) (t:=q.value) (HSW.out.below HD.out) HVV.out.2.1)
     have HTW:=hid (CZ (n:=y) HSW.out HVV.out.2.1 HVV.out.2.2)
     obtain⟨tv,htv⟩:∃tv,eH sn q.value y=tv:=⟨_,rfl⟩
     rw[htv] at HMV HTW HNX
     clear htv
     have HLA:Hid ((dh sn q ns (l.take k)).length≤1000000∧es.length≤1000000):=hid ⟨by rw[oP];exact HF.out.1,HF.out.2⟩
     refine wp_region_noPanic ?_
     refine wp_region_held_drew (S:=fun w=>w.cell? ⟨Y+1,9,none⟩=some (.string q.key)∧w.cell? ⟨Y+1,10,none⟩=some (.string q.value.name)∧w.cell? ⟨Y+1,11,none⟩=some (.string q.value.key)∧w.cell? ⟨Y+1,12,none⟩=some (.int .i64 q.value.val)) (by kernel_rfl) (HCL.out _ HQW.out) (fun hHeld0=>?_)
     refine wpAnyH_take (i:=0) (v:=?v1) rfl (by kernel_rfl) (by kernel_rfl) (by kernel_rfl) (fun _ _ _ h=>h) (Or.inl ⟨by rfl,?y1⟩) hHeld0 ?r1
     case y1=>(intro w hSw;go_simp;(try with_reducible rfl))
     simp only[Act.put,List.getElem_toArray,List.getElem_cons_zero]
     refine wpAnyH_take (i:=1) (v:=?v2) rfl (by kernel_rfl) (by kernel_rfl) (by kernel_rfl) (fun _ _ _ h=>h) (Or.inl ⟨by rfl,?y2⟩) hHeld0 ?r2
     case y2=>(intro w hSw;go_simp;(try with_reducible rfl))
     simp only[Act.put,List.getElem_toArray,List.getElem_cons_zero,List.getElem_cons_succ]
     refine wpAnyH_take (i:=2) (v:=?v3) rfl (by kernel_rfl) (by kernel_rfl) (by kernel_rfl) (fun _ _ _ h=>h) (Or.inl ⟨by rfl,?y3⟩) hHeld0 ?r3
     case y3=>(intro w hSw;go_simp;(try with_reducible rfl))
     simp only[Act.put,List.getElem_toArray,List.getElem_cons_zero,List.getElem_cons_succ]
     refine wpAnyH_take (i:=3) (v:=?v4) rfl (by kernel_rfl) (by kernel_rfl) (by kernel_rfl) (fun _ _ _ h=>h) (Or.inl ⟨by rfl,?y4⟩) hHeld0 ?r4
     case y4=>(intro w hSw;obtain⟨hc1,hc2,hc3,hc4⟩:=hSw;go_simp;(try with_reducible rfl))
     simp only[Act.put,List.getElem_toArray,List.getElem_cons_zero,List.getElem_cons_succ]
     refine wpAnyH_take (i:=4) (v:=?v5) rfl (by kernel_rfl) (by kernel_rfl) (by kernel_rfl) (fun _ _ _ h=>h) (Or.inl ⟨by rfl,?y5⟩) hHeld0 ?r5
     case y5=>(intro w hSw;go_simp;(try with_reducible rfl))
     simp only[Act.put,List.getElem_toArray,List.getElem_cons_zero,List.getElem_cons_succ]
     refine wpAnyH_take (i:=5) (v:=?v6) rfl (by kernel_rfl) (by kernel_rfl) (by kernel_rfl) (fun _ _ _ h=>h) (Or.inl ⟨by rfl,?y6⟩) hHeld0 ?r6
     case y6=>(intro w hSw;go_simp;(try with_reducible rfl))
     simp only[Act.put,List.getElem_toArray,List.getElem_cons_zero,List.getElem_cons_succ]
     refine wpAnyH_take (i:=6) (v:=?v7) rfl (by kernel_rfl) (by kernel_rfl) (by kernel_rfl) (fun _ _ _ h=>h) (Or.inl ⟨by rfl,?y7⟩) hHeld0 ?r7
     case y7=>(intro w hSw;obtain⟨hc1,hc2,hc3,hc4⟩:=hSw;go_simp;(try with_reducible rfl))
     simp only[Act.put,List.getElem_toArray,List.getElem_cons_zero,List.getElem_cons_succ]
     refine wpAnyH_take (i:=7) (v:=?v8) rfl (by kernel_rfl) (by kernel_rfl) (by kernel_rfl) (fun _ _ _ h=>h) (Or.inl ⟨by rfl,?y8⟩) hHeld0 ?r8
     case y8=>(intro w hSw;go_simp;(try with_reducible rfl))
     simp only[Act.put,List.getElem_toArray,List.getElem_cons_zero,List.getElem_cons_succ]
     refine wpAnyH_ready (rs:=[8]) (by kernel_rfl) (by simp) ?_
     refine AllReadyH.cons rfl (fun K hK=>?_) AllReadyH.nil
     refine dW rfl 264 _ _ Tryz.Gb rfl #[.pointer (some ⟨Sb,0,none⟩),.agg #[.string q.value.name,.string q.value.key,.int .i64 q.value.val],.int .i64 y] (by simp[Act.eval]) HMV.out (fun e w1 hp=>?_)
     obtain⟨rfl,hb1⟩:=hp
     refine⟨_,rfl,?_⟩
     have HB1:Hid (Below wr.heap.size wr w1):=hid (HD.out.trans hb1)
     have HQ1:=hid (HQW.out.grown (af HB1.out none) (by simp))
     refine hK.out _ _ (HCL.out _ HQ1.out) (fun hHeld1=>?_)
     clear hK K hHeld0 hb1
     simp only[Act.put,List.getElem_toArray,List.getElem_cons_zero,List.getElem_cons_succ]
     have HSE:=hid (K9 (n:=y) (k:=q.key) (HOW.out.later HB1.out) HLA.out (by have:=HMM.out;have:=HLL.out;omega) HVV.out.1 HTW.out)
     refine wpAnyH_ready (rs:=[9]) (by kernel_rfl) (by simp) ?_
     refine AllReadyH.cons rfl (fun K hK=>?_) AllReadyH.nil
     refine dW rfl 263 _ _ Tryz.GD rfl #[.pointer (some ⟨gb,go,none⟩),.int .i64 y,.string q.key,.agg (dm tv)] (by simp[Act.eval]) HSE.out (fun e w2 hp=>?_)
     obtain⟨rfl,h2,hk2⟩:=hp
     refine⟨_,rfl,?_⟩
     have HK2:Hid (Kept (fun b=>∃x∈ns,x.bZ=b) w1 w2):=hid (hk2.kt (fun b hb=>Ej (oQ sn q (l.take k) ns) hb))
     have HQ2:Hid (Loc w2 (Y+1) qc 29):=hid ((HK2.out.block _ HQ1.out.lt (fun e=>by have h1:=HLOW.out _ e;have h2:=HYW.out;omega)).trans HQ1.out)
     have H2:=hid h2
     refine hK.out _ _ (HCL.out _ HQ2.out) (fun hHeld2=>?_)
     clear hK K hHeld1 h2 hk2 HSE HMV
     simp only[Act.put,List.getElem_toArray,List.getElem_cons_zero,List.getElem_cons_succ]
     refine wpAnyH_done (by kernel_rfl) ?_ _
     refine NoPanic.normal ?_
     clear hHeld2
     go_simp
     go_wp2_with fail
     go_roundg (gk - 1)
     case rel=>exact⟨k+1,by simp,by omega,by rw[HNX.out,←Nat.add_assoc];exact H2.out,(HKP.out.below HB1.out).trans HK2.out⟩
     case measure=>omega
    ·have hki:¬(k:Int)<(l.length:Int):=by omega
     obtain rfl:k=l.length:=by omega
     have HTA:Hid (l.take l.length=l):=hid (List.take_length)
     go_wp2_with fail
     go_ret2
     refine⟨?_,?_⟩
     ·rw[HDR.out]
      rfl
     ·rw[HDR.out]
      have how:=HOW.out
      rw[HTA.out] at how
      exact⟨_,cs,vn,ve,m+l.length,rfl,how,rfl,fun _ _=>rfl,((Kept.refl _ W).below HB5.out).trans (HKP.out.kt (fun b hb=>Or.inr (Or.inr (Or.inr hb)))),fun b hb=>Or.inl hb,fun b hb=>Or.inl hb,fun y hy=>Or.inl (Ej (oQ sn q l ns) ⟨y,hy,rfl⟩),by have:=HLL.out;omega⟩
 ·have hd:decide (0≤lf)=false:=decide_eq_false hle
  rw[hd]
  have HDQ:Hid (D8 S ⟨ns,es,last⟩ q budget=(0,6,⟨ns,es,last⟩)):=hid (by rw[HDP.out,if_neg hle])
  clear hd HDP hle
  go_wp2_with fail
  go_ret2
  refine⟨?_,?_⟩
  ·rw[HDQ.out]
   rfl
  ·rw[HDQ.out]
   exact pV.same H.out HB4.out
end
section
open Go.RowKit Go.Maps Go.Sort
variable {gb go m:Nat} {T:TypeId} {cs:Array Value} {vn ve:Value} {ns:List aq} {es:List aJ} {last:Int} {W:World}
theorem Tryz.Et (args:Array Value) (w:World):(callFunc 64 args).run Tryz.prog w=.ok (.enter 64 args) w:=by go_simp
theorem Tryz.xx (args:Array Value) (w:World):(callFunc 259 args).run Tryz.prog w=.ok (.enter 259 args) w:=by go_simp
theorem rq.trans {W w:World} {a b c:Value} (h:rq W a b) (k:rq w b c) (hs:W.heap.size≤w.heap.size):rq W a c:=fun x hx=>(k x hx).elim (h x) (fun e=>Or.inr (Nat.le_trans hs e))
theorem tI {ns:List aq} {es:List aJ} {q:au} {b:Int} {k k2:ByteArray} (hb:0≤b∧b≤5000) (h6:q.ai.length≤6):(jb k k2 (aR ns es q b).rows).length≤6000:=by
 have h1:=gD ns es q.conds q.ai ⟨#[]⟩ ⟨b,jN,[]⟩ hb.1
 have h2:bH ns es q.conds q.ai ⟨#[]⟩ ⟨b,jN,[]⟩=aR ns es q b:=rfl
 rw[h2] at h1
 simp only[List.length_nil] at h1
 unfold jb
 rw[(fJ _ _).length_eq]
 have h3:=pC (jQ k k2 (aR ns es q b).rows)
 have h4:(jQ k k2 (aR ns es q b).rows).length=(aR ns es q b).rows.length:=by unfold jQ;rw[List.length_map]
 omega
def mL (ty:ByteArray) (p:PP):aJ:=⟨ty,p.1,p.2⟩
theorem z8 {ty:ByteArray} {es:List aJ} {ps:List PP} {k:Nat} (hk:k<ps.length):es++(ps.take (k+1)).map (mL ty)=(es++(ps.take k).map (mL ty))++[mL ty ps[k]]:=by
 rw[List.take_add_one,List.getElem?_eq_getElem hk,Option.toList_some,List.map_append,List.map_cons,List.map_nil,List.append_assoc]
theorem Km {rb rn sc cc ic pc:Nat} {S:aI→Bool} {nm:ByteArray} {q:au} {budget:Int} {sa ca ia pa:Option Addr} (h:ed gb go T cs vn ve ns es last m W) (hz:go+2<cs.size) (hg:qG ⟨ns,es,last⟩) (hm:m<maxLen) (hr:bm W rb rn S) (hq:oL q) (hb:0≤budget∧budget≤5000) (hk:q.name.size≤maxLen) (hkt:q.dest.size≤maxLen) (hty:q.type.size≤maxLen)
  (hss:bO W 5 (.slice sa q.ai.length sc) q.ai.length (q.ai.flatMap kN)) (hsc:bO W 7 (.slice ca q.conds.length cc) q.conds.length (q.conds.flatMap kk)):
  Calls Tryz.prog 198 #[.pointer (some ⟨gb,go,none⟩),.agg #[.string nm,.map (some rb)],.agg (qC q (.slice sa q.ai.length sc) (.slice ca q.conds.length cc) (.slice ia q.items.length ic) (.slice pa q.ay.length pc)),.int .i64 budget] W fun e W'=>e=.returned (.tuple #[.int .i64 (BL S ⟨ns,es,last⟩ q budget).1,.int .i64 (BL S ⟨ns,es,last⟩ q budget).2.1])∧pV gb go T cs vn ve ns m W (BL S ⟨ns,es,last⟩ q budget).2.2 W':=by
 obtain⟨qc,hqc⟩:∃qc,qC q (.slice sa q.ai.length sc) (.slice ca q.conds.length cc) (.slice ia q.items.length ic) (.slice pa q.ay.length pc)=qc:=⟨_,rfl⟩
 have hf:ns.length≤1000000∧es.length≤1000000:=by have h1:=hg.n40;have h2:=hg.GQ;simp only at h1 h2;omega
 have hqs:qc.size=17:=by rw[←hqc];rfl
 have hB1:=(Below.refl W.heap.size W).alloc (Nat.le_refl _) (.cells #[.string nm,.map (some rb)] 118)
 have hB2:=hB1.alloc hB1.size (.cells qc 29)
 have HR2:=hid ((Loc.new W #[.string nm,.map (some rb)] 118).alloc (.cells qc 29))
 have HQ2:=hid (Loc.new (W.alloc (.cells #[.string nm,.map (some rb)] 118)) qc 29)
 have HB2:=hid hB2
 have HQV:Hid (qc[13]?=some (.string q.type)):=hid (by rw[←hqc];rfl)
 have H:=hid h
 have HZ:=hid hz
 have HG:=hid hg
 have HF:=hid hf
 have HMM:=hid hm
 have HR:=hid hr
 have HQF:=hid hq
 have HKS:=hid hk
 have HKT:=hid hkt
 have HTY:=hid hty
 have HSS:=hid hss
 have HSC:=hid hsc
 have HBD:=hid hb
 have HQC:=hid hqc
 have HQS:Hid ((Tryz.prog.info? 29).map (·.size)=some qc.toList.length):=hid (by rw[Tryz.aX,Array.length_toList,hqs])
 clear h hz hg hf hm hr hq hk hkt hty hss hsc hB1 hB2 hqs
 rw[hqc]
 clear hqc
 go_enter Tryz.func198,Tryz.ntmps198
 go_upto_region 1 with fail
 obtain⟨Y,hY⟩:∃Y,Y=W.heap.size:=⟨_,rfl⟩
 have HYW:=hid hY
 rw[World.size_alloc] at HQ2
 rw[←hY] at HR2 HQ2⊢
 clear hY
 generalize (W.alloc (.cells #[.string nm,.map (some rb)] 118)).alloc (.cells qc 29)=W2 at HB2 HR2 HQ2⊢
 have HS:Hid (∀w,Below W2.heap.size W2 w→w.cell? ⟨Y,0,none⟩=some (.string nm)∧w.cell? ⟨Y,1,none⟩=some (.map (some rb))∧w.rangeAt (Y+1) 0 qc.toList):=hid (fun w hb=>by
  have h1:=HR2.out.grown (af hb none) (by simp)
  exact⟨(h1.cell 0).trans rfl,(h1.cell 1).trans rfl,(HQ2.out.grown (af hb none) (by simp)).range⟩)
 have HDW:Hid (Below W2.heap.size W2 W2.drew):=hid ⟨rfl,rfl,rfl,Nat.le_refl _,fun _ _=>rfl⟩
 have HOF:=hid (KS (nm:=nm) ((H.out.qm HF.out).below (HB2.out.trans (HDW.out.mono HB2.out.size))) (HR.out.kept (af (HB2.out.trans (HDW.out.mono HB2.out.size)) none) (by simp)) HMM.out HG.out.wy HG.out.ty)
 refine wp_region_noPanic ?_
 refine wp_region_held_drew (S:=fun w=>w.cell? ⟨Y,0,none⟩=some (.string nm)∧w.cell? ⟨Y,1,none⟩=some (.map (some rb))∧w.rangeAt (Y+1) 0 qc.toList) (by kernel_rfl) (HS.out _ HDW.out) (fun hHeld0=>?_)
 refine wpAnyH_take (i:=0) (v:=?v1) rfl (by kernel_rfl) (by kernel_rfl) (by kernel_rfl) (fun _ _ _ h=>h) (Or.inl ⟨by rfl,?y1⟩) hHeld0 ?r1
 case y1=>(intro w hSw;go_simp;(try with_reducible rfl))
 simp only[Act.put,List.getElem_toArray,List.getElem_cons_zero]
 refine wpAnyH_take (i:=1) (v:=?v2) rfl (by kernel_rfl) (by kernel_rfl) (by kernel_rfl) (fun _ _ _ h=>h) (Or.inl ⟨by rfl,?y2⟩) hHeld0 ?r2
 case y2=>(intro w hSw;obtain⟨hc1,hc2,_⟩:=hSw;go_simp;(try with_reducible rfl))
 simp only[Act.put,List.getElem_toArray,List.getElem_cons_zero,List.getElem_cons_succ]
 refine wpAnyH_take (i:=3) rfl (by kernel_rfl) (by kernel_rfl) (by kernel_rfl) (fun _ _ _ h=>h) (yieldsIf_load_mid (by rfl) 29 _ rfl (Y+1) 0 rfl qc.toList _ (fun w hw=>hw.2.2) Tryz.underlying29 rfl HQS.out) hHeld0 ?_
 simp only[Act.put,List.getElem_toArray,List.getElem_cons_zero,List.getElem_cons_succ,Array.toArray_toList]
 refine wpAnyH_take (i:=4) (v:=?v3) rfl (by kernel_rfl) (by kernel_rfl) (by kernel_rfl) (fun _ _ _ h=>h) (Or.inl ⟨by rfl,?y3⟩) hHeld0 ?r3
 case y3=>(intro w hSw;go_simp;(try with_reducible rfl))
 simp only[Act.put,List.getElem_toArray,List.getElem_cons_zero,List.getElem_cons_succ]
 refine wpAnyH_ready (rs:=[2]) (by kernel_rfl) (by simp) ?_
 refine AllReadyH.cons rfl (fun K hK=>?_) AllReadyH.nil
 refine dW rfl 64 _ _ Tryz.Et rfl #[.pointer (some ⟨gb,go,none⟩),.agg #[.string nm,.map (some rb)]] (by simp[Act.eval]) HOF.out (fun e W3 hp=>?_)
 obtain⟨Sb,sn,rfl,hSb,her,hseen,hb3,_⟩:=hp
 refine⟨_,rfl,?_⟩
 have HB23:Hid (Below W2.heap.size W2 W3):=hid (HDW.out.trans hb3)
 have HB3:=hid (HB2.out.trans (HB23.out.mono HB2.out.size))
 have HER:=hid her
 have HNO:=hid (Fm (ia:=ia) (ic:=ic) (pa:=pa) (pc:=pc) (budget:=budget) hseen (HQF.out.wj HG.out her) HBD.out HKS.out HKT.out (HSS.out.below HB3.out) (HSC.out.below HB3.out))
 rw[HQC.out] at HNO
 refine hK.out _ _ (HS.out W3 HB23.out) (fun hHeld1=>?_)
 clear hK K hHeld0 hb3 hseen her hSb HOF
 simp only[Act.put,List.getElem_toArray,List.getElem_cons_zero,List.getElem_cons_succ]
 refine wpAnyH_ready (rs:=[5]) (by kernel_rfl) (by simp) ?_
 refine AllReadyH.cons rfl (fun K hK=>?_) AllReadyH.nil
 refine dW rfl 259 _ _ Tryz.xx rfl #[.pointer (some ⟨Sb,0,none⟩),.agg qc,.int .i64 budget] (by simp[Act.eval]) HNO.out (fun e W4 hp=>?_)
 obtain⟨⟨v,rfl,hrow⟩,hb4⟩:=hp
 refine⟨_,rfl,?_⟩
 have HB24:=hid (HB23.out.trans (hb4.mono HB23.out.size))
 have HB4:=hid (HB2.out.trans (HB24.out.mono HB2.out.size))
 have HROW:=hid hrow
 refine hK.out _ _ (HS.out W4 HB24.out) (fun hHeld2=>?_)
 clear hK K hHeld1 hb4 hrow HNO
 simp only[Act.put,List.getElem_toArray,List.getElem_cons_zero,List.getElem_cons_succ]
 refine wpAnyH_take (i:=6) (v:=?v4) rfl (by kernel_rfl) (by kernel_rfl) (by kernel_rfl) (fun _ _ _ h=>h) (Or.inl ⟨by rfl,?y4⟩) hHeld2 ?r4
 case y4=>(intro w hSw;go_simp;(try with_reducible rfl))
 simp only[Act.put,List.getElem_toArray,List.getElem_cons_zero,List.getElem_cons_succ]
 refine wpAnyH_take (i:=7) (v:=?v5) rfl (by kernel_rfl) (by kernel_rfl) (by kernel_rfl) (fun _ _ _ h=>h) (Or.inl ⟨by rfl,?y5⟩) hHeld2 ?r5
 case y5=>(intro w hSw;go_simp;(try with_reducible rfl))
 simp only[Act.put,List.getElem_toArray,List.getElem_cons_zero,List.getElem_cons_succ]
 refine wpAnyH_take (i:=8) (v:=?v6) rfl (by kernel_rfl) (by kernel_rfl) (by kernel_rfl) (fun _ _ _ h=>h) (Or.inl ⟨by rfl,?y6⟩) hHeld2 ?r6
 case y6=>(intro w hSw;go_simp;(try with_reducible rfl))
 simp only[Act.put,List.getElem_toArray,List.getElem_cons_zero,List.getElem_cons_succ]
 refine wpAnyH_take (i:=9) (v:=?v7) rfl (by kernel_rfl) (by kernel_rfl) (by kernel_rfl) (fun _ _ _ h=>h) (Or.inl ⟨by rfl,?y7⟩) hHeld2 ?r7
 case y7=>(intro w hSw;go_simp;(try with_reducible rfl))
 simp only[Act.put,List.getElem_toArray,List.getElem_cons_zero,List.getElem_cons_succ]
 refine wpAnyH_take (i:=10) (v:=?v8) rfl (by kernel_rfl) (by kernel_rfl) (by kernel_rfl) (fun _ _ _ h=>h) (Or.inl ⟨by rfl,?y8⟩) hHeld2 ?r8
 case y8=>(intro w hSw;go_simp;(try with_reducible rfl))
 simp only[Act.put,List.getElem_toArray,List.getElem_cons_zero,List.getElem_cons_succ]
 refine wpAnyH_done (by kernel_rfl) ?_ _
 refine NoPanic.normal ?_
 clear hHeld2
 go_simp
 obtain⟨ps,hps⟩:∃ps,jb q.name q.dest (aR sn (es.filter (eM sn S)) q budget).rows=ps:=⟨_,rfl⟩
 rw[hps] at HROW
 have HLL:Hid (ps.length≤6000):=hid (by rw[←hps];exact tI HBD.out HQF.out.BN)
 obtain⟨al,cl,rfl⟩:=bB HROW.out
 obtain⟨lf,hlf⟩:∃lf,(aR sn (es.filter (eM sn S)) q budget).left=lf:=⟨_,rfl⟩
 have HDP:Hid (BL S ⟨ns,es,last⟩ q budget=if 0≤lf then (if S (7,q.type,⟨#[]⟩) then (if es.length+ps.length≤80 then ((ps.length:Int),0,⟨ns,es++ps.map (mL q.type),last⟩) else (0,8,⟨ns,es,last⟩)) else (0,7,⟨ns,es,last⟩)) else (0,6,⟨ns,es,last⟩)):=hid (by
  unfold BL iD
  simp only
  rw[←oO HER.out,hps,hlf]
  rfl)
 rw[hlf]
 have HR4:=hid (HR2.out.grown (af HB24.out none) (by simp))
 have HQ4:=hid (HQ2.out.grown (af HB24.out none) (by simp))
 clear hps hlf HS HDW HR2 HQ2
 by_cases hle:0≤lf
 ·have hd:decide (0≤lf)=true:=decide_eq_true hle
  rw[hd]
  have HDQ:Hid (BL S ⟨ns,es,last⟩ q budget=if S (7,q.type,⟨#[]⟩) then (if es.length+ps.length≤80 then ((ps.length:Int),0,⟨ns,es++ps.map (mL q.type),last⟩) else (0,8,⟨ns,es,last⟩)) else (0,7,⟨ns,es,last⟩)):=hid (by rw[HDP.out,if_pos hle])
  clear hd HDP hle
  have r0:=HR4.out.at_ 0 (.string nm) rfl
  have r1:=HR4.out.at_ 1 (.map (some rb)) rfl
  have q13:W4.cell? ⟨Y+1,13,none⟩=some (.string q.type):=(HQ4.out.cell 13).trans HQV.out
  have HMA:=hid (xL (nm:=nm) (r:=(7,q.type,⟨#[]⟩)) (HR.out.kept (af HB4.out none) (by simp)) (wJ (by decide) (by decide) HTY.out (by decide)))
  unfold nf at HMA
  go_wp2_with fail
  refine HMA.out.mono ?_
  rintro e W5 ⟨rfl,hb5⟩
  have HB5:=hid (HB4.out.trans (hb5.mono HB4.out.size))
  have HQ5:=hid (HQ4.out.grown (af hb5 none) (by simp))
  have HRO5:=hid (HROW.out.kept (af hb5 none) (by cases (Value.ownBlock _)<;>simp))
  clear hb5 HMA r0 r1 q13 HB4 HR4 HROW HQ4
  cases ha:S (7,q.type,⟨#[]⟩) with
  | false=>
   have HDR:Hid (BL S ⟨ns,es,last⟩ q budget=(0,7,⟨ns,es,last⟩)):=hid (by rw[HDQ.out,ha];rfl)
   clear ha HDQ
   go_wp2_with fail
   go_ret2
   refine⟨?_,?_⟩
   ·rw[HDR.out]
    rfl
   ·rw[HDR.out]
    exact pV.same H.out HB5.out
  | true=>
   have HDR:Hid (BL S ⟨ns,es,last⟩ q budget=if es.length+ps.length≤80 then ((ps.length:Int),0,⟨ns,es++ps.map (mL q.type),last⟩) else (0,8,⟨ns,es,last⟩)):=hid (by rw[HDQ.out,ha];rfl)
   clear ha HDQ
   have hll:(ps.length:Int)≤6000:=by have:=HLL.out;omega
   have hee:(es.length:Int)≤80:=by have h1:=HG.out.GQ;simp only at h1;omega
   have h5:=H.out.later HB5.out
   obtain⟨av,cv,hve⟩:=bB h5.oe
   have ce:W5.cell? ⟨gb,go+1,none⟩=some (.slice av es.length cv):=by rw[←hve];exact(h5.bZ.cell (go+1)).trans h5.c1
   clear h5 hve
   by_cases hfu:es.length+ps.length≤80
   ·have hfi:¬80<(es.length:Int)+(ps.length:Int):=by omega
    have HDS:Hid (BL S ⟨ns,es,last⟩ q budget=((ps.length:Int),0,⟨ns,es++ps.map (mL q.type),last⟩)):=hid (by rw[HDR.out,if_pos hfu])
    clear HDR
    have hlow:=H.out.low
    have HLOW:Hid (∀b,(b=gb∨ve.ownBlock=some b)→b<W.heap.size):=hid (fun b hb=>hlow b (hb.elim Or.inl (fun hb=>Or.inr (Or.inr (Or.inl hb)))))
    clear hlow
    go_wp2_with fail
    go_loopg [45] ps.length (fun c iv w=>∃(k:Nat) (cs':Array Value) (ve':Value),iv=.int .i64 (k:Int)∧k+c=ps.length∧ed gb go T cs' vn ve' ns (es++(ps.take k).map (mL q.type)) last m w∧cs'.size=cs.size∧(∀j,j≠go+1→cs'[j]?=cs[j]?)∧Kept (fun b=>b=gb∨ve.ownBlock=some b) W5 w∧rq W5 ve ve')
    case atStart=>exact⟨0,cs,ve,rfl,by omega,by simpa using H.out.later HB5.out,rfl,fun _ _=>rfl,Kept.refl _ _,fun b hb=>Or.inl hb⟩
    case round=>
     obtain⟨k,cs',ve',rfl,hk,how,hsz,hot,hkp,hgr⟩:=hrel
     have HOW:=hid how
     have HSZ:=hid hsz
     have HOT:=hid hot
     have HKP:=hid hkp
     have HGR:=hid hgr
     clear how hsz hot hkp hgr
     by_cases hlt:k<ps.length
     ·have hki:(k:Int)<(ps.length:Int):=by omega
      have hD1:∀b,(b=gb∨ve.ownBlock=some b)→b<W3.heap.size:=fun b hb=>Nat.lt_of_lt_of_le (HLOW.out b hb) HB3.out.size
      have hrow:=sD HRO5.out HKP.out hD1
      obtain⟨g,oo,hal,hcell⟩:=bY (l:=ps) fP (fun _=>rfl) (aP hrow hrow.1) hlt
      have hc0:=hcell 0 (by decide)
      have hc1:=hcell 1 (by decide)
      obtain⟨y,hy⟩:∃y,ps[k]=y:=⟨_,rfl⟩
      rw[hy] at hc0 hc1
      subst hal
      have p0:wr.cell? ⟨g,oo+k*2,none⟩=some (.int .i64 y.1):=hc0
      have p1:wr.cell? ⟨g,oo+k*2+1,none⟩=some (.int .i64 y.2):=hc1
      have hQw:Loc wr (Y+1) qc 29:=(HKP.out.block _ HQ5.out.lt (fun e=>by have h1:=HLOW.out _ e;have h2:=HYW.out;omega)).trans HQ5.out
      have HQW:=hid hQw
      have q13:(wr.alloc (.cells #[.int .i64 y.1,.int .i64 y.2] 336)).cell? ⟨Y+1,13,none⟩=some (.string q.type):=((hQw.alloc (.cells #[.int .i64 y.1,.int .i64 y.2] 336)).cell 13).trans HQV.out
      have HNX:=hid (z8 (ty:=q.type) (es:=es) hlt)
      rw[hy] at HNX
      have HBA:Hid (Below wr.heap.size wr (wr.alloc (.cells #[.int .i64 y.1,.int .i64 y.2] 336))):=hid ((Below.refl _ wr).alloc (Nat.le_refl _) _)
      have hel:(es++(ps.take k).map (mL q.type)).length≤1000000:=by rw[List.length_append,List.length_map,List.length_take];have h1:=HF.out.2;have h2:=HLL.out;have h3:=HG.out.GQ;simp only at h3;omega
      have HLK:=hid (Kl (ty:=q.type) (src:=y.1) (dst:=y.2) (HOW.out.later HBA.out) (by rw[HSZ.out];exact HZ.out) hel)
      clear hrow hcell hc0 hc1 hy hQw hD1 hel
      go_wp2_with fail
      refine HLK.out.mono ?_
      rintro e w2 ⟨rfl,ve2,h2,hk2,hg2⟩
      have HKN:Hid (Kept (fun b=>b=gb∨ve.ownBlock=some b) W5 w2):=hid (by
       have h1:=HKP.out.below HBA.out
       refine⟨hk2.os.trans h1.os,hk2.tape.trans h1.tape,hk2.output.trans h1.output,Nat.le_trans h1.size hk2.size,fun b hb hn=>(hk2.block b (Nat.lt_of_lt_of_le hb h1.size) (fun e=>?_)).trans (h1.block b hb hn)⟩
       rcases e with e|e
       ·exact hn (Or.inl e)
       ·rcases HGR.out b e with e1|e1
        ·exact hn (Or.inr e1)
        ·omega)
      have HGN:Hid (rq W5 ve ve2):=hid (HGR.out.trans hg2 (HKP.out.below HBA.out).size)
      have H2:=hid h2
      clear h2 hk2 hg2 HLK
      go_wp2_with fail
      go_roundg (gk - 1)
      case rel=>exact⟨k+1,_,ve2,by simp,by omega,by rw[HNX.out];exact H2.out,by rw[Array.size_setIfInBounds];exact HSZ.out,fun j hj=>by rw[Array.getElem?_setIfInBounds,if_neg (fun e=>hj e.symm)];exact HOT.out j hj,HKN.out,HGN.out⟩
      case measure=>omega
     ·have hki:¬(k:Int)<(ps.length:Int):=by omega
      obtain rfl:k=ps.length:=by omega
      have HTA:Hid (ps.take ps.length=ps):=hid (List.take_length)
      go_wp2_with fail
      go_ret2
      refine⟨?_,?_⟩
      ·rw[HDS.out]
       rfl
      ·rw[HDS.out]
       have how:=HOW.out
       rw[HTA.out] at how
       exact⟨ns,cs',vn,ve',m,rfl,how,HSZ.out,fun j hj=>HOT.out j (by omega),((Kept.refl _ W).below HB5.out).trans (HKP.out.kt (fun b hb=>hb.elim Or.inl (fun hb=>Or.inr (Or.inr (Or.inl hb))))),fun b hb=>Or.inl hb,fun b hb=>(HGR.out b hb).imp id (fun h=>Nat.le_trans HB5.out.size h),fun y hy=>Or.inl ⟨y,hy,rfl⟩,by omega⟩
   ·have hfi:80<(es.length:Int)+(ps.length:Int):=by omega
    have HDS:Hid (BL S ⟨ns,es,last⟩ q budget=(0,8,⟨ns,es,last⟩)):=hid (by rw[HDR.out,if_neg hfu])
    clear hfu HDR
    go_wp2_with fail
    go_ret2
    refine⟨?_,?_⟩
    ·rw[HDS.out]
     rfl
    ·rw[HDS.out]
     exact pV.same H.out HB5.out
 ·have hd:decide (0≤lf)=false:=decide_eq_false hle
  rw[hd]
  have HDQ:Hid (BL S ⟨ns,es,last⟩ q budget=(0,6,⟨ns,es,last⟩)):=hid (by rw[HDP.out,if_neg hle])
  clear hd HDP hle
  go_wp2_with fail
  go_ret2
  refine⟨?_,?_⟩
  ·rw[HDQ.out]
   rfl
  ·rw[HDQ.out]
   exact pV.same H.out HB4.out
end
def pk (c n:Int):Int:=if c<0 then -(c+1) % n else c % n
theorem ma {c n:Int} (hn:0<n):0≤pk c n:=by unfold pk;split<;>exact Int.emod_nonneg _ (by omega)
theorem zb {c n:Int} (hn:0<n):pk c n<n:=by unfold pk;split<;>exact Int.emod_lt_of_pos _ hn
def D6 (c:Int):ByteArray:=if pk c 3=0 then ⟨#[65]⟩ else if pk c 3=1 then ⟨#[66]⟩ else ⟨#[72]⟩
def GP (c:Int):Int:=pk c 7 - 3
theorem Cd (c:Int):-3≤GP c∧GP c≤3:=by
 have h0:=ma (c:=c) (n:=7) (by omega)
 have h1:=zb (c:=c) (n:=7) (by omega)
 unfold GP;omega
namespace Pure
theorem KD {a b:ByteArray} (h:a.data.toList=b.data.toList):a=b:=by
 cases a;cases b
 simp only[ByteArray.mk.injEq]
 exact Array.toList_inj.1 h
theorem C4 (c:Int):cD (D6 c)=true:=by
 unfold D6
 split
 ·decide +kernel
 ·split<;>decide +kernel
theorem J1 (c:Int):oD (GP c):=by have:=Cd c;exact⟨by omega,by omega⟩
end Pure
namespace Pure
theorem yL (c:Int):(dB (GP c)).size≤11:=(nD (J1 c)).2
theorem zt (c:Int):(D6 c).size≤11:=(kE (C4 c)).2
end Pure
section
open Go.RowKit
theorem CI {t:gj} (h:je t):ux t.val:=by
 rcases h with ⟨_,_,h⟩|⟨_,_,h⟩
 ·exact⟨by have:=h.1;omega,by have:=h.2;omega⟩
 ·rw[h];exact⟨by omega,by omega⟩
theorem tu {q:au} (h:jk q) (hs:eG q=true):parseText (fg ⟨(iy (cJ q)).toArray⟩)=(q,0):=by
 have ht:fg ⟨(iy (cJ q)).toArray⟩=some (Pure.K (cJ q)):=by
  unfold fg
  rw[if_neg (by have:=Pure.wb h;omega),Pure.xW h]
 rw[mI ht]
 unfold fj
 simp only[Pure.xn h,hs]
 rfl
theorem qU (s:ByteArray):((parseText (fg s)).2=0∧jk (parseText (fg s)).1∧eG (parseText (fg s)).1=true)∨(parseText (fg s)).2=3∨(parseText (fg s)).2=4:=by
 cases ht:fg s with
 | none=>right;left;rfl
 | some ts=>
  have h:=mI ht
  rw[ht] at h
  rw[h]
  by_cases he:(fj ts).2=0
  ·left
   refine⟨he,(Pure.zI he).2,?_⟩
   revert he
   unfold fj
   simp only
   split
   ·simp
   ·split
    ·intro _;assumption
    ·simp
  ·right
   revert he
   unfold fj
   simp only
   split
   ·simp
   ·split<;>simp
end
section
open Go.RowKit Go.Maps Go.Sort
theorem jC:e0.size≤maxLen:=by unfold maxLen;decide
theorem dI {s:ByteArray} (h:bN s=true):s.size≤maxLen:=by have h1:=(Pure.fM h).2;unfold maxLen;omega
theorem nA {s:ByteArray} (h:cD s=true):s.size≤maxLen:=by have h1:=(Pure.kE h).2;unfold maxLen;omega
theorem oU {t:gj} (h:je t):t.name.size≤maxLen∧t.key.size≤maxLen:=by
 rcases h with ⟨a,b,_⟩|⟨a,b,_⟩
 ·rw[a,b];exact⟨jC,jC⟩
 ·exact⟨dI a,dI b⟩
theorem rH {q:au} (h:gK q):oL q:=by
 refine⟨h.qW,fun s hs=>?_,fun s hs=>?_,by have:=h.qY;omega,fun c hc=>?_⟩
 ·have hg:=h.ai s hs
  have hl:s.label.size≤maxLen:=by
   rcases hg.wy with e|e
   ·rw[e];exact jC
   ·exact nA e
  rcases hg.KX with ⟨_,a,b⟩|⟨_,a,b,c⟩
  ·exact⟨dI hg.IM,hl,by omega,by omega,by omega,by omega⟩
  ·exact⟨dI hg.IM,hl,by omega,by omega,by omega,by omega⟩
 ·obtain⟨x,r,e,hx⟩:=h.first
  rw[e] at hs
  injection hs with hs
  rw[←hs,hx]
  exact Pure.dY
 ·have hg:=h.conds c hc
  have h1:=oU hg.K4
  have h2:c.b.name.size≤maxLen∧c.b.key.size≤maxLen:=by
   rcases hg.KZ with ⟨_,hb⟩|⟨_,hb⟩
   ·exact oU hb
   ·rw[hb];exact⟨jC,jC⟩
  exact⟨h1.1,h1.2,h2.1,h2.2⟩
theorem Cq {q:au} (h:nO q):I8 q∧oL q∧q.kind=1:=by
 obtain⟨hm,hi,hne,hl,o0,o1,_,s0,s1,li,e⟩:=h
 refine⟨⟨⟨?_,hl⟩,fun x hx=>?_,⟨o0,by omega⟩,⟨s0,s1⟩,by omega⟩,rH hm,by rw[e]⟩
 ·cases hq:q.items with
  | nil=>exact absurd hq hne
  | cons a r=>simp
 ·rcases hi x hx with ⟨a,b⟩|⟨a,b⟩
  ·rw[a,b];exact⟨jC,jC⟩
  ·refine⟨dI a,?_⟩
   rcases b with b|b
   ·rw[b];exact jC
   ·exact dI b
theorem qj {q:au} (h:mM q):oL q∧q.kind=2∧q.name.size≤maxLen∧q.key.size≤maxLen∧q.value.key.size≤maxLen∧(Lit.int .i64 q.value.val).wf=true:=by
 obtain⟨hm,hn,hk,hv,e⟩:=h
 exact⟨rH hm,by rw[e],dI hn,dI hk,(oU hv).2,WalkArith.wf_i64 (CI hv)⟩
theorem ol {q:au} (h:kz q):oL q∧q.kind=3∧q.name.size≤maxLen:=by
 obtain⟨hm,hn,e⟩:=h
 exact⟨rH hm,by rw[e],dI hn⟩
theorem og {q:au} (h:km q):oL q∧q.kind=4∧q.name.size≤maxLen∧q.dest.size≤maxLen∧q.type.size≤maxLen:=by
 obtain⟨hm,hn,ht,hk,e⟩:=h
 exact⟨rH hm,by rw[e],dI hn,dI hk,nA ht⟩
theorem mQ {q:au} (h:iS q):q.kind=5∧q.label.size≤maxLen∧q.ay.length≤6∧∀p∈q.ay,p.key.size≤maxLen∧(Lit.int .i64 p.val).wf=true:=by
 obtain⟨hl,hp,h6,_,e⟩:=h
 refine⟨by rw[e],nA hl,h6,fun p hpp=>?_⟩
 obtain⟨a,b,c⟩:=hp p hpp
 exact⟨dI a,WalkArith.wf_i64 ⟨by omega,by omega⟩⟩
theorem wO {q:au} (h:tQ q):q.kind=6∧q.name.size≤maxLen:=by
 obtain⟨hn,e⟩:=h
 exact⟨by rw[e],dI hn⟩
end
end Go.Proofs.YtobgbmfpicmpcaaGreatDoor
