/- Define, where there is no view yet, and where there is. -/
import Derived.Test.YtobgbmfpicmpcaaGreatDoorDV02
import Derived.Test.YtobgbmfpicmpcaaGreatDoorC41
import Derived.Lib.Hide
set_option maxRecDepth 100000
set_option maxHeartbeats 8000000
namespace Go.Proofs.YtobgbmfpicmpcaaGreatDoor
open Go.Lib (hid)
section
open Go.RowKit Go.Maps Go.Sort
theorem th (nm rn:ByteArray) (rb:Nat) (q:au) (vs vc vi vp:Value):Tryz.prog.built 145 [(0,.string nm),(1,.agg #[.string rn,.map (some rb)]),(2,.agg (qC q vs vc vi vp))]=some (gA nm rn rb q vs vc vi vp):=by kernel_rfl
theorem gr {ops:Array Oper} {S:World→Prop} {op:Oper} {a:Act} (hw:Region.wanted op (yielded ops a.tmps)=true) {x0 x1 x2:Operand} (ho:op.op=.build 145 #[(0,x0),(1,x1),(2,x2)]) (nm rn:ByteArray) (rb:Nat) (q:au) (vs vc vi vp:Value) (h0:a.eval x0=.string nm) (h1:a.eval x1=.agg #[.string rn,.map (some rb)]) (h2:a.eval x2=.agg (qC q vs vc vi vp)):YieldsIf Tryz.prog ops S op (.agg (gA nm rn rb q vs vc vi vp)) a:=by
 refine .inl ⟨hw,fun w _=>?_⟩
 have he:((#[(0,x0),(1,x1),(2,x2)]:Array (Nat × Operand)).map fun (i,x)=>(i,a.eval x)).toList=[(0,.string nm),(1,.agg #[.string rn,.map (some rb)]),(2,.agg (qC q vs vc vi vp))]:=by
  simp only[List.map_toArray,List.map_cons,List.map_nil,h0,h1,h2]
 unfold execOp
 simp only[ho,Sem.run_bind,run_build w 145 _ _ (by rw[he];exact th nm rn rb q vs vc vi vp),Result.andThen_ok]
 rfl
theorem cz {w:World} {ops:Array Oper} {o:Oper} {a:Act} {K:Act→World→Prop} {Q:Exit→Act→World→Prop} {E:Prop} (hgd:o.guard=none) (x:Operand) (ho:o.op=.buildSlice 127 1 #[(0,x)]) (nm rn:ByteArray) (rb:Nat) (q:au) (a1 a2 a3 a4:Option Addr) (n1 n2 n3 n4 k1 k2 k3 k4:Nat) (hx:a.eval x=.agg (gA nm rn rb q (.slice a1 n1 k1) (.slice a2 n2 k2) (.slice a3 n3 k3) (.slice a4 n4 k4)))
  (h:K (a.put o.dst (.slice (some ⟨w.heap.size,0,none⟩) 1 1)) (w.alloc (.cells (gA nm rn rb q (.slice a1 n1 k1) (.slice a2 n2 k2) (.slice a3 n3 k3) (.slice a4 n4 k4)) 145))):if Region.wanted o (yielded ops a.tmps)=true then Oper.wp Tryz.prog o a w K Q else E:=by
 have hw:Region.wanted o (yielded ops a.tmps)=true:=by simp[Region.wanted,hgd]
 rw[if_pos hw]
 unfold Oper.wp execOp
 simp only[ho,List.map_toArray,List.map_cons,List.map_nil,hx]
 unfold gA at h⊢
 go_simp
 exact h
theorem Tryz.ki (args:Array Value) (w:World):(callFunc 74 args).run Tryz.prog w=.ok (.enter 74 args) w:=by go_simp
theorem Tryz.Is:(Tryz.prog.info? 145).map (fun i=>(i.zero,i.size,i.bytes))=some (some (.agg iM),20,296):=by kernel_rfl
theorem lg (nm rn:ByteArray) (rb:Nat) (q:au) {a1 a2 a3 a4:Option Addr} {n1 n2 n3 n4 k1 k2 k3 k4:Nat}:(gA nm rn rb q (.slice a1 n1 k1) (.slice a2 n2 k2) (.slice a3 n3 k3) (.slice a4 n4 k4)).all (·.oneCell')=true:=by
 simp[gA,Value.oneCell']
theorem j3 (nm rn:ByteArray) (rb:Nat) (q:au) {a1 a2 a3 a4:Option Addr} {n1 n2 n3 n4 k1 k2 k3 k4:Nat}:∀u∈(gA nm rn rb q (.slice a1 n1 k1) (.slice a2 n2 k2) (.slice a3 n3 k3) (.slice a4 n4 k4)).toList,u.oneCell'=true:=by
 intro u hu
 have h:=lg nm rn rb q (a1:=a1) (a2:=a2) (a3:=a3) (a4:=a4) (n1:=n1) (n2:=n2) (n3:=n3) (n4:=n4) (k1:=k1) (k2:=k2) (k3:=k3) (k4:=k4)
 rw[←Array.all_toList] at h
 exact List.all_eq_true.1 h u hu
theorem jd.L9 {B:Nat} {q:au} {vs vc vi vp:Value} {w:World} (h:jd B q vs vc vi vp w):jd 0 q vs vc vi vp w:=⟨bQ h.rs (Nat.zero_le _),bQ h.rc (Nat.zero_le _),bQ h.rt (Nat.zero_le _),bQ h.rp (Nat.zero_le _)⟩
theorem LQ {B G m:Nat} {pol:List cU} {cs:Array Value} {vn ve:Value} {ns:List aq} {es:List aJ} {last:Int} {W:World} {nm role text:ByteArray} {ev:Value} {r:cU} {q:au} (h:VG B G pol cs vn ve ns es last m W) (hs:text.size≤maxLen) (hf:jg pol role=some r) (hpq:parseText (fg text)=(q,0)) (hkd:q.kind=1) (hw:bj nm=1) (hnm:nm.size≤2000) (hge:∀w,Below W.heap.size W w→w.cell? ⟨5,0,none⟩=some ev) (hev:ev=.nilIface∨∃te pe,ev=.iface te pe):
  Calls Tryz.prog 33 #[.pointer (some ⟨G,0,none⟩),.string nm,.string role,.string text] W fun e W'=>e=.returned (.int .i64 0)∧∃V vc vs vcn vi vp,Loc W' G (cs.setIfInBounds 4 (.slice (some ⟨V,0,none⟩) 1 vc)) 129∧W'.ownsRow 0 145 20 (.slice (some ⟨V,0,none⟩) 1 vc) 1 (gA nm r.1 r.2.1 q vs vcn vi vp).toList∧jd 0 q vs vcn vi vp W'∧Kept (fun b=>b=G) W W':=by
 obtain⟨vp,mp,c0,hp⟩:=h.KY
 obtain⟨ap,cp,rfl⟩:=bB hp.own
 have p0:W.cell? ⟨G,0,none⟩=some (.slice ap pol.length cp):=(h.own.bZ.cell 0).trans c0
 have HRO:=hid (Gq (nm:=role) hp.rF (aP hp.own hp.own.1))
 rw[hf] at HRO
 have H:=hid h
 have HS:=hid hs
 have HGE:=hid hge
 have HEV:=hid hev
 have HPQ:=hid hpq
 have HKD:=hid hkd
 have HW:=hid hw
 have HNM:=hid hnm
 clear hw hnm h hs hge hev c0 hp hf hpq hkd
 obtain⟨rn,rb,S⟩:=r
 unfold zu at HRO
 simp only at HRO
 go_enter Tryz.func33,Tryz.ntmps33
 go_wp2_with fail
 refine HRO.out.mono ?_
 rintro e W1 ⟨rfl,hb1⟩
 have HB1:=hid hb1
 clear hb1 HRO p0
 have HB2:=hid (HB1.out.alloc HB1.out.size (.cells #[.string rn,.map (some rb)] 118))
 have HR2:=hid (Loc.new W1 #[.string rn,.map (some rb)] 118)
 go_upto_region 4 with fail
 obtain⟨Y,hY⟩:∃Y,Y=W1.heap.size:=⟨_,rfl⟩
 have HYN:Hid (W.heap.size≤Y):=hid (by rw[hY];exact HB1.out.size)
 rw[←hY] at HR2⊢
 clear hY
 generalize W1.alloc (.cells #[.string rn,.map (some rb)] 118)=W2 at HB2 HR2⊢
 go_wp2_with fail
 refine(Dd text W2 (HGE.out W2 HB2.out) HEV.out HS.out).mono ?_
 rw[HPQ.out]
 rintro e W3 ⟨hb,vs,vc,vi,vp,rfl,hrows⟩
 simp only at hrows⊢
 obtain⟨sa,sc,rfl,m1⟩:=aU (l:=q.ai) hrows.rs
 obtain⟨ca,cc,rfl,m2⟩:=aU (l:=q.conds) hrows.rc
 obtain⟨ia,ic,rfl,m3⟩:=aU (l:=q.items) hrows.rt
 obtain⟨pa,pc,rfl,m4⟩:=aU (l:=q.ay) hrows.rp
 clear m1 m2 m3 m4
 obtain⟨qc,hqc⟩:∃qc,qC q (.slice sa q.ai.length sc) (.slice ca q.conds.length cc) (.slice ia q.items.length ic) (.slice pa q.ay.length pc)=qc:=⟨_,rfl⟩
 have hqs:qc.size=17:=by rw[←hqc];rfl
 have hqo:qc.all (·.oneCell')=true:=by rw[←hqc];exact nh q
 have q0:qc[0]?=some (.int .i64 q.kind):=by rw[←hqc];rfl
 have q8:qc[8]?=some (.string q.name):=by rw[←hqc];rfl
 have HQC:=hid hqc
 rw[hqc]
 have HQS:Hid ((Tryz.prog.info? 29).map (·.size)=some qc.toList.length):=hid (by rw[Tryz.aX,Array.length_toList,hqs])
 have kb:=AM (w:=W3) (cs:=qc) (T:=29) zq
 have HQI:=hid (hrows.later kb)
 have HL4:Hid (Loc ((W3.alloc (.cells zq 29)).setCells W3.heap.size 0 qc.toList) W3.heap.size qc 29):=hid ((Loc.new W3 zq 29).dh (new:=qc) (by rw[hqs];rfl))
 have HB3:=hid (HB2.out.trans (hb.mono HB2.out.size))
 have HB4:=hid (HB3.out.trans (kb.mono HB3.out.size))
 have HR4:=hid ((HR2.out.grown (af hb none) (by simp)).grown (af kb none) (by simp))
 clear hb hrows kb HR2 HB2 hqc
 rename_i KK hKK
 refine hKK _ _ ?_
 clear hKK KK
 refine iF rfl rfl ?_
 refine iY rfl rfl rfl rfl ?_
 refine iY rfl rfl rfl rfl ?_
 refine kY rfl rfl ?_
 refine wpList_store_mid rfl 29 _ _ rfl W3.heap.size 0 qc rfl rfl (by rw[hqs];exact(Loc.new W3 zq 29).there) (by rw[hqs];exact Tryz.aX) hqo ?_
 obtain⟨X,hX⟩:∃X,X=W3.heap.size:=⟨_,rfl⟩
 have HXN:Hid (W.heap.size≤X):=hid (by rw[hX];exact HB3.out.size)
 rw[←hX] at HL4 HQI HB4 HR4⊢
 clear hX hqo
 generalize (W3.alloc (.cells zq 29)).setCells X 0 qc.toList=W4 at HL4 HQI HB4 HR4⊢
 have k0:W4.cell? ⟨X,0,none⟩=some (.int .i64 q.kind):=(HL4.out.cell 0).trans q0
 rw[HKD.out] at k0
 go_wp2_with fail
 refine(CN (nm:=nm) (H.out.later HB4.out).own.bZ H.out.BQ).mono ?_
 rintro e W5 ⟨rfl,hb5⟩
 have hz:Below W5.heap.size W5 ((W5.alloc (.cells iM 145)).setCells W5.heap.size 0 iM.toList):=((Below.refl W5.heap.size W5).alloc (Nat.le_refl _) (.cells iM 145)).grown (aS W5.heap.size iM.toList 0 _) (by simp) (fun j hj=>by injection hj with hj;rw[←hj];exact Nat.le_refl _)
 have hb6:=hb5.trans (hz.mono hb5.size)
 have HB6:=hid (HB4.out.trans (hb6.mono HB4.out.size))
 have HL6:=hid (HL4.out.grown (af hb6 none) (by simp))
 have HR6:=hid (HR4.out.grown (af hb6 none) (by simp))
 have HQ6:=hid (HQI.out.later hb6)
 have k6:((W5.alloc (.cells iM 145)).setCells W5.heap.size 0 iM.toList).cell? ⟨X,0,none⟩=some (.int .i64 1):=(hb6.cell (block_lt_of_cell k0)).trans k0
 clear hb5 hz hb6 HL4 HR4 HQI k0 HB4
 rename_i KK hKK
 refine hKK _ _ ?_
 clear hKK KK
 refine iF rfl rfl ?_
 refine iY rfl rfl rfl rfl ?_
 refine iY rfl rfl rfl rfl ?_
 refine lY rfl rfl ?_
 refine wpList_store_mid rfl 145 _ _ rfl W5.heap.size 0 iM rfl rfl (Loc.new W5 iM 145).there Tryz.sU uF ?_
 obtain⟨Z,hZ⟩:∃Z,Z=W5.heap.size:=⟨_,rfl⟩
 rw[←hZ] at HB6 HL6 HR6 HQ6 k6⊢
 clear hZ
 generalize (W5.alloc (.cells iM 145)).setCells Z 0 iM.toList=W6 at HB6 HL6 HR6 HQ6 k6⊢
 have g4:W6.cell? ⟨G,4,none⟩=some (.slice none 0 0):=((H.out.later HB6.out).own.bZ.cell 4).trans H.out.BQ
 go_wp2_with fail
 refine(eC nm _).mono ?_
 rintro e w7 ⟨rfl,hw7⟩
 obtain rfl:=hw7.symm
 rw[HW.out]
 go_upto_region 14 with fail
 clear k6 g4
 obtain⟨i0,hi,hz0,hz1,hz2⟩:=info_parts Tryz.Is
 have HI0:=hid (And.intro hi (And.intro hz0 (And.intro hz1 hz2)))
 clear hi hz0 hz1 hz2
 have hqc2:=HQC.out
 subst hqc2
 have HSC:Hid (∀w,Below W6.heap.size W6 w→w.cell? ⟨Y,0,none⟩=some (.string rn)∧w.cell? ⟨Y,1,none⟩=some (.map (some rb))∧w.rangeAt X 0 (qC q (.slice sa q.ai.length sc) (.slice ca q.conds.length cc) (.slice ia q.items.length ic) (.slice pa q.ay.length pc)).toList):=hid (fun w hb=>by
  have h1:=HR6.out.grown (af hb none) (by simp)
  exact⟨(h1.cell 0).trans rfl,(h1.cell 1).trans rfl,(HL6.out.grown (af hb none) (by simp)).range⟩)
 have HDW:Hid (Below W6.heap.size W6 W6.drew):=hid ⟨rfl,rfl,rfl,Nat.le_refl _,fun _ _=>rfl⟩
 refine wp_region_noPanic ?_
 refine wp_region_held_drew (S:=fun w=>w.cell? ⟨Y,0,none⟩=some (.string rn)∧w.cell? ⟨Y,1,none⟩=some (.map (some rb))∧w.rangeAt X 0 (qC q (.slice sa q.ai.length sc) (.slice ca q.conds.length cc) (.slice ia q.items.length ic) (.slice pa q.ay.length pc)).toList) (by kernel_rfl) (HSC.out _ HDW.out) (fun hHeld0=>?_)
 refine wpAnyH_take (i:=0) (v:=?v0) rfl (by kernel_rfl) (by kernel_rfl) (by kernel_rfl) (fun _ _ _ h=>h) (Or.inl ⟨by rfl,?y0⟩) hHeld0 ?r0
 case y0=>(intro w hSw;go_simp;(try with_reducible rfl))
 simp only[Act.put,List.getElem_toArray,List.getElem_cons_zero,List.setIfInBounds_toArray,List.set_cons_zero,List.set_cons_succ]
 refine wpAnyH_take (i:=1) (v:=?v1) rfl (by kernel_rfl) (by kernel_rfl) (by kernel_rfl) (fun _ _ _ h=>h) (Or.inl ⟨by rfl,?y1⟩) hHeld0 ?r1
 case y1=>(intro w hSw;go_simp;(try with_reducible rfl))
 simp only[Act.put,List.getElem_toArray,List.getElem_cons_zero,List.getElem_cons_succ,List.setIfInBounds_toArray,List.set_cons_zero,List.set_cons_succ]
 refine wpAnyH_take (i:=2) (v:=?v2) rfl (by kernel_rfl) (by kernel_rfl) (by kernel_rfl) (fun _ _ _ h=>h) (Or.inl ⟨by rfl,?y2⟩) hHeld0 ?r2
 case y2=>(intro w hSw;go_simp;(try with_reducible rfl))
 simp only[Act.put,List.getElem_toArray,List.getElem_cons_zero,List.getElem_cons_succ,List.setIfInBounds_toArray,List.set_cons_zero,List.set_cons_succ]
 refine wpAnyH_take (i:=3) (v:=?v3) rfl (by kernel_rfl) (by kernel_rfl) (by kernel_rfl) (fun _ _ _ h=>h) (Or.inl ⟨by rfl,?y3⟩) hHeld0 ?r3
 case y3=>(intro w hSw;go_simp;(try with_reducible rfl))
 simp only[Act.put,List.getElem_toArray,List.getElem_cons_zero,List.getElem_cons_succ,List.setIfInBounds_toArray,List.set_cons_zero,List.set_cons_succ]
 refine wpAnyH_take (i:=5) (v:=?v5) rfl (by kernel_rfl) (by kernel_rfl) (by kernel_rfl) (fun _ _ _ h=>h) (Or.inl ⟨by rfl,?y5⟩) hHeld0 ?r5
 case y5=>(intro w hSw;go_simp;(try with_reducible rfl))
 simp only[Act.put,List.getElem_toArray,List.getElem_cons_zero,List.getElem_cons_succ,List.setIfInBounds_toArray,List.set_cons_zero,List.set_cons_succ]
 refine wpAnyH_take (i:=7) (v:=?v7) rfl (by kernel_rfl) (by kernel_rfl) (by kernel_rfl) (fun _ _ _ h=>h) (Or.inl ⟨by rfl,?y7⟩) hHeld0 ?r7
 case y7=>(intro w hSw;obtain⟨hc1,hc2,_⟩:=hSw;go_simp;(try with_reducible rfl))
 simp only[Act.put,List.getElem_toArray,List.getElem_cons_zero,List.getElem_cons_succ,List.setIfInBounds_toArray,List.set_cons_zero,List.set_cons_succ]
 refine wpAnyH_take (i:=8) rfl (by kernel_rfl) (by kernel_rfl) (by kernel_rfl) (fun _ _ _ h=>h) (yieldsIf_load_mid (by rfl) 29 _ rfl X 0 rfl (qC q (.slice sa q.ai.length sc) (.slice ca q.conds.length cc) (.slice ia q.items.length ic) (.slice pa q.ay.length pc)).toList _ (fun w hw=>hw.2.2) Tryz.underlying29 rfl HQS.out) hHeld0 ?_
 simp only[Act.put,List.getElem_toArray,List.getElem_cons_zero,List.getElem_cons_succ,List.setIfInBounds_toArray,List.set_cons_zero,List.set_cons_succ,Array.toArray_toList]
 have g4:W6.drew.cell? ⟨G,4,none⟩=some (.slice none 0 0):=((H.out.later (HB6.out.trans (HDW.out.mono HB6.out.size))).own.bZ.cell 4).trans H.out.BQ
 have HCL:=hid (clone nm W6.drew (by have:=HNM.out;omega))
 refine wpAnyH_ready (rs:=[4,6]) (by kernel_rfl) (by simp) ?_
 refine AllReadyH.cons rfl (fun K hK=>?_) (AllReadyH.cons rfl (fun K hK=>?_) AllReadyH.nil)
 ·go_simp
  refine hK.out _ _ hHeld0 (fun hHeld1=>?_)
  clear hK K hHeld0
  refine wpAnyH_ready (rs:=[6]) (by kernel_rfl) (by simp) ?_
  refine AllReadyH.cons rfl (fun K hK=>?_) AllReadyH.nil
  refine dW rfl 74 _ _ Tryz.ki rfl #[.string nm] (by simp[Act.eval]) HCL.out (fun e w8 hp=>?_)
  obtain⟨rfl,hb8⟩:=hp
  refine⟨_,rfl,?_⟩
  have HB8:=hid (HDW.out.trans hb8)
  refine hK.out _ _ (HSC.out w8 HB8.out) (fun hHeld2=>?_)
  clear hK K hHeld1 hb8
  simp only[Act.put,List.getElem_toArray,List.getElem_cons_zero,List.getElem_cons_succ,List.setIfInBounds_toArray,List.set_cons_zero,List.set_cons_succ]
  refine wpAnyH_take (i:=9) rfl (by kernel_rfl) (by kernel_rfl) (by kernel_rfl) (fun _ _ _ h=>h) (gr (by rfl) rfl nm rn rb q (.slice sa q.ai.length sc) (.slice ca q.conds.length cc) (.slice ia q.items.length ic) (.slice pa q.ay.length pc) rfl rfl rfl) hHeld2 ?_
  simp only[Act.put,List.getElem_toArray,List.getElem_cons_zero,List.getElem_cons_succ,List.setIfInBounds_toArray,List.set_cons_zero,List.set_cons_succ]
  refine wpAnyH_ready (rs:=[10]) (by kernel_rfl) (by simp) ?_
  refine AllReadyH.cons rfl (fun K hK=>?_) AllReadyH.nil
  refine cz rfl _ rfl nm rn rb q sa ca ia pa q.ai.length q.conds.length q.items.length q.ay.length sc cc ic pc rfl ?_
  have HBA:=hid (HB8.out.alloc HB8.out.size (.cells (gA nm rn rb q (.slice sa q.ai.length sc) (.slice ca q.conds.length cc) (.slice ia q.items.length ic) (.slice pa q.ay.length pc)) 145))
  refine hK.out _ _ (HSC.out _ HBA.out) (fun hHeld9=>?_)
  clear hK K hHeld2
  simp only[Act.put,List.getElem_toArray,List.getElem_cons_zero,List.getElem_cons_succ,List.setIfInBounds_toArray,List.set_cons_zero,List.set_cons_succ]
  refine wpAnyH_ready (rs:=[11]) (by kernel_rfl) (by simp) ?_
  refine AllReadyH.cons rfl (fun K hK=>?_) AllReadyH.nil
  refine step_append_lies _ rfl _ _ 127 rfl 0 145 i0 (.agg iM) 20 296 Tryz.underlying127 HI0.out.1 HI0.out.2.1 HI0.out.2.2.1 HI0.out.2.2.2 rfl (by decide) (.slice none 0 0) 0 [] (by simp[Act.eval]) (World.ownsRow_nil _ _ _ _) ⟨w8.heap.size,0,none⟩ 1 1 (gA nm rn rb q (.slice sa q.ai.length sc) (.slice ca q.conds.length cc) (.slice ia q.items.length ic) (.slice pa q.ay.length pc)).toList (by simp[Act.eval]) rfl (World.news_of_block (heap_alloc_new w8 _)) (j3 _ _ _ _) (by omega) (by unfold maxLen;omega) (by omega) (Nat.zero_le _) _ rfl ?_
  intro g2 cap2 w9 hown hgrow _ _
  have HB9:=hid (HBA.out.grown hgrow HBA.out.size (fun k hk=>by cases hk))
  have HOW:=hid hown
  refine hK.out _ _ (HSC.out _ HB9.out) (fun hHeldA=>?_)
  clear hK K hHeld9 hown hgrow
  simp only[Act.put,List.getElem_toArray,List.getElem_cons_zero,List.getElem_cons_succ,List.setIfInBounds_toArray,List.set_cons_zero,List.set_cons_succ]
  refine wpAnyH_take (i:=12) (v:=?v121) rfl (by kernel_rfl) (by kernel_rfl) (by kernel_rfl) (fun _ _ _ h=>h) (Or.inl ⟨by rfl,?y121⟩) hHeldA ?r121
  case y121=>(intro w hSw;go_simp;(try with_reducible rfl))
  simp only[Act.put,List.getElem_toArray,List.getElem_cons_zero,List.getElem_cons_succ,List.setIfInBounds_toArray,List.set_cons_zero,List.set_cons_succ]
  refine wpAnyH_take (i:=13) (v:=?v131) rfl (by kernel_rfl) (by kernel_rfl) (by kernel_rfl) (fun _ _ _ h=>h) (Or.inl ⟨by rfl,?y131⟩) hHeldA ?r131
  case y131=>(intro w hSw;go_simp;(try with_reducible rfl))
  simp only[Act.put,List.getElem_toArray,List.getElem_cons_zero,List.getElem_cons_succ,List.setIfInBounds_toArray,List.set_cons_zero,List.set_cons_succ]
  refine wpAnyH_ready (rs:=[14]) (by kernel_rfl) (by simp) ?_
  refine AllReadyH.cons rfl (fun K hK=>?_) AllReadyH.nil
  have HLG:=hid ((H.out.later (HB6.out.trans (HB9.out.mono HB6.out.size))).own.bZ)
  have c9:w9.cell? ⟨G,4,none⟩=some (.slice none 0 0):=(HLG.out.cell 4).trans H.out.BQ
  have f9:=HLG.out.free 4
  have HSF:Hid (∀v,((w9.setCell ⟨G,4,none⟩ v).cell? ⟨Y,0,none⟩=some (.string rn)∧(w9.setCell ⟨G,4,none⟩ v).cell? ⟨Y,1,none⟩=some (.map (some rb))∧(w9.setCell ⟨G,4,none⟩ v).rangeAt X 0 (qC q (.slice sa q.ai.length sc) (.slice ca q.conds.length cc) (.slice ia q.items.length ic) (.slice pa q.ay.length pc)).toList)):=hid (fun v=>by
   have h1:=(HR6.out.grown (af HB9.out none) (by simp)).setOther (b':=G) (by have h2:=HYN.out;have h3:=H.out.own.bZ.lt;omega) 4 v
   have h4:=(HL6.out.grown (af HB9.out none) (by simp)).setOther (b':=G) (by have h2:=HXN.out;have h3:=H.out.own.bZ.lt;omega) 4 v
   exact⟨(h1.cell 0).trans rfl,(h1.cell 1).trans rfl,h4.range⟩)
  go_simp
  refine hK.out _ _ (HSF.out _) (fun hHeldB=>?_)
  clear hK K hHeldA c9 f9 hHeldB
  refine wpAnyH_done (by kernel_rfl) ?_ _
  refine NoPanic.normal ?_
  go_simp
  go_wp2_with fail
  go_ret
  refine⟨rfl,g2,cap2,HLG.out.set 4 _,.slice sa q.ai.length sc,.slice ca q.conds.length cc,.slice ia q.items.length ic,.slice pa q.ay.length pc,tR HOW.out (fun g hg=>Below.heap_setCell w9 ⟨G,4,none⟩ _ g (fun e=>aQ HOW.out HLG.out (by decide) (by rw[hg];exact congrArg some e))),?_,?_⟩
  ·have h1:=(HQ6.out.later HB9.out).L9
   exact⟨tR h1.rs (fun g hg=>Below.heap_setCell w9 ⟨G,4,none⟩ _ g (fun e=>aQ h1.rs HLG.out (by decide) (by rw[hg];exact congrArg some e))),tR h1.rc (fun g hg=>Below.heap_setCell w9 ⟨G,4,none⟩ _ g (fun e=>aQ h1.rc HLG.out (by decide) (by rw[hg];exact congrArg some e))),tR h1.rt (fun g hg=>Below.heap_setCell w9 ⟨G,4,none⟩ _ g (fun e=>aQ h1.rt HLG.out (by decide) (by rw[hg];exact congrArg some e))),tR h1.rp (fun g hg=>Below.heap_setCell w9 ⟨G,4,none⟩ _ g (fun e=>aQ h1.rp HLG.out (by decide) (by rw[hg];exact congrArg some e)))⟩
  ·exact(((Kept.refl _ W).below (HB6.out.trans (HB9.out.mono HB6.out.size))).then (aC w9 G 4 _) (fun k hk=>Or.inl (Option.some.inj hk).symm))
 ·refine dW rfl 74 _ _ Tryz.ki rfl #[.string nm] (by simp[Act.eval]) HCL.out (fun e w8 hp=>?_)
  obtain⟨rfl,hb8⟩:=hp
  refine⟨_,rfl,?_⟩
  have HB8:=hid (HDW.out.trans hb8)
  have g8:w8.cell? ⟨G,4,none⟩=some (.slice none 0 0):=(hb8.cell (block_lt_of_cell g4)).trans g4
  refine hK.out _ _ (HSC.out w8 HB8.out) (fun hHeld2=>?_)
  clear hK K hHeld0 hb8
  simp only[Act.put,List.getElem_toArray,List.getElem_cons_zero,List.getElem_cons_succ,List.setIfInBounds_toArray,List.set_cons_zero,List.set_cons_succ]
  refine wpAnyH_take (i:=9) rfl (by kernel_rfl) (by kernel_rfl) (by kernel_rfl) (fun _ _ _ h=>h) (gr (by rfl) rfl nm rn rb q (.slice sa q.ai.length sc) (.slice ca q.conds.length cc) (.slice ia q.items.length ic) (.slice pa q.ay.length pc) rfl rfl rfl) hHeld2 ?_
  simp only[Act.put,List.getElem_toArray,List.getElem_cons_zero,List.getElem_cons_succ,List.setIfInBounds_toArray,List.set_cons_zero,List.set_cons_succ]
  refine wpAnyH_ready (rs:=[4,10]) (by kernel_rfl) (by simp) ?_
  refine AllReadyH.cons rfl (fun K hK=>?_) (AllReadyH.cons rfl (fun K hK=>?_) AllReadyH.nil)
  ·go_simp
   refine hK.out _ _ hHeld2 (fun hHeld3=>?_)
   clear hK K hHeld2
   refine wpAnyH_ready (rs:=[10]) (by kernel_rfl) (by simp) ?_
   refine AllReadyH.cons rfl (fun K hK=>?_) AllReadyH.nil
   refine cz rfl _ rfl nm rn rb q sa ca ia pa q.ai.length q.conds.length q.items.length q.ay.length sc cc ic pc rfl ?_
   have HBA:=hid (HB8.out.alloc HB8.out.size (.cells (gA nm rn rb q (.slice sa q.ai.length sc) (.slice ca q.conds.length cc) (.slice ia q.items.length ic) (.slice pa q.ay.length pc)) 145))
   refine hK.out _ _ (HSC.out _ HBA.out) (fun hHeld9=>?_)
   clear hK K hHeld3
   simp only[Act.put,List.getElem_toArray,List.getElem_cons_zero,List.getElem_cons_succ,List.setIfInBounds_toArray,List.set_cons_zero,List.set_cons_succ]
   refine wpAnyH_ready (rs:=[11]) (by kernel_rfl) (by simp) ?_
   refine AllReadyH.cons rfl (fun K hK=>?_) AllReadyH.nil
   refine step_append_lies _ rfl _ _ 127 rfl 0 145 i0 (.agg iM) 20 296 Tryz.underlying127 HI0.out.1 HI0.out.2.1 HI0.out.2.2.1 HI0.out.2.2.2 rfl (by decide) (.slice none 0 0) 0 [] (by simp[Act.eval]) (World.ownsRow_nil _ _ _ _) ⟨w8.heap.size,0,none⟩ 1 1 (gA nm rn rb q (.slice sa q.ai.length sc) (.slice ca q.conds.length cc) (.slice ia q.items.length ic) (.slice pa q.ay.length pc)).toList (by simp[Act.eval]) rfl (World.news_of_block (heap_alloc_new w8 _)) (j3 _ _ _ _) (by omega) (by unfold maxLen;omega) (by omega) (Nat.zero_le _) _ rfl ?_
   intro g2 cap2 w9 hown hgrow _ _
   have HB9:=hid (HBA.out.grown hgrow HBA.out.size (fun k hk=>by cases hk))
   have HOW:=hid hown
   refine hK.out _ _ (HSC.out _ HB9.out) (fun hHeldA=>?_)
   clear hK K hHeld9 hown hgrow
   simp only[Act.put,List.getElem_toArray,List.getElem_cons_zero,List.getElem_cons_succ,List.setIfInBounds_toArray,List.set_cons_zero,List.set_cons_succ]
   refine wpAnyH_take (i:=12) (v:=?v122) rfl (by kernel_rfl) (by kernel_rfl) (by kernel_rfl) (fun _ _ _ h=>h) (Or.inl ⟨by rfl,?y122⟩) hHeldA ?r122
   case y122=>(intro w hSw;go_simp;(try with_reducible rfl))
   simp only[Act.put,List.getElem_toArray,List.getElem_cons_zero,List.getElem_cons_succ,List.setIfInBounds_toArray,List.set_cons_zero,List.set_cons_succ]
   refine wpAnyH_take (i:=13) (v:=?v132) rfl (by kernel_rfl) (by kernel_rfl) (by kernel_rfl) (fun _ _ _ h=>h) (Or.inl ⟨by rfl,?y132⟩) hHeldA ?r132
   case y132=>(intro w hSw;go_simp;(try with_reducible rfl))
   simp only[Act.put,List.getElem_toArray,List.getElem_cons_zero,List.getElem_cons_succ,List.setIfInBounds_toArray,List.set_cons_zero,List.set_cons_succ]
   refine wpAnyH_ready (rs:=[14]) (by kernel_rfl) (by simp) ?_
   refine AllReadyH.cons rfl (fun K hK=>?_) AllReadyH.nil
   have HLG:=hid ((H.out.later (HB6.out.trans (HB9.out.mono HB6.out.size))).own.bZ)
   have c9:w9.cell? ⟨G,4,none⟩=some (.slice none 0 0):=(HLG.out.cell 4).trans H.out.BQ
   have f9:=HLG.out.free 4
   have HSF:Hid (∀v,((w9.setCell ⟨G,4,none⟩ v).cell? ⟨Y,0,none⟩=some (.string rn)∧(w9.setCell ⟨G,4,none⟩ v).cell? ⟨Y,1,none⟩=some (.map (some rb))∧(w9.setCell ⟨G,4,none⟩ v).rangeAt X 0 (qC q (.slice sa q.ai.length sc) (.slice ca q.conds.length cc) (.slice ia q.items.length ic) (.slice pa q.ay.length pc)).toList)):=hid (fun v=>by
    have h1:=(HR6.out.grown (af HB9.out none) (by simp)).setOther (b':=G) (by have h2:=HYN.out;have h3:=H.out.own.bZ.lt;omega) 4 v
    have h4:=(HL6.out.grown (af HB9.out none) (by simp)).setOther (b':=G) (by have h2:=HXN.out;have h3:=H.out.own.bZ.lt;omega) 4 v
    exact⟨(h1.cell 0).trans rfl,(h1.cell 1).trans rfl,h4.range⟩)
   go_simp
   refine hK.out _ _ (HSF.out _) (fun hHeldB=>?_)
   clear hK K hHeldA c9 f9 hHeldB
   refine wpAnyH_done (by kernel_rfl) ?_ _
   refine NoPanic.normal ?_
   go_simp
   go_wp2_with fail
   go_ret
   refine⟨rfl,g2,cap2,HLG.out.set 4 _,.slice sa q.ai.length sc,.slice ca q.conds.length cc,.slice ia q.items.length ic,.slice pa q.ay.length pc,tR HOW.out (fun g hg=>Below.heap_setCell w9 ⟨G,4,none⟩ _ g (fun e=>aQ HOW.out HLG.out (by decide) (by rw[hg];exact congrArg some e))),?_,?_⟩
   ·have h1:=(HQ6.out.later HB9.out).L9
    exact⟨tR h1.rs (fun g hg=>Below.heap_setCell w9 ⟨G,4,none⟩ _ g (fun e=>aQ h1.rs HLG.out (by decide) (by rw[hg];exact congrArg some e))),tR h1.rc (fun g hg=>Below.heap_setCell w9 ⟨G,4,none⟩ _ g (fun e=>aQ h1.rc HLG.out (by decide) (by rw[hg];exact congrArg some e))),tR h1.rt (fun g hg=>Below.heap_setCell w9 ⟨G,4,none⟩ _ g (fun e=>aQ h1.rt HLG.out (by decide) (by rw[hg];exact congrArg some e))),tR h1.rp (fun g hg=>Below.heap_setCell w9 ⟨G,4,none⟩ _ g (fun e=>aQ h1.rp HLG.out (by decide) (by rw[hg];exact congrArg some e)))⟩
   ·exact(((Kept.refl _ W).below (HB6.out.trans (HB9.out.mono HB6.out.size))).then (aC w9 G 4 _) (fun k hk=>Or.inl (Option.some.inj hk).symm))
  ·refine cz rfl _ rfl nm rn rb q sa ca ia pa q.ai.length q.conds.length q.items.length q.ay.length sc cc ic pc rfl ?_
   have HBA:=hid (HB8.out.alloc HB8.out.size (.cells (gA nm rn rb q (.slice sa q.ai.length sc) (.slice ca q.conds.length cc) (.slice ia q.items.length ic) (.slice pa q.ay.length pc)) 145))
   have qaa:(w8.alloc (.cells (gA nm rn rb q (.slice sa q.ai.length sc) (.slice ca q.conds.length cc) (.slice ia q.items.length ic) (.slice pa q.ay.length pc)) 145)).cell? ⟨G,4,none⟩=some (.slice none 0 0):=by rw[World.cell?_alloc_some _ _ _ (by rw[g8];rfl)];exact g8
   refine hK.out _ _ (HSC.out _ HBA.out) (fun hHeld4=>?_)
   clear hK K hHeld2
   simp only[Act.put,List.getElem_toArray,List.getElem_cons_zero,List.getElem_cons_succ,List.setIfInBounds_toArray,List.set_cons_zero,List.set_cons_succ]
   refine wpAnyH_ready (rs:=[4]) (by kernel_rfl) (by simp) ?_
   refine AllReadyH.cons rfl (fun K hK=>?_) AllReadyH.nil
   go_simp
   refine hK.out _ _ hHeld4 (fun hHeld9=>?_)
   clear hK K hHeld4
   refine wpAnyH_ready (rs:=[11]) (by kernel_rfl) (by simp) ?_
   refine AllReadyH.cons rfl (fun K hK=>?_) AllReadyH.nil
   refine step_append_lies _ rfl _ _ 127 rfl 0 145 i0 (.agg iM) 20 296 Tryz.underlying127 HI0.out.1 HI0.out.2.1 HI0.out.2.2.1 HI0.out.2.2.2 rfl (by decide) (.slice none 0 0) 0 [] (by simp[Act.eval]) (World.ownsRow_nil _ _ _ _) ⟨w8.heap.size,0,none⟩ 1 1 (gA nm rn rb q (.slice sa q.ai.length sc) (.slice ca q.conds.length cc) (.slice ia q.items.length ic) (.slice pa q.ay.length pc)).toList (by simp[Act.eval]) rfl (World.news_of_block (heap_alloc_new w8 _)) (j3 _ _ _ _) (by omega) (by unfold maxLen;omega) (by omega) (Nat.zero_le _) _ rfl ?_
   intro g2 cap2 w9 hown hgrow _ _
   have HB9:=hid (HBA.out.grown hgrow HBA.out.size (fun k hk=>by cases hk))
   have HOW:=hid hown
   refine hK.out _ _ (HSC.out _ HB9.out) (fun hHeldA=>?_)
   clear hK K hHeld9 hown hgrow
   simp only[Act.put,List.getElem_toArray,List.getElem_cons_zero,List.getElem_cons_succ,List.setIfInBounds_toArray,List.set_cons_zero,List.set_cons_succ]
   refine wpAnyH_take (i:=12) (v:=?v123) rfl (by kernel_rfl) (by kernel_rfl) (by kernel_rfl) (fun _ _ _ h=>h) (Or.inl ⟨by rfl,?y123⟩) hHeldA ?r123
   case y123=>(intro w hSw;go_simp;(try with_reducible rfl))
   simp only[Act.put,List.getElem_toArray,List.getElem_cons_zero,List.getElem_cons_succ,List.setIfInBounds_toArray,List.set_cons_zero,List.set_cons_succ]
   refine wpAnyH_take (i:=13) (v:=?v133) rfl (by kernel_rfl) (by kernel_rfl) (by kernel_rfl) (fun _ _ _ h=>h) (Or.inl ⟨by rfl,?y133⟩) hHeldA ?r133
   case y133=>(intro w hSw;go_simp;(try with_reducible rfl))
   simp only[Act.put,List.getElem_toArray,List.getElem_cons_zero,List.getElem_cons_succ,List.setIfInBounds_toArray,List.set_cons_zero,List.set_cons_succ]
   refine wpAnyH_ready (rs:=[14]) (by kernel_rfl) (by simp) ?_
   refine AllReadyH.cons rfl (fun K hK=>?_) AllReadyH.nil
   have HLG:=hid ((H.out.later (HB6.out.trans (HB9.out.mono HB6.out.size))).own.bZ)
   have c9:w9.cell? ⟨G,4,none⟩=some (.slice none 0 0):=(HLG.out.cell 4).trans H.out.BQ
   have f9:=HLG.out.free 4
   have HSF:Hid (∀v,((w9.setCell ⟨G,4,none⟩ v).cell? ⟨Y,0,none⟩=some (.string rn)∧(w9.setCell ⟨G,4,none⟩ v).cell? ⟨Y,1,none⟩=some (.map (some rb))∧(w9.setCell ⟨G,4,none⟩ v).rangeAt X 0 (qC q (.slice sa q.ai.length sc) (.slice ca q.conds.length cc) (.slice ia q.items.length ic) (.slice pa q.ay.length pc)).toList)):=hid (fun v=>by
    have h1:=(HR6.out.grown (af HB9.out none) (by simp)).setOther (b':=G) (by have h2:=HYN.out;have h3:=H.out.own.bZ.lt;omega) 4 v
    have h4:=(HL6.out.grown (af HB9.out none) (by simp)).setOther (b':=G) (by have h2:=HXN.out;have h3:=H.out.own.bZ.lt;omega) 4 v
    exact⟨(h1.cell 0).trans rfl,(h1.cell 1).trans rfl,h4.range⟩)
   go_simp
   refine hK.out _ _ (HSF.out _) (fun hHeldB=>?_)
   clear hK K hHeldA c9 f9 hHeldB
   refine wpAnyH_done (by kernel_rfl) ?_ _
   refine NoPanic.normal ?_
   go_simp
   go_wp2_with fail
   go_ret
   refine⟨rfl,g2,cap2,HLG.out.set 4 _,.slice sa q.ai.length sc,.slice ca q.conds.length cc,.slice ia q.items.length ic,.slice pa q.ay.length pc,tR HOW.out (fun g hg=>Below.heap_setCell w9 ⟨G,4,none⟩ _ g (fun e=>aQ HOW.out HLG.out (by decide) (by rw[hg];exact congrArg some e))),?_,?_⟩
   ·have h1:=(HQ6.out.later HB9.out).L9
    exact⟨tR h1.rs (fun g hg=>Below.heap_setCell w9 ⟨G,4,none⟩ _ g (fun e=>aQ h1.rs HLG.out (by decide) (by rw[hg];exact congrArg some e))),tR h1.rc (fun g hg=>Below.heap_setCell w9 ⟨G,4,none⟩ _ g (fun e=>aQ h1.rc HLG.out (by decide) (by rw[hg];exact congrArg some e))),tR h1.rt (fun g hg=>Below.heap_setCell w9 ⟨G,4,none⟩ _ g (fun e=>aQ h1.rt HLG.out (by decide) (by rw[hg];exact congrArg some e))),tR h1.rp (fun g hg=>Below.heap_setCell w9 ⟨G,4,none⟩ _ g (fun e=>aQ h1.rp HLG.out (by decide) (by rw[hg];exact congrArg some e)))⟩
   ·exact(((Kept.refl _ W).below (HB6.out.trans (HB9.out.mono HB6.out.size))).then (aC w9 G 4 _) (fun k hk=>Or.inl (Option.some.inj hk).symm))
end
end Go.Proofs.YtobgbmfpicmpcaaGreatDoor
