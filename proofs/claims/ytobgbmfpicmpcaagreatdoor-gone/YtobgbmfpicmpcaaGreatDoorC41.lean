/- Run. -/
import Derived.Test.YtobgbmfpicmpcaaGreatDoorC40
import Derived.Test.YtobgbmfpicmpcaaGreatDoorC09
import Derived.KernelRfl
import Derived.Lib.Hide
set_option maxRecDepth 100000
set_option maxHeartbeats 8000000
namespace Go.Proofs.YtobgbmfpicmpcaaGreatDoor
open Go.Lib (hid)
section
open Go.RowKit Go.Maps Go.Sort
def uj (b:Int):Int:=min (max b 0) 5000
def uq (S:aI→Bool) (g:oJ) (q:au) (b:Int):(List ByteArray × Int) × oJ:=
 if q.kind=1 then (eK (gq S g.ns) (jS S g.ns g.es) q b,g) else if q.kind=6 then (([],5),g) else (Jm S g q b,(tA S g q b).2.2)
def lK (pol:List cU) (g:oJ) (role text:ByteArray) (budget:Int):(List ByteArray × Int) × oJ:=
 match jg pol role with
 | none=>(([],2),g)
 | some r=>if (parseText (fg text)).2=0 then uq r.2.2 g (parseText (fg text)).1 (uj budget) else (([],(parseText (fg text)).2),g)
theorem yP (b:Int):0≤uj b∧uj b≤5000:=by unfold uj;omega
theorem Tryz.IU (args:Array Value) (w:World):(callFunc 63 args).run Tryz.prog w=.ok (.enter 63 args) w:=by go_simp
theorem Tryz.Jf (args:Array Value) (w:World):(callFunc 66 args).run Tryz.prog w=.ok (.enter 66 args) w:=by go_simp
def mD (B G m:Nat) (pol:List cU) (vn ve:Value) (ns:List aq) (W:World) (R:(List ByteArray × Int) × oJ) (e:Ending) (W':World):Prop:=
 (∃v,e=.returned (.tuple #[v,.int .i64 R.1.2])∧W'.ownsRow W.heap.size 9 1 v R.1.1.length (strs R.1.1))∧∃ns' cs' vn' ve' m',ns'.map de=R.2.ns.map de∧VG B G pol cs' vn' ve' ns' R.2.es R.2.last m' W'∧m'≤m+7000∧Kept (uz G vn ve ns) W W'
theorem mD.same {B G m:Nat} {pol:List cU} {cs:Array Value} {vn ve v:Value} {ns:List aq} {es:List aJ} {last er:Int} {W w:World} {l:List ByteArray} (h:VG B G pol cs vn ve ns es last m W) (hb:Below W.heap.size W w) (hr:w.ownsRow W.heap.size 9 1 v l.length (strs l)):mD B G m pol vn ve ns W ((l,er),⟨ns,es,last⟩) (.returned (.tuple #[v,.int .i64 er])) w:=
 ⟨⟨v,rfl,hr⟩,ns,cs,vn,ve,m,rfl,h.later hb,by omega,(Kept.refl _ W).below hb⟩
structure KT (q:au) (sa ca ia pa:Option Addr) (sc cc ic pc:Nat) (W:World):Prop where
 ss:bO W 5 (.slice sa q.ai.length sc) q.ai.length (q.ai.flatMap kN)
 sc:bO W 7 (.slice ca q.conds.length cc) q.conds.length (q.conds.flatMap kk)
 si:bO W 2 (.slice ia q.items.length ic) q.items.length (q.items.flatMap mT)
 sp:bO W 2 (.slice pa q.ay.length pc) q.ay.length (q.ay.flatMap nS)
theorem KT.later {q:au} {sa ca ia pa:Option Addr} {sc cc ic pc:Nat} {W w:World} (h:KT q sa ca ia pa sc cc ic pc W) (hb:Below W.heap.size W w):KT q sa ca ia pa sc cc ic pc w:=⟨h.ss.below hb,h.sc.below hb,h.si.below hb,h.sp.below hb⟩
theorem Jp {q:au} {B:Nat} {sa ca ia pa:Option Addr} {sc cc ic pc:Nat} {W:World} (h:jd B q (.slice sa q.ai.length sc) (.slice ca q.conds.length cc) (.slice ia q.items.length ic) (.slice pa q.ay.length pc) W):KT q sa ca ia pa sc cc ic pc W:=
 ⟨aP h.rs h.rs.1,aP h.rc h.rc.1,aP h.rt h.rt.1,aP h.rp h.rp.1⟩
theorem Iz {B G m:Nat} {pol:List cU} {cs:Array Value} {vn ve:Value} {ns:List aq} {es:List aJ} {last:Int} {W:World} {role text:ByteArray} {budget:Int} {ev:Value} (h:VG B G pol cs vn ve ns es last m W) (hg:qG ⟨ns,es,last⟩) (hm:6≤m∧m+7000<maxLen) (hB:B≤W.heap.size) (hs:text.size≤maxLen) (hbu:ux budget) (ht:∀w,Below B W w→BG w) (hge:∀w,Below B W w→w.cell? ⟨5,0,none⟩=some ev) (hev:ev=.nilIface∨∃te pe,ev=.iface te pe):
  Calls Tryz.prog 26 #[.pointer (some ⟨G,0,none⟩),.string role,.string text,.int .i64 budget] W (mD B G m pol vn ve ns W (lK pol ⟨ns,es,last⟩ role text budget)):=by
 obtain⟨vp,mp,c0,hp⟩:=h.KY
 obtain⟨ap,cp,rfl⟩:=bB hp.own
 have p0:W.cell? ⟨G,0,none⟩=some (.slice ap pol.length cp):=(h.own.bZ.cell 0).trans c0
 have HRO:=hid (Gq (nm:=role) hp.rF (aP hp.own hp.own.1))
 have H:=hid h
 have HP:=hid hp
 have HG:=hid hg
 have HMM:=hid hm
 have HBB:=hid hB
 have HS:=hid hs
 have HT:=hid ht
 have HGE:=hid hge
 have HEV:=hid hev
 obtain⟨hbu1,hbu2⟩:=hbu
 clear h hg hm hB hs ht hge hev c0 hp
 go_enter Tryz.func26,Tryz.ntmps26
 go_wp2_with fail
 refine HRO.out.mono ?_
 rintro e W1 ⟨rfl,hb1⟩
 have HB1:=hid hb1
 clear hb1 HRO p0
 cases hf:jg pol role with
 | none=>
  have HR:Hid (lK pol ⟨ns,es,last⟩ role text budget=(([],2),⟨ns,es,last⟩)):=hid (by unfold lK;rw[hf])
  clear hf
  unfold zu
  go_wp2_with fail
  go_ret2
  rw[HR.out]
  exact mD.same H.out (HB1.out.alloc HB1.out.size _) (World.ownsRow_nil _ _ _ _)
 | some r=>
  have HR:Hid (lK pol ⟨ns,es,last⟩ role text budget=if (parseText (fg text)).2=0 then uq r.2.2 ⟨ns,es,last⟩ (parseText (fg text)).1 (uj budget) else (([],(parseText (fg text)).2),⟨ns,es,last⟩)):=hid (by unfold lK;rw[hf])
  have HRR:=hid (HP.out.right r (List.mem_of_find?_eq_some hf))
  obtain⟨rn,rb,S⟩:=r
  simp only at HR HRR
  clear hf
  unfold zu
  have HB2:=hid (HB1.out.alloc HB1.out.size (.cells #[.string rn,.map (some rb)] 118))
  have HR2:=hid (Loc.new W1 #[.string rn,.map (some rb)] 118)
  go_upto_region 4 with fail
  obtain⟨Y,hY⟩:∃Y,Y=W1.heap.size:=⟨_,rfl⟩
  have HYN:Hid (W.heap.size≤Y):=hid (by rw[hY];exact HB1.out.size)
  rw[←hY] at HR2⊢
  clear hY
  generalize W1.alloc (.cells #[.string rn,.map (some rb)] 118)=W2 at HB2 HR2⊢
  have hbB:Below B W W2:=HB2.out.mono HBB.out
  go_wp2_with fail
  refine(Dd text W2 (HGE.out W2 hbB) HEV.out HS.out).mono ?_
  have hpc:=qU text
  generalize hPQ:parseText (fg text)=PQ at HR hpc⊢
  obtain⟨q,er⟩:=PQ
  rintro e W3 ⟨hb,vs,vc,vi,vp,rfl,hrows⟩
  simp only at hrows HR hpc⊢
  obtain⟨sa,sc,rfl,m1⟩:=aU (l:=q.ai) hrows.rs
  obtain⟨ca,cc,rfl,m2⟩:=aU (l:=q.conds) hrows.rc
  obtain⟨ia,ic,rfl,m3⟩:=aU (l:=q.items) hrows.rt
  obtain⟨pa,pc,rfl,m4⟩:=aU (l:=q.ay) hrows.rp
  clear m1 m2 m3 m4 hPQ hbB
  obtain⟨qc,hqc⟩:∃qc,qC q (.slice sa q.ai.length sc) (.slice ca q.conds.length cc) (.slice ia q.items.length ic) (.slice pa q.ay.length pc)=qc:=⟨_,rfl⟩
  have hqs:qc.size=17:=by rw[←hqc];rfl
  have hqo:qc.all (·.oneCell')=true:=by rw[←hqc];exact nh q
  have q0:qc[0]?=some (.int .i64 q.kind):=by rw[←hqc];rfl
  have q8:qc[8]?=some (.string q.name):=by rw[←hqc];rfl
  have HQC:=hid hqc
  rw[hqc]
  have HQS:Hid ((Tryz.prog.info? 29).map (·.size)=some qc.toList.length):=hid (by rw[Tryz.aX,Array.length_toList,hqs])
  have kb:=AM (w:=W3) (cs:=qc) (T:=29) zq
  have HQI:=hid ((Jp hrows).later kb)
  have HL4:Hid (Loc ((W3.alloc (.cells zq 29)).setCells W3.heap.size 0 qc.toList) W3.heap.size qc 29):=hid ((Loc.new W3 zq 29).dh (new:=qc) (by rw[hqs];rfl))
  have HB3:=hid (HB2.out.trans (hb.mono HB2.out.size))
  have HB4:=hid (HB3.out.trans (kb.mono HB3.out.size))
  have HR4:=hid ((HR2.out.grown (af hb none) (by simp)).grown (af kb none) (by simp))
  clear hb hrows kb HR2 HB2 hqc
  rename_i KK hKK
  refine hKK _ _ ?_
  clear hKK KK
  refine iF rfl rfl ?_
  refine iY rfl rfl rfl rfl ?_
  refine iY rfl rfl rfl rfl ?_
  refine kY rfl rfl ?_
  refine wpList_store_mid rfl 29 _ _ rfl W3.heap.size 0 qc rfl rfl (by rw[hqs];exact(Loc.new W3 zq 29).there) (by rw[hqs];exact Tryz.aX) hqo ?_
  obtain⟨X,hX⟩:∃X,X=W3.heap.size:=⟨_,rfl⟩
  have HXN:Hid (W.heap.size≤X):=hid (by rw[hX];exact HB3.out.size)
  rw[←hX] at HL4 HQI HB4 HR4⊢
  clear hX hqo
  generalize (W3.alloc (.cells zq 29)).setCells X 0 qc.toList=W4 at HL4 HQI HB4 HR4⊢
  by_cases he:er=0
  ·subst he
   have HRQ:Hid (lK pol ⟨ns,es,last⟩ role text budget=uq S ⟨ns,es,last⟩ q (uj budget)):=hid (by rw[HR.out,if_pos rfl])
   have hgood:jk q:=by
    rcases hpc with h1|h1|h1
    ·exact h1.2.1
    ·cases h1
    ·cases h1
   have HGQ:=hid hgood
   have HBD:=hid (yP budget)
   have k0:W4.cell? ⟨X,0,none⟩=some (.int .i64 q.kind):=(HL4.out.cell 0).trans q0
   clear hgood hpc HR
   go_upto_region 8 with fail
   have hbe:min (max budget 0) 5000=uj budget:=rfl
   rw[hbe]
   generalize uj budget=bd at HBD HRQ⊢
   clear hbe
   have HSC:Hid (∀w,Below W4.heap.size W4 w→w.cell? ⟨Y,0,none⟩=some (.string rn)∧w.cell? ⟨Y,1,none⟩=some (.map (some rb))∧w.rangeAt X 0 qc.toList):=hid (fun w hb=>by
    have h1:=HR4.out.grown (af hb none) (by simp)
    exact⟨(h1.cell 0).trans rfl,(h1.cell 1).trans rfl,(HL4.out.grown (af hb none) (by simp)).range⟩)
   have HDW:Hid (Below W4.heap.size W4 W4.drew):=hid ⟨rfl,rfl,rfl,Nat.le_refl _,fun _ _=>rfl⟩
   have HBD4:=hid (HB4.out.trans (HDW.out.mono HB4.out.size))
   have hcase:nO q∨tQ q∨((mM q∨kz q∨km q∨iS q)∧q.kind≠1∧q.kind≠6):=by
    rcases HGQ.out with hk|hk|hk|hk|hk|hk
    ·exact Or.inl hk
    ·exact Or.inr (Or.inr ⟨Or.inl hk,by rw[(qj hk).2.1];decide,by rw[(qj hk).2.1];decide⟩)
    ·exact Or.inr (Or.inr ⟨Or.inr (Or.inl hk),by rw[(ol hk).2.1];decide,by rw[(ol hk).2.1];decide⟩)
    ·exact Or.inr (Or.inr ⟨Or.inr (Or.inr (Or.inl hk)),by rw[(og hk).2.1];decide,by rw[(og hk).2.1];decide⟩)
    ·exact Or.inr (Or.inr ⟨Or.inr (Or.inr (Or.inr hk)),by rw[(mQ hk).1];decide,by rw[(mQ hk).1];decide⟩)
    ·exact Or.inr (Or.inl hk)
   rcases hcase with hk|hk|⟨hk,hn1,hn6⟩
   ·obtain⟨hqr,hqf,hkd⟩:=Cq hk
    have HRE:Hid (lK pol ⟨ns,es,last⟩ role text budget=(eK (gq S ns) (jS S ns es) q bd,⟨ns,es,last⟩)):=hid (by rw[HRQ.out];unfold uq;rw[if_pos hkd])
    have HQR:=hid hqr
    have HQF:=hid hqf
    rw[hkd] at k0
    have hf:ns.length≤1000000∧es.length≤1000000:=by have h1:=HG.out.n40;have h2:=HG.out.GQ;simp only at h1 h2;omega
    have HOF:=hid (KS (nm:=rn) ((H.out.own.qm hf).below HBD4.out) (HRR.out.kept (af HBD4.out none) (by simp)) (by have:=HMM.out;omega) HG.out.wy HG.out.ty)
    clear hqr hqf hkd hk hf q0 q8 HRQ HRR
    go_upto_region 10 with fail
    clear k0
    refine wp_region_noPanic ?_
    refine wp_region_held_drew (S:=fun w=>w.cell? ⟨Y,0,none⟩=some (.string rn)∧w.cell? ⟨Y,1,none⟩=some (.map (some rb))∧w.rangeAt X 0 qc.toList) (by kernel_rfl) (HSC.out _ HDW.out) (fun hHeld0=>?_)
    refine wpAnyH_take (i:=0) (v:=?v1) rfl (by kernel_rfl) (by kernel_rfl) (by kernel_rfl) (fun _ _ _ h=>h) (Or.inl ⟨by rfl,?y1⟩) hHeld0 ?r1
    case y1=>(intro w hSw;go_simp;(try with_reducible rfl))
    simp only[Act.put,List.getElem_toArray,List.getElem_cons_zero]
    refine wpAnyH_take (i:=1) (v:=?v2) rfl (by kernel_rfl) (by kernel_rfl) (by kernel_rfl) (fun _ _ _ h=>h) (Or.inl ⟨by rfl,?y2⟩) hHeld0 ?r2
    case y2=>(intro w hSw;go_simp;(try with_reducible rfl))
    simp only[Act.put,List.getElem_toArray,List.getElem_cons_zero,List.getElem_cons_succ]
    refine wpAnyH_take (i:=2) (v:=?v3) rfl (by kernel_rfl) (by kernel_rfl) (by kernel_rfl) (fun _ _ _ h=>h) (Or.inl ⟨by rfl,?y3⟩) hHeld0 ?r3
    case y3=>(intro w hSw;go_simp;(try with_reducible rfl))
    simp only[Act.put,List.getElem_toArray,List.getElem_cons_zero,List.getElem_cons_succ]
    refine wpAnyH_take (i:=3) (v:=?v4) rfl (by kernel_rfl) (by kernel_rfl) (by kernel_rfl) (fun _ _ _ h=>h) (Or.inl ⟨by rfl,?y4⟩) hHeld0 ?r4
    case y4=>(intro w hSw;obtain⟨hc1,hc2,_⟩:=hSw;go_simp;(try with_reducible rfl))
    simp only[Act.put,List.getElem_toArray,List.getElem_cons_zero,List.getElem_cons_succ]
    refine wpAnyH_take (i:=5) rfl (by kernel_rfl) (by kernel_rfl) (by kernel_rfl) (fun _ _ _ h=>h) (yieldsIf_load_mid (by rfl) 29 _ rfl X 0 rfl qc.toList _ (fun w hw=>hw.2.2) Tryz.underlying29 rfl HQS.out) hHeld0 ?_
    simp only[Act.put,List.getElem_toArray,List.getElem_cons_zero,List.getElem_cons_succ,Array.toArray_toList]
    refine wpAnyH_take (i:=6) (v:=?v5) rfl (by kernel_rfl) (by kernel_rfl) (by kernel_rfl) (fun _ _ _ h=>h) (Or.inl ⟨by rfl,?y5⟩) hHeld0 ?r5
    case y5=>(intro w hSw;go_simp;(try with_reducible rfl))
    simp only[Act.put,List.getElem_toArray,List.getElem_cons_zero,List.getElem_cons_succ]
    refine wpAnyH_ready (rs:=[4]) (by kernel_rfl) (by simp) ?_
    refine AllReadyH.cons rfl (fun K hK=>?_) AllReadyH.nil
    refine dW rfl 64 _ _ Tryz.Et rfl #[.pointer (some ⟨G,1,none⟩),.agg #[.string rn,.map (some rb)]] (by simp[Act.eval]) HOF.out (fun e W5 hp=>?_)
    obtain⟨Sb,sn,rfl,hSb,her,hseen,hb5,_⟩:=hp
    refine⟨_,rfl,?_⟩
    have HB45:Hid (Below W4.heap.size W4 W5):=hid (HDW.out.trans hb5)
    have HB5:=hid (HB4.out.trans (HB45.out.mono HB4.out.size))
    have HER:=hid her
    have HAN:=hid (G6 (pa:=pa) (pc:=pc) (budget:=bd) hseen (HQF.out.wj HG.out her) HBD.out HQR.out (HQI.out.later HB45.out).ss (HQI.out.later HB45.out).sc (HQI.out.later HB45.out).si (HT.out _ (HB5.out.mono HBB.out)))
    rw[HQC.out] at HAN
    refine hK.out _ _ (HSC.out W5 HB45.out) (fun hHeld1=>?_)
    clear hK K hHeld0 hb5 hseen her hSb HOF
    simp only[Act.put,List.getElem_toArray,List.getElem_cons_zero,List.getElem_cons_succ]
    refine wpAnyH_ready (rs:=[7]) (by kernel_rfl) (by simp) ?_
    refine AllReadyH.cons rfl (fun K hK=>?_) AllReadyH.nil
    refine dW rfl 63 _ _ Tryz.IU rfl #[.pointer (some ⟨Sb,0,none⟩),.agg qc,.int .i64 bd] (by simp[Act.eval]) HAN.out (fun e W6 hp=>?_)
    obtain⟨⟨v,rfl,hrow⟩,hb6⟩:=hp
    refine⟨_,rfl,?_⟩
    have HB46:=hid (HB45.out.trans (hb6.mono HB45.out.size))
    have HB6:=hid (HB4.out.trans (HB46.out.mono HB4.out.size))
    have HROW:=hid (bQ hrow HB5.out.size)
    refine hK.out _ _ (HSC.out W6 HB46.out) (fun hHeld2=>?_)
    clear hK K hHeld1 hb6 hrow HAN
    simp only[Act.put,List.getElem_toArray,List.getElem_cons_zero,List.getElem_cons_succ]
    refine wpAnyH_take (i:=8) (v:=?v6) rfl (by kernel_rfl) (by kernel_rfl) (by kernel_rfl) (fun _ _ _ h=>h) (Or.inl ⟨by rfl,?y6⟩) hHeld2 ?r6
    case y6=>(intro w hSw;go_simp;(try with_reducible rfl))
    simp only[Act.put,List.getElem_toArray,List.getElem_cons_zero,List.getElem_cons_succ]
    refine wpAnyH_take (i:=9) (v:=?v7) rfl (by kernel_rfl) (by kernel_rfl) (by kernel_rfl) (fun _ _ _ h=>h) (Or.inl ⟨by rfl,?y7⟩) hHeld2 ?r7
    case y7=>(intro w hSw;go_simp;(try with_reducible rfl))
    simp only[Act.put,List.getElem_toArray,List.getElem_cons_zero,List.getElem_cons_succ]
    refine wpAnyH_take (i:=10) (v:=?v8) rfl (by kernel_rfl) (by kernel_rfl) (by kernel_rfl) (fun _ _ _ h=>h) (Or.inl ⟨by rfl,?y8⟩) hHeld2 ?r8
    case y8=>(intro w hSw;go_simp;(try with_reducible rfl))
    simp only[Act.put,List.getElem_toArray,List.getElem_cons_zero,List.getElem_cons_succ]
    refine wpAnyH_take (i:=11) (v:=?v9) rfl (by kernel_rfl) (by kernel_rfl) (by kernel_rfl) (fun _ _ _ h=>h) (Or.inl ⟨by rfl,?y9⟩) hHeld2 ?r9
    case y9=>(intro w hSw;go_simp;(try with_reducible rfl))
    simp only[Act.put,List.getElem_toArray,List.getElem_cons_zero,List.getElem_cons_succ]
    refine wpAnyH_done (by kernel_rfl) ?_ _
    refine NoPanic.normal ?_
    clear hHeld2
    go_simp
    go_wp2_with fail
    go_ret2
    rw[HRE.out,←xu HER.out]
    exact mD.same H.out HB6.out HROW.out
   ·obtain⟨hkd,hkn⟩:=wO hk
    have HRE:Hid (lK pol ⟨ns,es,last⟩ role text budget=(([],5),⟨ns,es,last⟩)):=hid (by rw[HRQ.out];unfold uq;rw[if_neg (by rw[hkd];decide),if_pos hkd])
    rw[hkd] at k0
    have r0:=HR4.out.at_ 0 (.string rn) rfl
    have r1:=HR4.out.at_ 1 (.map (some rb)) rfl
    have n8:W4.cell? ⟨X,8,none⟩=some (.string q.name):=(HL4.out.cell 8).trans q8
    have HCN:=hid (C9 (nm:=q.name) (rn:=rn) (rb:=rb) (budget:=bd) ((H.out.later HB4.out).own.bZ) H.out.BQ)
    clear hkd hkn hk q0 q8 HRQ HRR
    go_wp2_with fail
    refine HCN.out.mono ?_
    rintro e W5 ⟨rfl,hb5⟩
    have HB5:=hid (HB4.out.trans (hb5.mono HB4.out.size))
    clear hb5 HCN
    go_wp2_with fail
    go_ret2
    rw[HRE.out]
    exact mD.same H.out HB5.out (World.ownsRow_nil _ _ _ _)
   ·have HRE:Hid (lK pol ⟨ns,es,last⟩ role text budget=(Jm S ⟨ns,es,last⟩ q bd,(tA S ⟨ns,es,last⟩ q bd).2.2)):=hid (by rw[HRQ.out];unfold uq;rw[if_neg hn1,if_neg hn6])
    have HKD:=hid hk
    have b1:(q.kind==1)=false:=by simpa using hn1
    have b6:(q.kind==6)=false:=by simpa using hn6
    have HDO:=hid (Ll (nm:=rn) (ia:=ia) (ic:=ic) (B:=B) (budget:=bd) (H.out.own.later HBD4.out) (by rw[H.out.size];omega) HG.out HMM.out (HRR.out.kept (af HBD4.out none) (by simp)) hk HBD.out H.out.base (Nat.le_trans HBB.out HBD4.out.size) (fun w hw=>HT.out w ((HBD4.out.mono HBB.out).trans hw)) (HQI.out.later HDW.out).ss (HQI.out.later HDW.out).sc (HQI.out.later HDW.out).sp)
    rw[HQC.out] at HDO
    clear hk hn1 hn6 q0 q8 HRQ HRR
    go_upto_region 13 with fail
    clear k0 b1 b6
    refine wp_region_noPanic ?_
    refine wp_region_held_drew (S:=fun w=>(w.cell? ⟨Y,0,none⟩=some (.string rn)∧w.cell? ⟨Y,1,none⟩=some (.map (some rb))∧w.rangeAt X 0 qc.toList)) (by kernel_rfl) (HSC.out _ HDW.out) (fun hHeld0=>?_)
    refine wpAnyH_take (i:=0) (v:=?v21) rfl (by kernel_rfl) (by kernel_rfl) (by kernel_rfl) (fun _ _ _ h=>h) (Or.inl ⟨by rfl,?y21⟩) hHeld0 ?r21
    case y21=>(intro w hSw;go_simp;(try with_reducible rfl))
    simp only[Act.put,List.getElem_toArray,List.getElem_cons_zero]
    refine wpAnyH_take (i:=1) (v:=?v22) rfl (by kernel_rfl) (by kernel_rfl) (by kernel_rfl) (fun _ _ _ h=>h) (Or.inl ⟨by rfl,?y22⟩) hHeld0 ?r22
    case y22=>(intro w hSw;go_simp;(try with_reducible rfl))
    simp only[Act.put,List.getElem_toArray,List.getElem_cons_zero,List.getElem_cons_succ]
    refine wpAnyH_take (i:=2) (v:=?v23) rfl (by kernel_rfl) (by kernel_rfl) (by kernel_rfl) (fun _ _ _ h=>h) (Or.inl ⟨by rfl,?y23⟩) hHeld0 ?r23
    case y23=>(intro w hSw;go_simp;(try with_reducible rfl))
    simp only[Act.put,List.getElem_toArray,List.getElem_cons_zero,List.getElem_cons_succ]
    refine wpAnyH_take (i:=3) (v:=?v24) rfl (by kernel_rfl) (by kernel_rfl) (by kernel_rfl) (fun _ _ _ h=>h) (Or.inl ⟨by rfl,?y24⟩) hHeld0 ?r24
    case y24=>(intro w hSw;obtain⟨hc1,hc2,_⟩:=hSw;go_simp;(try with_reducible rfl))
    simp only[Act.put,List.getElem_toArray,List.getElem_cons_zero,List.getElem_cons_succ]
    refine wpAnyH_take (i:=4) rfl (by kernel_rfl) (by kernel_rfl) (by kernel_rfl) (fun _ _ _ h=>h) (yieldsIf_load_mid (by rfl) 29 _ rfl X 0 rfl qc.toList _ (fun w hw=>hw.2.2) Tryz.underlying29 rfl HQS.out) hHeld0 ?_
    simp only[Act.put,List.getElem_toArray,List.getElem_cons_zero,List.getElem_cons_succ,Array.toArray_toList]
    refine wpAnyH_take (i:=5) (v:=?v25) rfl (by kernel_rfl) (by kernel_rfl) (by kernel_rfl) (fun _ _ _ h=>h) (Or.inl ⟨by rfl,?y25⟩) hHeld0 ?r25
    case y25=>(intro w hSw;go_simp;(try with_reducible rfl))
    simp only[Act.put,List.getElem_toArray,List.getElem_cons_zero,List.getElem_cons_succ]
    refine wpAnyH_ready (rs:=[6]) (by kernel_rfl) (by simp) ?_
    refine AllReadyH.cons rfl (fun K hK=>?_) AllReadyH.nil
    refine dW rfl 66 _ _ Tryz.Jf rfl #[.pointer (some ⟨G,1,none⟩),.agg #[.string rn,.map (some rb)],.agg qc,.int .i64 bd] (by simp[Act.eval]) HDO.out (fun e W5 hp=>?_)
    obtain⟨⟨v,rfl,hrow⟩,hch⟩:=hp
    refine⟨_,rfl,?_⟩
    have HCH:=hid (hch.from HBD4.out)
    have HROW:=hid (bQ hrow HBD4.out.size)
    have hlow:=H.out.own.low
    obtain⟨_,_,_,_,_,_,_,_,_,hk5,_⟩:=hch
    have hS5:W5.cell? ⟨Y,0,none⟩=some (.string rn)∧W5.cell? ⟨Y,1,none⟩=some (.map (some rb))∧W5.rangeAt X 0 qc.toList:=by
     have hR5:Loc W5 Y #[.string rn,.map (some rb)] 118:=(hk5.block Y HR4.out.lt (fun e=>by have h1:=hlow Y e;have h2:=HYN.out;omega)).trans HR4.out
     have hL5:Loc W5 X qc 29:=(hk5.block X HL4.out.lt (fun e=>by have h1:=hlow X e;have h2:=HXN.out;omega)).trans HL4.out
     exact⟨(hR5.cell 0).trans rfl,(hR5.cell 1).trans rfl,hL5.range⟩
    refine hK.out _ _ hS5 (fun hHeld2=>?_)
    clear hK K hHeld0 hrow hk5 hlow hS5 HDO
    simp only[Act.put,List.getElem_toArray,List.getElem_cons_zero,List.getElem_cons_succ]
    refine wpAnyH_take (i:=7) (v:=?v26) rfl (by kernel_rfl) (by kernel_rfl) (by kernel_rfl) (fun _ _ _ h=>h) (Or.inl ⟨by rfl,?y26⟩) hHeld2 ?r26
    case y26=>(intro w hSw;go_simp;(try with_reducible rfl))
    simp only[Act.put,List.getElem_toArray,List.getElem_cons_zero,List.getElem_cons_succ]
    refine wpAnyH_take (i:=8) (v:=?v27) rfl (by kernel_rfl) (by kernel_rfl) (by kernel_rfl) (fun _ _ _ h=>h) (Or.inl ⟨by rfl,?y27⟩) hHeld2 ?r27
    case y27=>(intro w hSw;go_simp;(try with_reducible rfl))
    simp only[Act.put,List.getElem_toArray,List.getElem_cons_zero,List.getElem_cons_succ]
    refine wpAnyH_take (i:=9) (v:=?v28) rfl (by kernel_rfl) (by kernel_rfl) (by kernel_rfl) (fun _ _ _ h=>h) (Or.inl ⟨by rfl,?y28⟩) hHeld2 ?r28
    case y28=>(intro w hSw;go_simp;(try with_reducible rfl))
    simp only[Act.put,List.getElem_toArray,List.getElem_cons_zero,List.getElem_cons_succ]
    refine wpAnyH_take (i:=10) (v:=?v29) rfl (by kernel_rfl) (by kernel_rfl) (by kernel_rfl) (fun _ _ _ h=>h) (Or.inl ⟨by rfl,?y29⟩) hHeld2 ?r29
    case y29=>(intro w hSw;go_simp;(try with_reducible rfl))
    simp only[Act.put,List.getElem_toArray,List.getElem_cons_zero,List.getElem_cons_succ]
    refine wpAnyH_done (by kernel_rfl) ?_ _
    refine NoPanic.normal ?_
    clear hHeld2
    go_simp
    go_wp2_with fail
    go_ret2
    rw[HRE.out]
    exact⟨⟨v,rfl,HROW.out⟩,H.out.Hh HCH.out HBB.out⟩
  ·have heb:(er==0)=false:=by simpa using he
   have HRQ:Hid (lK pol ⟨ns,es,last⟩ role text budget=(([],er),⟨ns,es,last⟩)):=hid (by rw[HR.out,if_neg he])
   go_wp2_with fail
   all_goals
    go_ret2
    rw[HRQ.out]
    exact mD.same H.out HB4.out (World.ownsRow_nil _ _ _ _)
end
section
open Go.Lib
theorem rX:∀(a r:List UInt8),(a.all fun c=>c != 10)=true→index (a++10::r) [10]=a.length
 | [],r,_=>by simp[index]
 | c::a,r,h=>by
  simp only[List.all_cons,Bool.and_eq_true,bne_iff_ne,ne_eq] at h
  have ih:=rX a r h.2
  rw[List.cons_append]
  unfold index
  have hc:([10]:List UInt8).isPrefixOf (c::(a++10::r))=false:=by simp[List.isPrefixOf];exact fun e=>h.1 e.symm
  rw[hc,ih]
  have hn:((a.length:Int)==-1)=false:=by rw[beq_eq_false_iff_ne];omega
  rw[hn]
  simp
theorem sK:∀(a:List UInt8),(a.all fun c=>c != 10)=true→index a [10]=-1
 | [],_=>by simp[index]
 | c::a,h=>by
  simp only[List.all_cons,Bool.and_eq_true,bne_iff_ne,ne_eq] at h
  have ih:=sK a h.2
  unfold index
  have hc:([10]:List UInt8).isPrefixOf (c::a)=false:=by simp[List.isPrefixOf];exact fun e=>h.1 e.symm
  rw[hc,ih]
  simp
def ko:List (List UInt8)→List UInt8
 | []=>[]
 | [a]=>a
 | a::b::r=>a++10::ko (b::r)
def mh (ls:List (List UInt8)):Bool:=ls.all fun a=>a.all fun c=>c != 10
theorem sM:∀(ls:List (List UInt8)) (k:Nat),ls≠[]→mh ls=true→ls.length≤k+1→splitK [10] 0 k (ko ls)=ls
 | [],_,h,_,_=>absurd rfl h
 | [a],k,_,h,_=>by
  simp only[mh,List.all_cons,List.all_nil,Bool.and_true] at h
  cases k with
  | zero=>rfl
  | succ k=>unfold splitK ko;rw[sK a h];rfl
 | a::b::r,0,_,_,hk=>by simp at hk
 | a::b::r,k+1,_,h,hk=>by
  have h':(a.all fun c=>c != 10)=true∧mh (b::r)=true:=by simpa [mh] using h
  have ih:=sM (b::r) k (by simp) h'.2 (by simpa using hk)
  unfold splitK ko
  have hi:=rX a (ko (b::r)) h'.1
  rw[hi]
  have hn:((a.length:Int)==-1)=false:=by rw[beq_eq_false_iff_ne];omega
  rw[hn]
  simp[ih]
theorem rQ:∀(ls:List (List UInt8)) (f:Nat),ls≠[]→mh ls=true→ls.length≤f→countFrom [10] f (ko ls)=ls.length - 1
 | [],_,h,_,_=>absurd rfl h
 | [a],f,_,h,hf=>by
  simp only[mh,List.all_cons,List.all_nil,Bool.and_true] at h
  cases f with
  | zero=>simp at hf
  | succ f=>unfold countFrom ko;rw[sK a h];rfl
 | a::b::r,0,_,_,hf=>by simp at hf
 | a::b::r,f+1,_,h,hf=>by
  have h':(a.all fun c=>c != 10)=true∧mh (b::r)=true:=by simpa [mh] using h
  have ih:=rQ (b::r) f (by simp) h'.2 (by simpa using hf)
  unfold countFrom ko
  have hi:=rX a (ko (b::r)) h'.1
  rw[hi]
  have hn:((a.length:Int)==-1)=false:=by rw[beq_eq_false_iff_ne];omega
  rw[hn]
  simp[ih]
  omega
theorem o6:∀(ss:List ByteArray) (l:AN) (y:ByteArray × (aI→Bool)),(∀s∈ss,jt s=false∧(ct s).2=true)→ss.foldlM gS (l++[y])=some (l++[(y.1,(ss.map fun s=>(ct s).1).foldl iR y.2)])
 | [],l,y,_=>by simp
 | s::r,l,y,h=>by
  obtain⟨h1,h2⟩:=h s List.mem_cons_self
  have hs:gS (l++[y]) s=some (l++[(y.1,iR y.2 (ct s).1)]):=by
   unfold gS kg
   rw[h1,h2]
   simp
  rw[List.foldlM_cons,hs]
  exact o6 r l (y.1,iR y.2 (ct s).1) (fun s hs=>h s (List.mem_cons_of_mem _ hs))
theorem o7:∀(xs:List aI) (S:aI→Bool) (r:aI),xs.foldl iR S r=(S r || xs.any (fun x=>decide (r=x)))
 | [],S,r=>by simp
 | x::xs,S,r=>by
  rw[List.foldl_cons,o7 xs]
  unfold iR
  rw[List.any_cons,Bool.or_assoc]
def uC:ByteArray:=⟨#[114,111,108,101,32,114,111,111,116,10,115,101,101,32,65,10,115,101,101,32,66,10,115,101,101,32,72,10,119,97,108,107,32,84,10,119,97,108,107,32,85,10,114,101,97,100,32,65,46,107,10,114,101,97,100,32,66,46,107,10,114,101,97,100,32,72,46,107,10,114,101,97,100,32,65,46,106,10,114,101,97,100,32,66,46,106,10,114,101,97,100,32,72,46,106,10,109,97,107,101,32,65,10,109,97,107,101,32,66,10,109,97,107,101,32,72,10,115,101,116,32,65,46,107,10,115,101,116,32,66,46,107,10,115,101,116,32,72,46,107,10,115,101,116,32,65,46,106,10,115,101,116,32,66,46,106,10,115,101,116,32,72,46,106,10,100,114,111,112,32,65,10,100,114,111,112,32,66,10,100,114,111,112,32,72,10,108,105,110,107,32,84,10,108,105,110,107,32,85,10,99,117,116,32,84,10,99,117,116,32,85,10,100,101,116,97,99,104,10,99,97,108,108,32,118,10,114,111,108,101,32,103,117,101,115,116,10,115,101,101,32,65,10,115,101,101,32,66,10,119,97,108,107,32,84,10,114,101,97,100,32,65,46,107,10,109,97,107,101,32,65,10,115,101,116,32,65,46,107,10,108,105,110,107,32,84,10,100,114,111,112,32,65,10,99,117,116,32,84,10,99,97,108,108,32,118,10]⟩
def fH:ByteArray:=⟨#[114,111,111,116]⟩
def fm:ByteArray:=⟨#[103,117,101,115,116]⟩
def wL:List (List UInt8):=[[115,101,101,32,65],[115,101,101,32,66],[115,101,101,32,72],[119,97,108,107,32,84],[119,97,108,107,32,85],[114,101,97,100,32,65,46,107],[114,101,97,100,32,66,46,107],[114,101,97,100,32,72,46,107],[114,101,97,100,32,65,46,106],[114,101,97,100,32,66,46,106],[114,101,97,100,32,72,46,106],[109,97,107,101,32,65],[109,97,107,101,32,66],[109,97,107,101,32,72],[115,101,116,32,65,46,107],[115,101,116,32,66,46,107],[115,101,116,32,72,46,107],[115,101,116,32,65,46,106],[115,101,116,32,66,46,106],[115,101,116,32,72,46,106],[100,114,111,112,32,65],[100,114,111,112,32,66],[100,114,111,112,32,72],[108,105,110,107,32,84],[108,105,110,107,32,85],[99,117,116,32,84],[99,117,116,32,85],[100,101,116,97,99,104],[99,97,108,108,32,118]]
def rK:List (List UInt8):=[[115,101,101,32,65],[115,101,101,32,66],[119,97,108,107,32,84],[114,101,97,100,32,65,46,107],[109,97,107,101,32,65],[115,101,116,32,65,46,107],[108,105,110,107,32,84],[100,114,111,112,32,65],[99,117,116,32,84],[99,97,108,108,32,118]]
def GF:List aI:=[(1,⟨#[65]⟩,⟨#[]⟩),(1,⟨#[66]⟩,⟨#[]⟩),(1,⟨#[72]⟩,⟨#[]⟩),(2,⟨#[84]⟩,⟨#[]⟩),(2,⟨#[85]⟩,⟨#[]⟩),(3,⟨#[65]⟩,⟨#[107]⟩),(3,⟨#[66]⟩,⟨#[107]⟩),(3,⟨#[72]⟩,⟨#[107]⟩),(3,⟨#[65]⟩,⟨#[106]⟩),(3,⟨#[66]⟩,⟨#[106]⟩),(3,⟨#[72]⟩,⟨#[106]⟩),(4,⟨#[65]⟩,⟨#[]⟩),(4,⟨#[66]⟩,⟨#[]⟩),(4,⟨#[72]⟩,⟨#[]⟩),(5,⟨#[65]⟩,⟨#[107]⟩),(5,⟨#[66]⟩,⟨#[107]⟩),(5,⟨#[72]⟩,⟨#[107]⟩),(5,⟨#[65]⟩,⟨#[106]⟩),(5,⟨#[66]⟩,⟨#[106]⟩),(5,⟨#[72]⟩,⟨#[106]⟩),(6,⟨#[65]⟩,⟨#[]⟩),(6,⟨#[66]⟩,⟨#[]⟩),(6,⟨#[72]⟩,⟨#[]⟩),(7,⟨#[84]⟩,⟨#[]⟩),(7,⟨#[85]⟩,⟨#[]⟩),(8,⟨#[84]⟩,⟨#[]⟩),(8,⟨#[85]⟩,⟨#[]⟩),(10,⟨#[]⟩,⟨#[]⟩),(9,⟨#[118]⟩,⟨#[]⟩)]
def Ar:List aI:=[(1,⟨#[65]⟩,⟨#[]⟩),(1,⟨#[66]⟩,⟨#[]⟩),(2,⟨#[84]⟩,⟨#[]⟩),(3,⟨#[65]⟩,⟨#[107]⟩),(4,⟨#[65]⟩,⟨#[]⟩),(5,⟨#[65]⟩,⟨#[107]⟩),(7,⟨#[84]⟩,⟨#[]⟩),(6,⟨#[65]⟩,⟨#[]⟩),(8,⟨#[84]⟩,⟨#[]⟩),(9,⟨#[118]⟩,⟨#[]⟩)]
def kr:List (List UInt8):=[[114,111,108,101,32,114,111,111,116]]++wL++[[114,111,108,101,32,103,117,101,115,116]]++rK
def SR:aI→Bool:=GF.foldl iR BB
def SG:aI→Bool:=Ar.foldl iR BB
def GV:AN:=[(fH,SR),(fm,SG)]
theorem Ks (r:aI):SR r=GF.any (fun x=>decide (r=x)):=by unfold SR;rw[o7];simp[BB]
theorem FI (r:aI):SG r=Ar.any (fun x=>decide (r=x)):=by unfold SG;rw[o7];simp[BB]
theorem yw:(fb uC).data.toList=ko kr:=by kernel_rfl
theorem uQ:mh kr=true:=by kernel_rfl
theorem Dj:gd uC=kr.map fun l=>(⟨l.toArray⟩:ByteArray):=by
 have h0:uC.toList.isEmpty=false:=by rw[ByteArray.toList_eq];rfl
 have hc:countB (fb uC) ⟨#[10]⟩=kr.length - 1:=by
  unfold countB Lib.count
  rw[yw]
  exact rQ kr _ (by unfold kr;simp) uQ (by decide +kernel)
 unfold gd
 rw[h0,hc]
 have hd:=splitB_data ⟨#[10]⟩ 0 (kr.length - 1) (fb uC)
 rw[yw] at hd
 have hs:splitK (⟨#[10]⟩:ByteArray).data.toList 0 (kr.length - 1) (ko kr)=kr:=sM kr _ (by unfold kr;simp) uQ (by omega)
 rw[hs] at hd
 have hm:(splitB ⟨#[10]⟩ 0 (kr.length - 1) (fb uC))=((splitB ⟨#[10]⟩ 0 (kr.length - 1) (fb uC)).map (·.data.toList)).map (fun l=>(⟨l.toArray⟩:ByteArray)):=by
  rw[List.map_map]
  have e:((fun l:List UInt8=>(⟨l.toArray⟩:ByteArray)) ∘ fun s:ByteArray=>s.data.toList)=id:=by funext s;simp
  rw[e,List.map_id]
 simp only[Bool.false_eq_true,if_false]
 rw[hm,hd]
theorem GO:(wL.map (fun l=>(⟨l.toArray⟩:ByteArray))).all (fun s=>!(jt s)&&(ct s).2)=true:=by kernel_rfl
theorem G0:∀s∈wL.map (fun l=>(⟨l.toArray⟩:ByteArray)),jt s=false∧(ct s).2=true:=by
 intro s hs
 have h:=List.all_eq_true.1 GO s hs
 simpa using h
theorem DA:(rK.map (fun l=>(⟨l.toArray⟩:ByteArray))).all (fun s=>!(jt s)&&(ct s).2)=true:=by kernel_rfl
theorem E3:∀s∈rK.map (fun l=>(⟨l.toArray⟩:ByteArray)),jt s=false∧(ct s).2=true:=by
 intro s hs
 have h:=List.all_eq_true.1 DA s hs
 simpa using h
theorem yo:((wL.map (fun l=>(⟨l.toArray⟩:ByteArray))).map fun s=>(ct s).1)=GF:=by kernel_rfl
theorem wS:((rK.map (fun l=>(⟨l.toArray⟩:ByteArray))).map fun s=>(ct s).1)=Ar:=by kernel_rfl
theorem p7:(jt ⟨#[114,111,108,101,32,114,111,111,116]⟩=true∧bj (eZ ⟨#[114,111,108,101,32,114,111,111,116]⟩)=1)∧eZ ⟨#[114,111,108,101,32,114,111,111,116]⟩=fH:=by decide +kernel
theorem oN:(jt ⟨#[114,111,108,101,32,103,117,101,115,116]⟩=true∧bj (eZ ⟨#[114,111,108,101,32,103,117,101,115,116]⟩)=1)∧eZ ⟨#[114,111,108,101,32,103,117,101,115,116]⟩=fm:=by decide +kernel
theorem zm:(fH.toList==fm.toList)=false:=by rw[ByteArray.toList_eq,ByteArray.toList_eq];decide +kernel
theorem Fb {a b n1 n2:ByteArray} {xs ys:List ByteArray} {S1 S2:aI→Bool} (h1:gS [] a=some [(n1,BB)]) (hx:∀s∈xs,jt s=false∧(ct s).2=true) (e1:(xs.map fun s=>(ct s).1).foldl iR BB=S1) (h3:gS [(n1,S1)] b=some [(n1,S1),(n2,BB)]) (hy:∀s∈ys,jt s=false∧(ct s).2=true) (e2:(ys.map fun s=>(ct s).1).foldl iR BB=S2):
  ([a]++xs++[b]++ys).foldlM gS []=some [(n1,S1),(n2,S2)]:=by
 have h2:=o6 xs [] (n1,BB) hx
 have h4:=o6 ys [(n1,S1)] (n2,BB) hy
 simp only at h2 h4
 rw[e1] at h2
 rw[e2] at h4
 rw[List.append_assoc,List.append_assoc,List.singleton_append,List.foldlM_cons,h1]
 simp only[Option.bind_eq_bind,Option.bind_some]
 rw[List.foldlM_append]
 have h2':xs.foldlM gS [(n1,BB)]=some [(n1,S1)]:=h2
 rw[h2']
 simp only[Option.bind_eq_bind,Option.bind_some]
 rw[List.singleton_append,List.foldlM_cons,h3]
 exact h4
theorem Ev:uC.size≤2000:=by decide +kernel
theorem CP:gS [] ⟨#[114,111,108,101,32,114,111,111,116]⟩=some [(fH,BB)]:=by
 unfold gS kg
 rw[p7.1.1,p7.1.2,p7.2]
 rfl
theorem AB:gS [(fH,SR)] ⟨#[114,111,108,101,32,103,117,101,115,116]⟩=some [(fH,SR),(fm,BB)]:=by
 unfold gS kg
 rw[oN.1.1,oN.1.2,oN.2]
 generalize SR=S
 simp[zm]
theorem E9:gQ uC=some GV:=by
 unfold gQ
 rw[if_pos Ev,Dj]
 unfold kr
 rw[List.map_append,List.map_append,List.map_append]
 exact Fb CP G0 (by rw[yo];rfl) AB E3 (by rw[wS];rfl)
end
section
open Go.RowKit Go.Maps Go.Sort
def aA:ByteArray:=⟨#[65]⟩
def kA:ByteArray:=⟨#[107]⟩
def jA:ByteArray:=⟨#[106]⟩
def vA:ByteArray:=⟨#[97]⟩
def Ef:au:=⟨5,[],[],[],0,false,0,0,e0,e0,lD,e0,e0,aA,[⟨kA,1⟩,⟨jA,2⟩]⟩
def Dy:au:=⟨1,[⟨vA,e0,e0,0,0⟩],[],[⟨vA,e0⟩,⟨vA,kA⟩,⟨vA,jA⟩],0,false,0,-1,e0,e0,lD,e0,e0,e0,[]⟩
def Kf:ByteArray:=⟨#[67,82,69,65,84,69,32,40,32,65,32,123,32,107,32,58,32,49,32,44,32,106,32,58,32,50,32,125,32,41]⟩
def KW:ByteArray:=⟨#[77,65,84,67,72,32,40,32,97,32,41,32,82,69,84,85,82,78,32,97,32,44,32,97,32,46,32,107,32,44,32,97,32,46,32,106]⟩
theorem iU:bN kA=true∧bN jA=true∧bN vA=true∧cD aA=true:=by decide +kernel
theorem Im:jk Ef:=by
 refine Or.inr (Or.inr (Or.inr (Or.inr (Or.inl ⟨iU.2.2.2,fun p hp=>?_,by decide,by decide +kernel,rfl⟩))))
 rcases List.mem_cons.1 hp with rfl|hp
 ·exact⟨iU.1,by unfold oD;simp⟩
 ·rcases List.mem_cons.1 hp with rfl|hp
  ·exact⟨iU.2.1,by unfold oD;simp⟩
  ·cases hp
theorem IC:jk Dy:=by
 refine Or.inl ⟨⟨fun s hs=>?_,⟨_,_,rfl,rfl⟩,by decide,fun c hc=>(by cases hc),by decide⟩,fun x hx=>?_,by simp[Dy],by decide,by decide,by decide,fun _=>rfl,by decide,by decide,Or.inl rfl,rfl⟩
 ·rw[List.mem_singleton.1 hs]
  exact⟨iU.2.2.1,Or.inl rfl,Or.inl ⟨rfl,rfl,rfl⟩⟩
 ·rcases List.mem_cons.1 hx with rfl|hx
  ·exact Or.inr ⟨iU.2.2.1,Or.inl rfl⟩
  ·rcases List.mem_cons.1 hx with rfl|hx
   ·exact Or.inr ⟨iU.2.2.1,Or.inr iU.1⟩
   ·rcases List.mem_cons.1 hx with rfl|hx
    ·exact Or.inr ⟨iU.2.2.1,Or.inr iU.2.1⟩
    ·cases hx
theorem EP:eG Ef=true:=by decide +kernel
theorem Fp:eG Dy=true:=by decide +kernel
theorem Hj:(⟨(iy (cJ Ef)).toArray⟩:ByteArray)=Kf:=by decide +kernel
theorem IJ:(⟨(iy (cJ Dy)).toArray⟩:ByteArray)=KW:=by decide +kernel
theorem Gg:parseText (fg Kf)=(Ef,0):=by rw[←Hj];exact tu Im EP
theorem EF:parseText (fg KW)=(Dy,0):=by rw[←IJ];exact tu IC Fp
end
section
open Go.RowKit Go.Maps Go.Sort
theorem kV (S:aI→Bool) (ns:List aq):gq S (ns.map de)=gq S ns:=by
 unfold gq dP
 rw[List.filter_map,List.map_map,List.map_map,List.map_map]
 rfl
theorem rf (S:aI→Bool) (ns:List aq) (es:List aJ):jS S (ns.map de) es=jS S ns es:=by unfold jS;rw[kV]
theorem CL {l:List cU} (h:l.map er=GV):∃b1 b2,l=[(fH,b1,SR),(fm,b2,SG)]:=by
 unfold GV at h
 match l,h with
 | [(n1,b1,s1),(n2,b2,s2)],h=>
  simp only[List.map_cons,List.map_nil,er,List.cons.injEq,Prod.mk.injEq,and_true] at h
  obtain⟨⟨rfl,rfl⟩,rfl,rfl⟩:=h
  exact⟨b1,b2,rfl⟩
theorem CW (b1 b2:Nat):jg [(fH,b1,SR),(fm,b2,SG)] fH=some (fH,b1,SR):=by
 unfold jg
 rw[List.find?_cons]
 have h:(fH.toList==fH.toList)=true:=by simp
 simp only[h]
theorem AI (b1 b2:Nat):jg [(fH,b1,SR),(fm,b2,SG)] fm=some (fm,b2,SG):=by
 unfold jg
 rw[List.find?_cons]
 simp only[zm]
 rw[List.find?_cons]
 have h:(fm.toList==fm.toList)=true:=by simp
 simp only[h]
def Jq:ByteArray:=⟨#[49]⟩
def BJ:ByteArray:=⟨#[49,124,49,124,45]⟩
def node1:aq:=⟨1,aA,0,lj [⟨kA,1⟩,⟨jA,2⟩]⟩
theorem J3:gI SR Ef=true:=by
 unfold gI
 simp only[Ef,List.all_cons,List.all_nil,Ks,Bool.and_true]
 decide +kernel
theorem Hs:dB 1=Jq:=by decide +kernel
theorem Ki:uj 1=1:=by decide
theorem A6:iH SR Ef 1 0=0:=by
 unfold iH
 rw[if_neg (by decide),J3]
 rfl
theorem vt (b1 b2:Nat):lK [(fH,b1,SR),(fm,b2,SG)] ⟨[],[],0⟩ fH Kf 1=(([Jq],0),⟨[node1],[],1⟩):=by
 have hd:tA SR ⟨[],[],0⟩ Ef 1=(1,0,⟨[node1],[],1⟩):=by
  have hk:Ef.kind=5:=rfl
  unfold tA ER
  rw[if_pos hk]
  simp only[List.length_nil,A6]
  rfl
 unfold lK
 rw[CW,Gg]
 simp only[if_pos]
 unfold uq
 rw[Ki]
 have hk1:¬Ef.kind=1:=by decide
 have hk6:¬Ef.kind=6:=by decide
 rw[if_neg hk1,if_neg hk6,hd]
 unfold Jm
 rw[hd]
 simp only[Hs]
 rfl
theorem zZ (pf:ByteArray→Option Int):(aR [⟨1,aA,0,pf⟩] [] Dy 1).left=0:=by kernel_rfl
theorem AD (pf:ByteArray→Option Int):(aR [⟨1,aA,0,pf⟩] [] Dy 1).rows=[fD jN vA (some 1)]:=by kernel_rfl
theorem DN {pf:ByteArray→Option Int} (hk:pf kA=some 1) (hj:pf jA=none):fi [⟨1,aA,0,pf⟩] Dy.items (fD jN vA (some 1))=[some 1,some 1,none,none,none,none]:=by
 have h1:gW [⟨1,aA,0,pf⟩] (fD jN vA (some 1)) ⟨vA,e0⟩=some 1:=by kernel_rfl
 have h2:gW [⟨1,aA,0,pf⟩] (fD jN vA (some 1)) ⟨vA,kA⟩=pf kA:=by kernel_rfl
 have h3:gW [⟨1,aA,0,pf⟩] (fD jN vA (some 1)) ⟨vA,jA⟩=pf jA:=by kernel_rfl
 rw[hk] at h2
 rw[hj] at h3
 unfold fi
 simp[Dy,List.range_succ,h1,h2,h3]
theorem G8 {pf:ByteArray→Option Int} (hk:pf kA=some 1) (hj:pf jA=none):eK [⟨1,aA,0,pf⟩] [] Dy 1=([BJ],0):=by
 have hcnt:Dy.items.any jl=false:=by decide +kernel
 unfold eK
 rw[zZ,AD,if_pos (by decide)]
 simp only[List.map_cons,List.map_nil]
 rw[DN hk hj]
 unfold lJ
 rw[hcnt]
 unfold gR iW
 simp only[Bool.false_eq_true,if_false,List.map_cons,List.map_nil,List.mergeSort_singleton]
 rw[sG rfl]
 have ht:gB 3 [some 1,some 1,none,none,none,none]=BJ:=by decide +kernel
 unfold ix
 simp only[Dy,List.length_cons,List.length_nil]
 simp[ht]
theorem Bo {b1 b2:Nat} {ns:List aq} (h:ns.map de=[node1]):lK [(fH,b1,SR),(fm,b2,SG)] ⟨ns,[],1⟩ fm KW 1=(([BJ],0),⟨ns,[],1⟩):=by
 have hsee:rW SG node1=true:=by
  unfold rW
  rw[FI]
  decide +kernel
 have hg:gq SG ns=[⟨1,aA,0,fun s=>if SG (3,aA,s) then node1.aW s else none⟩]:=by
  rw[←kV,h]
  unfold gq dP
  simp only[List.filter_cons,hsee,if_true,List.filter_nil,List.map_cons,List.map_nil]
  rfl
 unfold lK
 rw[AI,EF]
 simp only[if_pos]
 unfold uq
 have hk:Dy.kind=1:=rfl
 rw[Ki,if_pos hk]
 have he:jS SG ns []=[]:=rfl
 simp only[hg,he]
 rw[G8]
 ·have h1:SG (3,aA,kA)=true:=by rw[FI];decide +kernel
  rw[h1]
  have h2:node1.aW kA=some 1:=by decide +kernel
  rw[h2]
  rfl
 ·have h1:SG (3,aA,jA)=false:=by rw[FI];decide +kernel
  rw[h1]
  rfl
end
end Go.Proofs.YtobgbmfpicmpcaaGreatDoor
