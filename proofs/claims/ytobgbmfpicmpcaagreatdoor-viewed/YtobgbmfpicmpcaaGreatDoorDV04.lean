/- The graph with one view. -/
import Derived.Test.YtobgbmfpicmpcaaGreatDoorDV03
import Derived.Test.YtobgbmfpicmpcaaGreatDoorDV02
import Derived.Lib.Hide
set_option maxRecDepth 100000
set_option maxHeartbeats 8000000
namespace Go.Proofs.YtobgbmfpicmpcaaGreatDoor
open Go.Lib (hid)
section
open Go.RowKit Go.Maps Go.Sort
structure VW (G:Nat) (pol:List cU) (cs:Array Value) (vn ve:Value) (ns:List aq) (es:List aJ) (last:Int) (m V vc:Nat) (nm rv:ByteArray) (bv:Nat) (SV:aI→Bool) (qab:au) (vs vcn vi vpp:Value) (K:Nat) (va:Value) (qac:List ByteArray) (W:World):Prop where
 own:ed G 1 129 cs vn ve ns es last m W
 size:cs.size=6
 KY:∃vp mp,cs[0]?=some vp∧pn vp pol mp W
 BQ:cs[4]?=some (.slice (some ⟨V,0,none⟩) 1 vc)
 vrow:W.ownsRow 0 145 20 (.slice (some ⟨V,0,none⟩) 1 vc) 1 (gA nm rv bv qab vs vcn vi vpp).toList
 rows:jd 0 qab vs vcn vi vpp W
 vrole:(rv,bv,SV)∈pol
 Gn:cs[5]?=some va
 aud:W.ownsRow K 9 1 va qac.length (strs qac)
variable {G m V vc bv K:Nat} {pol:List cU} {cs:Array Value} {vn ve vs vcn vi vpp va:Value} {ns:List aq} {es:List aJ} {last:Int} {nm rv:ByteArray} {SV:aI→Bool} {qab:au} {qac:List ByteArray} {W:World} {w:World}
theorem fY {B k n:Nat} {T:TypeId} {v:Value} {xs:List Value} (h:W.ownsRow B T k v n xs) (hb:Below W.heap.size W w):w.ownsRow B T k v n xs:=h.kept (af hb none) (by cases v.ownBlock<;>simp)
theorem VW.later (h:VW G pol cs vn ve ns es last m V vc nm rv bv SV qab vs vcn vi vpp K va qac W) (hb:Below W.heap.size W w):VW G pol cs vn ve ns es last m V vc nm rv bv SV qab vs vcn vi vpp K va qac w:=by
 obtain⟨vp,mp,c0,hp⟩:=h.KY
 exact⟨h.own.later hb,h.size,⟨vp,mp,c0,hp.later hb⟩,h.BQ,fY h.vrow hb,h.rows.later hb,h.vrole,h.Gn,fY h.aud hb⟩
theorem VW.range (h:VW G pol cs vn ve ns es last m V vc nm rv bv SV qab vs vcn vi vpp K va qac W):W.rangeAt V 0 (gA nm rv bv qab vs vcn vi vpp).toList:=by
 obtain⟨_,ao,cap,e,_,hx⟩:=aP h.vrow h.vrow.1
 obtain⟨g,o,e2,hc⟩:=hx (by decide)
 injection e with e1 _ _
 rw[e2] at e1
 injection e1 with e1
 injection e1 with e1 e3
 subst e1 e3
 exact fun j u hu=>hc j u hu
def qad (G:Nat) (va:Value) (b:Nat):Prop:=b=G∨va.ownBlock=some b
theorem dp {B k n:Nat} {T:TypeId} {v:Value} {xs:List Value} {K j:Nat} {ys:List Value} (h:W.ownsRow B T k v n xs) (hl:Loc W G cs 129) (ha:W.ownsRow K 9 1 va j ys) (hk:Kept (qad G va) W w) (h1:T≠129) (h2:T≠9):w.ownsRow B T k v n xs:=
 tR h (fun g hg=>hk.block g (h.lt g hg).2 (fun e=>e.elim (fun e=>aQ h hl h1 (by rw[hg,e])) (fun e=>tf h ha h2 hg e)))
theorem xp {cs':Array Value} {j:Nat} {ys:List Value} (h:ed G 1 129 cs vn ve ns es last m W) (ha:W.ownsRow K 9 1 va j ys) (hk:Kept (qad G va) W w) (hl:Loc w G cs' 129) (e1:cs'[1]?=cs[1]?) (e2:cs'[2]?=cs[2]?) (e3:cs'[3]?=cs[3]?):ed G 1 129 cs' vn ve ns es last m w:=
 ⟨hl,e1.trans h.c0,e2.trans h.c1,e3.trans h.c2,dp h.on h.bZ ha hk (by decide) (by decide),dp h.oe h.bZ ha hk (by decide) (by decide),fun x hx=>(h.aW x hx).by (hk.block _ (h.aW x hx).lt (fun e=>e.elim (fun e=>(h.aW x hx).aV h.bZ e) (fun e=>(h.aW x hx).eh ha e.symm))),h.apart,h.gh,h.top,h.kT⟩
theorem BS {vp:Value} {mp j:Nat} {ys:List Value} (h:pn vp pol mp W) (hl:Loc W G cs 129) (ha:W.ownsRow K 9 1 va j ys) (hk:Kept (qad G va) W w):pn vp pol mp w:=
 ⟨dp h.own hl ha hk (by decide) (by decide),fun x hx=>(h.right x hx).by (hk.block _ (h.right x hx).lt (fun e=>e.elim (fun e=>(h.right x hx).aV hl e) (fun e=>(h.right x hx).ET ha e))),h.rF⟩
theorem LM {q:au} {vs vc vi vp:Value} {j:Nat} {ys:List Value} (h:jd 0 q vs vc vi vp W) (hl:Loc W G cs 129) (ha:W.ownsRow K 9 1 va j ys) (hk:Kept (qad G va) W w):jd 0 q vs vc vi vp w:=
 ⟨dp h.rs hl ha hk (by decide) (by decide),dp h.rc hl ha hk (by decide) (by decide),dp h.rt hl ha hk (by decide) (by decide),dp h.rp hl ha hk (by decide) (by decide)⟩
theorem VW.called {va':Value} {au':List ByteArray} (h:VW G pol cs vn ve ns es last m V vc nm rv bv SV qab vs vcn vi vpp K va qac W) (hk:Kept (qad G va) W w) (hl:Loc w G (cs.setIfInBounds 5 va') 129) (ha:w.ownsRow K 9 1 va' au'.length (strs au')):VW G pol (cs.setIfInBounds 5 va') vn ve ns es last m V vc nm rv bv SV qab vs vcn vi vpp K va' au' w:=by
 obtain⟨vp,mp,c0,hp⟩:=h.KY
 have hg:∀i,i≠5→(cs.setIfInBounds 5 va')[i]?=cs[i]?:=fun i hi=>by rw[Array.getElem?_setIfInBounds_ne (by omega)]
 exact⟨xp h.own h.aud hk hl (hg 1 (by decide)) (hg 2 (by decide)) (hg 3 (by decide)),by rw[Array.size_setIfInBounds];exact h.size,⟨vp,mp,(hg 0 (by decide)).trans c0,BS hp h.own.bZ h.aud hk⟩,(hg 4 (by decide)).trans h.BQ,dp h.vrow h.own.bZ h.aud hk (by decide) (by decide),LM h.rows h.own.bZ h.aud hk,h.vrole,by rw[Array.getElem?_setIfInBounds_self_of_lt (by rw[h.size];decide)],ha⟩
theorem LX {B:Nat} (h:VG B G pol cs vn ve ns es last m W) (hk:Kept (fun b=>b=G) W w) (hl:Loc w G (cs.setIfInBounds 4 (.slice (some ⟨V,0,none⟩) 1 vc)) 129) (hv:w.ownsRow 0 145 20 (.slice (some ⟨V,0,none⟩) 1 vc) 1 (gA nm rv bv qab vs vcn vi vpp).toList) (hr:jd 0 qab vs vcn vi vpp w) (hm:(rv,bv,SV)∈pol) (K:Nat):VW G pol (cs.setIfInBounds 4 (.slice (some ⟨V,0,none⟩) 1 vc)) vn ve ns es last m V vc nm rv bv SV qab vs vcn vi vpp K (.slice none 0 0) [] w:=by
 obtain⟨vp,mp,c0,hp⟩:=h.KY
 have hn:W.ownsRow K 9 1 (.slice none 0 0) 0 []:=World.ownsRow_nil _ _ _ _
 have hk':Kept (qad G (.slice none 0 0)) W w:=hk.kt (fun b hb=>Or.inl hb)
 have hg:∀i,i≠4→(cs.setIfInBounds 4 (.slice (some ⟨V,0,none⟩) 1 vc))[i]?=cs[i]?:=fun i hi=>by rw[Array.getElem?_setIfInBounds_ne (by omega)]
 exact⟨xp h.own hn hk' hl (hg 1 (by decide)) (hg 2 (by decide)) (hg 3 (by decide)),by rw[Array.size_setIfInBounds];exact h.size,⟨vp,mp,(hg 0 (by decide)).trans c0,BS hp h.own.bZ hn hk'⟩,by rw[Array.getElem?_setIfInBounds_self_of_lt (by rw[h.size];decide)],hv,hr,hm,(hg 5 (by decide)).trans h.Gn,World.ownsRow_nil _ _ _ _⟩
theorem VW.L2 (h:VW G pol cs vn ve ns es last m V vc nm rv bv SV qab vs vcn vi vpp K (.slice none 0 0) [] W) (K':Nat):VW G pol cs vn ve ns es last m V vc nm rv bv SV qab vs vcn vi vpp K' (.slice none 0 0) [] W:=⟨h.own,h.size,h.KY,h.BQ,h.vrow,h.rows,h.vrole,h.Gn,World.ownsRow_nil _ _ _ _⟩
theorem lC {role text:ByteArray} {ev:Value} {r:cU} {q:au} (h:VW G pol cs vn ve ns es last m V vc nm rv bv SV qab vs vcn vi vpp K va qac W) (hs:text.size≤maxLen) (hf:jg pol role=some r) (hpq:parseText (fg text)=(q,0)) (hkd:q.kind=1) (hw:bj nm=1) (hvo:(gA nm rv bv qab vs vcn vi vpp).all (·.oneCell')=true) (hge:∀w,Below W.heap.size W w→w.cell? ⟨5,0,none⟩=some ev) (hev:ev=.nilIface∨∃te pe,ev=.iface te pe):
  Calls Tryz.prog 33 #[.pointer (some ⟨G,0,none⟩),.string nm,.string role,.string text] W fun e W'=>e=.returned (.int .i64 5)∧Below W.heap.size W W':=by
 obtain⟨vp,mp,c0,hp⟩:=h.KY
 obtain⟨ap,cp,rfl⟩:=bB hp.own
 have p0:W.cell? ⟨G,0,none⟩=some (.slice ap pol.length cp):=(h.own.bZ.cell 0).trans c0
 have HRO:=hid (Gq (nm:=role) hp.rF (aP hp.own hp.own.1))
 rw[hf] at HRO
 have H:=hid h
 have HS:=hid hs
 have HGE:=hid hge
 have HEV:=hid hev
 have HPQ:=hid hpq
 have HKD:=hid hkd
 have HW:=hid hw
 have HVO:=hid hvo
 clear hw hvo h hs hge hev c0 hp hf hpq hkd
 obtain⟨rn,rb,S⟩:=r
 unfold zu at HRO
 simp only at HRO
 go_enter Tryz.func33,Tryz.ntmps33
 go_wp2_with fail
 refine HRO.out.mono ?_
 rintro e W1 ⟨rfl,hb1⟩
 have HB1:=hid hb1
 clear hb1 HRO p0
 have HB2:=hid (HB1.out.alloc HB1.out.size (.cells #[.string rn,.map (some rb)] 118))
 have HR2:=hid (Loc.new W1 #[.string rn,.map (some rb)] 118)
 go_upto_region 4 with fail
 obtain⟨Y,hY⟩:∃Y,Y=W1.heap.size:=⟨_,rfl⟩
 have HYN:Hid (W.heap.size≤Y):=hid (by rw[hY];exact HB1.out.size)
 rw[←hY] at HR2⊢
 clear hY
 generalize W1.alloc (.cells #[.string rn,.map (some rb)] 118)=W2 at HB2 HR2⊢
 go_wp2_with fail
 refine(Dd text W2 (HGE.out W2 HB2.out) HEV.out HS.out).mono ?_
 rw[HPQ.out]
 rintro e W3 ⟨hb,vs,vc,vi,vp,rfl,hrows⟩
 simp only at hrows⊢
 obtain⟨sa,sc,rfl,m1⟩:=aU (l:=q.ai) hrows.rs
 obtain⟨ca,cc,rfl,m2⟩:=aU (l:=q.conds) hrows.rc
 obtain⟨ia,ic,rfl,m3⟩:=aU (l:=q.items) hrows.rt
 obtain⟨pa,pc,rfl,m4⟩:=aU (l:=q.ay) hrows.rp
 clear m1 m2 m3 m4
 obtain⟨qc,hqc⟩:∃qc,qC q (.slice sa q.ai.length sc) (.slice ca q.conds.length cc) (.slice ia q.items.length ic) (.slice pa q.ay.length pc)=qc:=⟨_,rfl⟩
 have hqs:qc.size=17:=by rw[←hqc];rfl
 have hqo:qc.all (·.oneCell')=true:=by rw[←hqc];exact nh q
 have q0:qc[0]?=some (.int .i64 q.kind):=by rw[←hqc];rfl
 have q8:qc[8]?=some (.string q.name):=by rw[←hqc];rfl
 have HQC:=hid hqc
 rw[hqc]
 have HQS:Hid ((Tryz.prog.info? 29).map (·.size)=some qc.toList.length):=hid (by rw[Tryz.aX,Array.length_toList,hqs])
 have kb:=AM (w:=W3) (cs:=qc) (T:=29) zq
 have HQI:=hid (hrows.later kb)
 have HL4:Hid (Loc ((W3.alloc (.cells zq 29)).setCells W3.heap.size 0 qc.toList) W3.heap.size qc 29):=hid ((Loc.new W3 zq 29).dh (new:=qc) (by rw[hqs];rfl))
 have HB3:=hid (HB2.out.trans (hb.mono HB2.out.size))
 have HB4:=hid (HB3.out.trans (kb.mono HB3.out.size))
 have HR4:=hid ((HR2.out.grown (af hb none) (by simp)).grown (af kb none) (by simp))
 clear hb hrows kb HR2 HB2 hqc
 rename_i KK hKK
 refine hKK _ _ ?_
 clear hKK KK
 refine iF rfl rfl ?_
 refine iY rfl rfl rfl rfl ?_
 refine iY rfl rfl rfl rfl ?_
 refine kY rfl rfl ?_
 refine wpList_store_mid rfl 29 _ _ rfl W3.heap.size 0 qc rfl rfl (by rw[hqs];exact(Loc.new W3 zq 29).there) (by rw[hqs];exact Tryz.aX) hqo ?_
 obtain⟨X,hX⟩:∃X,X=W3.heap.size:=⟨_,rfl⟩
 have HXN:Hid (W.heap.size≤X):=hid (by rw[hX];exact HB3.out.size)
 rw[←hX] at HL4 HQI HB4 HR4⊢
 clear hX hqo
 generalize (W3.alloc (.cells zq 29)).setCells X 0 qc.toList=W4 at HL4 HQI HB4 HR4⊢
 have k0:W4.cell? ⟨X,0,none⟩=some (.int .i64 q.kind):=(HL4.out.cell 0).trans q0
 rw[HKD.out] at k0
 obtain⟨wc,hwc⟩:∃wc,gA nm rv bv qab vs vcn vi vpp=wc:=⟨_,rfl⟩
 have HVR:=hid (H.out.later HB4.out).range
 have HWS:Hid (wc.size=20):=hid (by rw[←hwc];rfl)
 have HW0:Hid (wc[0]?=some (.string nm)):=hid (by rw[←hwc];rfl)
 rw[hwc] at HVR HVO
 clear hwc
 go_wp2_with fail
 refine(ms (nm:=nm) (H.out.later HB4.out).own.bZ H.out.BQ HVR.out HWS.out HVO.out HW0.out).mono ?_
 rintro e W5 ⟨rfl,hb5⟩
 have hz:Below W5.heap.size W5 ((W5.alloc (.cells iM 145)).setCells W5.heap.size 0 wc.toList):=((Below.refl W5.heap.size W5).alloc (Nat.le_refl _) (.cells iM 145)).grown (aS W5.heap.size wc.toList 0 _) (by simp) (fun j hj=>by injection hj with hj;rw[←hj];exact Nat.le_refl _)
 have hb6:=hb5.trans (hz.mono hb5.size)
 have HB6:=hid (HB4.out.trans (hb6.mono HB4.out.size))
 have k6:((W5.alloc (.cells iM 145)).setCells W5.heap.size 0 wc.toList).cell? ⟨X,0,none⟩=some (.int .i64 1):=(hb6.cell (block_lt_of_cell k0)).trans k0
 clear hb5 hz hb6 HL4 HR4 HQI k0 HB4
 rename_i KK hKK
 refine hKK _ _ ?_
 clear hKK KK
 refine iF rfl rfl ?_
 refine iY rfl rfl rfl rfl ?_
 refine iY rfl rfl rfl rfl ?_
 refine lY rfl rfl ?_
 refine wpList_store_mid rfl 145 _ _ rfl W5.heap.size 0 wc rfl rfl (by rw[HWS.out];exact(Loc.new W5 iM 145).there) (by rw[HWS.out];exact Tryz.sU) HVO.out ?_
 obtain⟨Z,hZ⟩:∃Z,Z=W5.heap.size:=⟨_,rfl⟩
 rw[←hZ] at HB6 k6⊢
 clear hZ
 generalize (W5.alloc (.cells iM 145)).setCells Z 0 wc.toList=W6 at HB6 k6⊢
 go_wp2_with fail
 refine(eC nm _).mono ?_
 rintro e w7 ⟨rfl,hw7⟩
 obtain rfl:=hw7.symm
 rw[HW.out]
 go_wp2_with fail
 go_ret
 exact⟨rfl,HB6.out⟩
end
end Go.Proofs.YtobgbmfpicmpcaaGreatDoor
