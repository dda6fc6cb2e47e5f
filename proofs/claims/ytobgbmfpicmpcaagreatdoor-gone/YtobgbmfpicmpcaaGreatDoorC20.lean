/- The program's parser: a whole query; the program's Parse. -/
import Derived.Test.YtobgbmfpicmpcaaGreatDoorC15
import Derived.Test.YtobgbmfpicmpcaaGreatDoorC17
import Derived.Test.YtobgbmfpicmpcaaGreatDoorC19
import Derived.Lib.Hide
set_option maxRecDepth 100000
set_option maxHeartbeats 8000000
namespace Go.Proofs.YtobgbmfpicmpcaaGreatDoor
open Go.Lib (hid)
section
open Go.RowKit
theorem Ji {b G:Nat} {st:RS} {W:World} (h:PI b G st W) (hl:st.rest.length≤2000):
  Calls Tryz.prog 45 #[.pointer (some ⟨b,0,none⟩)] W (ot b G W (eF st)):=by
 cases hc:aE eW st with
 | true=>exact Dl h hc
 | false=>
  cases hm:aE aM st with
  | true=>exact C7 h hl hc hm
  | false=>exact Bv h hl hc hm
theorem mI {s:ByteArray} {ts:List Tok} (h:fg s=some ts):parseText (fg s)=fj ts:=by
 rw[h]
 unfold fg at h
 split at h
 ·cases h
 ·exact(Pure.EU (Pure.C1 s s.size 0 ts (by omega) h)).symm
theorem PI.start {W1:World} {B X0:Nat} {lv:Value} {ts:List Tok} (ho:W1.ownsRow B 153 3 lv ts.length (dy ts)) (hX:X0<W1.heap.size):
  ∃G,G<W1.heap.size∧PI W1.heap.size G ⟨ts,false⟩ (W1.alloc (.cells #[lv,.bool false] 81)):=by
 obtain⟨ao,cap,rfl,hc,hs⟩:=GM ho
 have hlt:∀{x o:Nat} {v:Value},x<W1.heap.size→W1.cell? ⟨x,o,none⟩=some v→(W1.alloc (.cells #[.slice ao ts.length cap,.bool false] 81)).cell? ⟨x,o,none⟩=some v:=by
  intro x o v hx hv
  rw[←hv]
  simp only[World.cell?,Below.heap_alloc W1 _ x hx]
 have hz:=size_alloc W1 (.cells #[.slice ao ts.length cap,.bool false] 81)
 by_cases h0:0<ts.length
 ·obtain⟨g,rfl,c0,_,_⟩:=hs 0 h0
  have hg:g<W1.heap.size:=Lib.lt_of_cell c0
  refine⟨g,hg,⟨_,cap,Loc.new W1 _ _,hc,?_⟩,⟨by omega,by omega⟩⟩
  intro j hj
  obtain⟨g',e,a0,a1,a2⟩:=hs j hj
  injection e with e
  injection e with e1 _
  subst e1
  refine⟨0,rfl,?_,?_,?_⟩
  ·rw[Nat.zero_add];exact hlt hg a0
  ·rw[Nat.zero_add];exact hlt hg a1
  ·rw[Nat.zero_add];exact hlt hg a2
 ·exact⟨X0,hX,⟨_,cap,Loc.new W1 _ _,hc,fun j hj=>absurd hj (by simp only;omega)⟩,⟨by omega,by omega⟩⟩
theorem kY {ops:Array Oper} {rest:List Oper} {op:Oper} {a:Act} {w:World} {Q:Exit→Act→World→Prop} (hgd:op.guard=none) (ho:op.op=.alloc 29) (h:wpList Tryz.prog ops Q rest (a.put op.dst (.pointer (some ⟨w.heap.size,0,none⟩))) (w.alloc (.cells zq 29))):wpList Tryz.prog ops Q (op::rest) a w:=
 wpList_plain hgd fun _ hK=>by
  unfold Oper.wp execOp
  simp only[ho]
  go_simp
  exact hK _ _ h
theorem tJ {q:au} (h:jk q):q.ai.length≤6∧q.conds.length≤6∧q.items.length≤6∧q.ay.length≤6:=by
 rcases h with h|h|h|h|h|h
 ·obtain⟨hm,_,_,hl,_,_,_,_,_,_,e⟩:=h
  refine⟨hm.qW,hm.qY,hl,?_⟩;rw[e];simp
 ·obtain⟨hm,_,_,_,e⟩:=h
  refine⟨hm.qW,hm.qY,?_,?_⟩<;>rw[e]<;>simp
 ·obtain⟨hm,_,e⟩:=h
  refine⟨hm.qW,hm.qY,?_,?_⟩<;>rw[e]<;>simp
 ·obtain⟨hm,_,_,_,e⟩:=h
  refine⟨hm.qW,hm.qY,?_,?_⟩<;>rw[e]<;>simp
 ·obtain⟨_,_,hn,_,e⟩:=h
  refine⟨?_,?_,?_,hn⟩<;>rw[e]<;>simp
 ·obtain⟨_,e⟩:=h
  refine⟨?_,?_,?_,?_⟩<;>rw[e]<;>simp
theorem tW (s:ByteArray) (W:World) {ev:Value} (hg:W.cell? ⟨5,0,none⟩=some ev) (hev:ev=.nilIface∨∃te pe,ev=.iface te pe) (hs:s.size≤maxLen) (hnone:fg s=none):Calls Tryz.prog 15 #[.string s] W (qJ (parseText (fg s)) W):=by
 have hB0:Below W.heap.size W (W.alloc (.cells zq 29)):=Below.alloc (Below.refl _ _) (Nat.le_refl _) _
 have L0:=Loc.new W zq 29
 have HZ:=size_alloc W (.cells zq 29)
 have hlt:(⟨5,0,none⟩:Addr).block<W.heap.size:=Lib.lt_of_cell hg
 have HG:=hid ((hB0.cell hlt).trans hg)
 have HEV:=hid hev
 have HB0:=hid hB0
 have HL0:=hid L0
 clear hB0 L0 hg hev hlt
 go_enter Tryz.func15,Tryz.ntmps15
 go_wp2_with fail
 obtain⟨X0,hX0⟩:∃X0,X0=W.heap.size:=⟨_,rfl⟩
 rw[←hX0] at HL0⊢
 have hXW:W.heap.size≤X0:=by omega
 have hXZ:X0+1=(W.alloc (.cells zq 29)).heap.size:=by rw[HZ,hX0]
 clear hX0
 generalize W.alloc (.cells zq 29)=Wz at HB0 HL0 HZ HG hXZ⊢
 refine(tokens s Wz HG.out HEV.out hs).mono ?_
 rintro e W1 ⟨hb1,hr⟩
 have hs1:=hb1.size
 have HL1:Hid (Loc W1 X0 zq 29):=HL0.out.grown (af hb1 none) (by simp)
 have HW:Hid (Below W.heap.size W W1):=gH (b:=W.heap.size) HB0.out (af hb1 _) (Nat.le_refl _)
 clear hb1 HL0 HB0 HG HEV
 rcases hr with ⟨hno,rfl⟩|⟨ts,lv,hts,rfl,hown⟩
 ·have HNO:Hid (parseText (fg s)=(aF,3)):=by show _=_;rw[hno];rfl
  clear hno hnone
  go_upto_region 3 with fail
  refine wp_region_lit ?_
  refine jr rfl rfl ?_
  refine iF rfl rfl ?_
  refine wpList_store_mid rfl 29 _ _ rfl X0 0 zq rfl rfl HL1.out.there Tryz.aX Gz ?_
  have hF:Loc (W1.setCells X0 0 zq.toList) X0 zq 29:=HL1.out.dh rfl
  have hG:=aS X0 zq.toList 0 W1
  obtain⟨WF,hWF⟩:∃WF,W1.setCells X0 0 zq.toList=WF:=⟨_,rfl⟩
  rw[hWF] at hF hG⊢
  clear hWF
  go_wp2_with fail
  refine bodyPost_ret (v:=.tuple #[.agg zq,.int .i64 3]) (pv Tryz.results15 rfl rfl hF rfl) rfl ⟨?_,.slice none 0 0,.slice none 0 0,.slice none 0 0,.slice none 0 0,?_,?_⟩
  ·exact gH (b:=X0) HW.out hG hXW
  ·rw[HNO.out];rfl
  ·rw[HNO.out];exact jd.none _ _
 ·rw[hnone] at hts;cases hts
theorem uh (s:ByteArray) (W:World) {ev:Value} (hg:W.cell? ⟨5,0,none⟩=some ev) (hev:ev=.nilIface∨∃te pe,ev=.iface te pe) (hs:s.size≤maxLen) {ts:List Tok} (hts:fg s=some ts) {q0:au} {s0:RS} (Hq0:Hid (eF ⟨ts,false⟩=(q0,s0))):Calls Tryz.prog 15 #[.string s] W (qJ (parseText (fg s)) W):=by
 have hB0:Below W.heap.size W (W.alloc (.cells zq 29)):=Below.alloc (Below.refl _ _) (Nat.le_refl _) _
 have L0:=Loc.new W zq 29
 have HZ:=size_alloc W (.cells zq 29)
 have hlt:(⟨5,0,none⟩:Addr).block<W.heap.size:=Lib.lt_of_cell hg
 have HG:=hid ((hB0.cell hlt).trans hg)
 have HEV:=hid hev
 have HB0:=hid hB0
 have HL0:=hid L0
 clear hB0 L0 hg hev hlt
 go_enter Tryz.func15,Tryz.ntmps15
 go_wp2_with fail
 obtain⟨X0,hX0⟩:∃X0,X0=W.heap.size:=⟨_,rfl⟩
 rw[←hX0] at HL0⊢
 have hXW:W.heap.size≤X0:=by omega
 have hXZ:X0+1=(W.alloc (.cells zq 29)).heap.size:=by rw[HZ,hX0]
 clear hX0
 generalize W.alloc (.cells zq 29)=Wz at HB0 HL0 HZ HG hXZ⊢
 refine(tokens s Wz HG.out HEV.out hs).mono ?_
 rintro e W1 ⟨hb1,hr⟩
 have hs1:=hb1.size
 have HL1:Hid (Loc W1 X0 zq 29):=HL0.out.grown (af hb1 none) (by simp)
 have HW:Hid (Below W.heap.size W W1):=gH (b:=W.heap.size) HB0.out (af hb1 _) (Nat.le_refl _)
 clear hb1 HL0 HB0 HG HEV
 rcases hr with ⟨hno,rfl⟩|⟨ts',lv,hts2,rfl,hown⟩
 ·rw[hts] at hno;cases hno
 ·obtain rfl:ts=ts':=by rw[hts] at hts2;exact Option.some.inj hts2
  clear hts2
  have hl:=Eo hts
  have HT:=hid (mI hts)
  obtain⟨ao,ca,rfl,hca⟩:=aU (l:=ts) hown
  obtain⟨G,hGl,hpi⟩:=PI.start (X0:=X0) hown (by omega)
  have HP:=hid hpi
  have HL2:Hid (Loc (W1.alloc (.cells #[.slice ao ts.length ca,.bool false] 81)) X0 zq 29):=HL1.out.alloc _
  have HW2:Hid (Below W.heap.size W (W1.alloc (.cells #[.slice ao ts.length ca,.bool false] 81))):=HW.out.alloc (by have:=HW.out.size;omega) _
  have hz2:=size_alloc W1 (.cells #[.slice ao ts.length ca,.bool false] 81)
  clear hpi hown HL1 hts
  go_upto_region 5 with fail
  obtain⟨b,hb⟩:∃b,b=W1.heap.size:=⟨_,rfl⟩
  rw[←hb] at HP⊢
  have hbX:X0<b:=by omega
  have hbW:W.heap.size≤b:=by have:=HW.out.size;omega
  have hbz:b<(W1.alloc (.cells #[.slice ao ts.length ca,.bool false] 81)).heap.size:=by omega
  clear hb hs1 hGl HW
  generalize W1.alloc (.cells #[.slice ao ts.length ca,.bool false] 81)=W2 at HP HL2 HW2 hz2 hbz⊢
  go_wp2_with fail
  refine(Ji HP.out hl).mono ?_
  rintro e W3 ⟨vs,vc,vi,vp,rfl,hrows,hpi,hgr⟩
  rw[Hq0.out] at hrows hpi⊢
  simp only at hrows hpi⊢
  obtain⟨a1,k1,rfl,m1⟩:=aU (l:=q0.ai) hrows.rs
  obtain⟨a2,k2,rfl,m2⟩:=aU (l:=q0.conds) hrows.rc
  obtain⟨a3,k3,rfl,m3⟩:=aU (l:=q0.items) hrows.rt
  obtain⟨a4,k4,rfl,m4⟩:=aU (l:=q0.ay) hrows.rp
  have HL3:=hid (HL2.out.grown hgr (by intro e;injection e with e;omega))
  have HW3:Hid (Below W.heap.size W W3):=gH (b:=b) HW2.out hgr hbW
  have hs3:=hgr.size
  have HR3:=hid hrows
  have HP3:=hid hpi
  clear hrows hpi hgr HL2 HW2 HP m1 m2 m3 m4
  rename_i KK hKK
  refine hKK _ _ ?_
  clear hKK KK
  refine kY rfl rfl ?_
  have n4:=Loc.new W3 zq 29
  refine wpList_store_mid rfl 29 _ _ rfl W3.heap.size 0 (qC q0 (.slice a1 q0.ai.length k1) (.slice a2 q0.conds.length k2) (.slice a3 q0.items.length k3) (.slice a4 q0.ay.length k4)) rfl rfl n4.there Tryz.aX (nh _) ?_
  have hF:Loc ((W3.alloc (.cells zq 29)).setCells W3.heap.size 0 (qC q0 (.slice a1 q0.ai.length k1) (.slice a2 q0.conds.length k2) (.slice a3 q0.items.length k3) (.slice a4 q0.ay.length k4)).toList) W3.heap.size (qC q0 (.slice a1 q0.ai.length k1) (.slice a2 q0.conds.length k2) (.slice a3 q0.items.length k3) (.slice a4 q0.ay.length k4)) 29:=n4.dh rfl
  have hG1:=ar W3 (.cells zq 29) (some W3.heap.size)
  have hG2:=aS W3.heap.size (qC q0 (.slice a1 q0.ai.length k1) (.slice a2 q0.conds.length k2) (.slice a3 q0.items.length k3) (.slice a4 q0.ay.length k4)).toList 0 (W3.alloc (.cells zq 29))
  have hG:=aB hG1 hG2
  obtain⟨x,hx⟩:∃x,x=W3.heap.size:=⟨_,rfl⟩
  rw[←hx] at hF hG⊢
  obtain⟨W4,hW4⟩:∃WF,(W3.alloc (.cells zq 29)).setCells x 0 (qC q0 (.slice a1 q0.ai.length k1) (.slice a2 q0.conds.length k2) (.slice a3 q0.items.length k3) (.slice a4 q0.ay.length k4)).toList=WF:=⟨_,rfl⟩
  rw[←hx] at hG1 hG2 n4
  rw[hW4] at hF hG⊢
  have hxb:b<x:=by omega
  have hGx:G≠x:=by have:=HP3.out.xU.2;omega
  have HX4:=hid hF
  have HP4:=hid (HP3.out.kept hG (by intro e;injection e with e;omega) (by intro e;injection e with e;exact hGx e))
  have HL4:=hid (HL3.out.grown hG (by intro e;injection e with e;omega))
  have HW4:Hid (Below W.heap.size W W4):=gH (b:=x) HW3.out hG (by omega)
  have HR4:Hid (jd W2.heap.size q0 (.slice a1 q0.ai.length k1) (.slice a2 q0.conds.length k2) (.slice a3 q0.items.length k3) (.slice a4 q0.ay.length k4) W4):=by
   have h:=HR3.out
   exact⟨h.rs.kept hG (Or.inr fun e=>by have:=(h.rs.lt x e).2;omega),h.rc.kept hG (Or.inr fun e=>by have:=(h.rc.lt x e).2;omega),h.rt.kept hG (Or.inr fun e=>by have:=(h.rt.lt x e).2;omega),h.rp.kept hG (Or.inr fun e=>by have:=(h.rp.lt x e).2;omega)⟩
  have hxX:X0≠x:=by omega
  clear hW4 hG hG1 hG2 n4 hF HR3 HP3 HL3 HW3 hx
  go_wp2_with fail
  refine(Kq HP4.out).mono ?_
  rintro e W4' ⟨rfl,hw4⟩
  obtain rfl:=hw4.symm
  cases hd0:(!s0.bad&&s0.rest.isEmpty) with
  | false=>
   have Hd0:=hid hd0
   clear hd0
   have hd:(s0.bad || !s0.rest.isEmpty)=true:=by have:=Hd0.out;revert this;cases s0.bad<;>cases s0.rest.isEmpty<;>simp
   have HNO:Hid (parseText (fg s)=(aF,3)):=by show _=_;rw[HT.out];unfold fj;simp only[Hq0.out,hd,if_true]
   clear hd
   go_upto_region 7 with fail
   refine wp_region_lit ?_
   refine jr rfl rfl ?_
   refine wpList_store_mid rfl 29 _ _ rfl X0 0 zq rfl rfl HL4.out.there Tryz.aX Gz ?_
   have hF:Loc (W4.setCells X0 0 zq.toList) X0 zq 29:=HL4.out.dh rfl
   have hG:=aS X0 zq.toList 0 W4
   obtain⟨WF,hWF⟩:∃WF,W4.setCells X0 0 zq.toList=WF:=⟨_,rfl⟩
   rw[hWF] at hF hG⊢
   clear hWF
   go_wp2_with fail
   refine bodyPost_ret (v:=.tuple #[.agg zq,.int .i64 3]) (pv Tryz.results15 rfl rfl hF rfl) rfl ⟨?_,.slice none 0 0,.slice none 0 0,.slice none 0 0,.slice none 0 0,?_,?_⟩
   ·exact gH (b:=X0) HW4.out hG hXW
   ·rw[HNO.out];rfl
   ·rw[HNO.out];exact jd.none _ _
  | true=>
   have Hd0:=hid hd0
   clear hd0
   cases hsc:eG q0 with
   | false=>
    have Hsc:=hid hsc
    clear hsc
    have hd:(s0.bad || !s0.rest.isEmpty)=false:=by have:=Hd0.out;revert this;cases s0.bad<;>cases s0.rest.isEmpty<;>simp
    have hgood:jk q0:=by
     have h:=Pure.mK (st:=⟨ts,false⟩) (by rw[Hq0.out];revert hd;cases s0.bad<;>simp)
     rw[Hq0.out] at h;exact h
    obtain⟨l1,l2,l3,l4⟩:=tJ hgood
    clear hgood
    go_upto_region 8 with fail
    refine wp_region_lit ?_
    refine wpList_load_mid rfl 29 _ rfl x 0 rfl (qC q0 (.slice a1 q0.ai.length k1) (.slice a2 q0.conds.length k2) (.slice a3 q0.items.length k3) (.slice a4 q0.ay.length k4)).toList _ HX4.out.range Tryz.underlying29 rfl (by rw[Tryz.aX];rfl) ?_
    go_wp2_with fail
    refine(xm (q:=q0) HR4.out.rs HR4.out.rc HR4.out.rt (by omega) (by omega) (by omega)).mono ?_
    rintro e W5 ⟨rfl,hb5⟩
    rw[Hsc.out]
    have g5:=af hb5 none
    have HL5:=hid (HL4.out.grown g5 (by simp))
    have HX5:=hid (HX4.out.grown g5 (by simp))
    have HW5:Hid (Below W.heap.size W W5):=gH (b:=W.heap.size) HW4.out (af hb5 _) (Nat.le_refl _)
    have HR5:Hid (jd W2.heap.size q0 (.slice a1 q0.ai.length k1) (.slice a2 q0.conds.length k2) (.slice a3 q0.items.length k3) (.slice a4 q0.ay.length k4) W5):=⟨bW HR4.out.rs g5,bW HR4.out.rc g5,bW HR4.out.rt g5,bW HR4.out.rp g5⟩
    clear hb5 g5 HL4 HX4 HW4 HR4 HP4
    have HNO:Hid (parseText (fg s)=(aF,4)):=by show _=_;rw[HT.out];unfold fj;simp only[Hq0.out,hd,Hsc.out];rfl
    clear hd
    go_upto_region 9 with fail
    refine wp_region_lit ?_
    refine jr rfl rfl ?_
    refine wpList_store_mid rfl 29 _ _ rfl X0 0 zq rfl rfl HL5.out.there Tryz.aX Gz ?_
    have hF:Loc (W5.setCells X0 0 zq.toList) X0 zq 29:=HL5.out.dh rfl
    have hG:=aS X0 zq.toList 0 W5
    obtain⟨WF,hWF⟩:∃WF,W5.setCells X0 0 zq.toList=WF:=⟨_,rfl⟩
    rw[hWF] at hF hG⊢
    clear hWF
    go_wp2_with fail
    refine bodyPost_ret (v:=.tuple #[.agg zq,.int .i64 4]) (pv Tryz.results15 rfl rfl hF rfl) rfl ⟨?_,.slice none 0 0,.slice none 0 0,.slice none 0 0,.slice none 0 0,?_,?_⟩
    ·exact gH (b:=X0) HW5.out hG hXW
    ·rw[HNO.out];rfl
    ·rw[HNO.out];exact jd.none _ _
   | true=>
    have Hsc:=hid hsc
    clear hsc
    have hd:(s0.bad || !s0.rest.isEmpty)=false:=by have:=Hd0.out;revert this;cases s0.bad<;>cases s0.rest.isEmpty<;>simp
    have hgood:jk q0:=by
     have h:=Pure.mK (st:=⟨ts,false⟩) (by rw[Hq0.out];revert hd;cases s0.bad<;>simp)
     rw[Hq0.out] at h;exact h
    obtain⟨l1,l2,l3,l4⟩:=tJ hgood
    clear hgood
    go_upto_region 8 with fail
    refine wp_region_lit ?_
    refine wpList_load_mid rfl 29 _ rfl x 0 rfl (qC q0 (.slice a1 q0.ai.length k1) (.slice a2 q0.conds.length k2) (.slice a3 q0.items.length k3) (.slice a4 q0.ay.length k4)).toList _ HX4.out.range Tryz.underlying29 rfl (by rw[Tryz.aX];rfl) ?_
    go_wp2_with fail
    refine(xm (q:=q0) HR4.out.rs HR4.out.rc HR4.out.rt (by omega) (by omega) (by omega)).mono ?_
    rintro e W5 ⟨rfl,hb5⟩
    rw[Hsc.out]
    have g5:=af hb5 none
    have HL5:=hid (HL4.out.grown g5 (by simp))
    have HX5:=hid (HX4.out.grown g5 (by simp))
    have HW5:Hid (Below W.heap.size W W5):=gH (b:=W.heap.size) HW4.out (af hb5 _) (Nat.le_refl _)
    have HR5:Hid (jd W2.heap.size q0 (.slice a1 q0.ai.length k1) (.slice a2 q0.conds.length k2) (.slice a3 q0.items.length k3) (.slice a4 q0.ay.length k4) W5):=⟨bW HR4.out.rs g5,bW HR4.out.rc g5,bW HR4.out.rt g5,bW HR4.out.rp g5⟩
    clear hb5 g5 HL4 HX4 HW4 HR4 HP4
    have HOK:Hid (parseText (fg s)=(q0,0)):=by show _=_;rw[HT.out];unfold fj;simp only[Hq0.out,hd,Hsc.out];rfl
    clear hd
    go_upto_region 10 with fail
    refine wp_region_lit ?_
    refine wpList_load_mid rfl 29 _ rfl x 0 rfl (qC q0 (.slice a1 q0.ai.length k1) (.slice a2 q0.conds.length k2) (.slice a3 q0.items.length k3) (.slice a4 q0.ay.length k4)).toList _ HX5.out.range Tryz.underlying29 rfl (by rw[Tryz.aX];rfl) ?_
    refine wpList_store_mid rfl 29 _ _ rfl X0 0 (qC q0 (.slice a1 q0.ai.length k1) (.slice a2 q0.conds.length k2) (.slice a3 q0.items.length k3) (.slice a4 q0.ay.length k4)) rfl rfl HL5.out.there Tryz.aX (nh q0) ?_
    have hF:Loc (W5.setCells X0 0 (qC q0 (.slice a1 q0.ai.length k1) (.slice a2 q0.conds.length k2) (.slice a3 q0.items.length k3) (.slice a4 q0.ay.length k4)).toList) X0 (qC q0 (.slice a1 q0.ai.length k1) (.slice a2 q0.conds.length k2) (.slice a3 q0.items.length k3) (.slice a4 q0.ay.length k4)) 29:=HL5.out.dh rfl
    have hG:=aS X0 (qC q0 (.slice a1 q0.ai.length k1) (.slice a2 q0.conds.length k2) (.slice a3 q0.items.length k3) (.slice a4 q0.ay.length k4)).toList 0 W5
    obtain⟨WF,hWF⟩:∃WF,W5.setCells X0 0 (qC q0 (.slice a1 q0.ai.length k1) (.slice a2 q0.conds.length k2) (.slice a3 q0.items.length k3) (.slice a4 q0.ay.length k4)).toList=WF:=⟨_,rfl⟩
    rw[hWF] at hF hG⊢
    clear hWF
    go_wp2_with fail
    refine bodyPost_ret (v:=.tuple #[.agg (qC q0 (.slice a1 q0.ai.length k1) (.slice a2 q0.conds.length k2) (.slice a3 q0.items.length k3) (.slice a4 q0.ay.length k4)),.int .i64 0]) (pv Tryz.results15 rfl rfl hF rfl) rfl ⟨?_,(.slice a1 q0.ai.length k1),(.slice a2 q0.conds.length k2),(.slice a3 q0.items.length k3),(.slice a4 q0.ay.length k4),?_,?_⟩
    ·exact gH (b:=X0) HW5.out hG hXW
    ·rw[HOK.out]
    ·rw[HOK.out]
     have hw:W.heap.size≤W2.heap.size:=by omega
     exact⟨bQ (HR5.out.rs.kept hG (Or.inr (aQ HR5.out.rs HL5.out (by decide)))) hw,bQ (HR5.out.rc.kept hG (Or.inr (aQ HR5.out.rc HL5.out (by decide)))) hw,bQ (HR5.out.rt.kept hG (Or.inr (aQ HR5.out.rt HL5.out (by decide)))) hw,bQ (HR5.out.rp.kept hG (Or.inr (aQ HR5.out.rp HL5.out (by decide)))) hw⟩
theorem Dd (s:ByteArray) (W:World) {ev:Value} (hg:W.cell? ⟨5,0,none⟩=some ev) (hev:ev=.nilIface∨∃te pe,ev=.iface te pe) (hs:s.size≤maxLen):Calls Tryz.prog 15 #[.string s] W (qJ (parseText (fg s)) W):=by
 cases hts:fg s with
 | none=>rw[←hts];exact tW s W hg hev hs hts
 | some ts=>
  rw[←hts]
  cases hq0:eF ⟨ts,false⟩ with
  | mk q0 s0=>
   exact uh s W hg hev hs hts hq0
end
end Go.Proofs.YtobgbmfpicmpcaaGreatDoor
