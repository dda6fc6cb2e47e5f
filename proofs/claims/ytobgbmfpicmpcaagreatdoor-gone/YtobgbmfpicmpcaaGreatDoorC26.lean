/- The graph that is written: Set. -/
import Derived.Test.YtobgbmfpicmpcaaGreatDoorC25
import Derived.Lib.QuietBelow
import Derived.Lib.Hide
set_option maxRecDepth 100000
set_option maxHeartbeats 8000000
namespace Go.Proofs.YtobgbmfpicmpcaaGreatDoor
open Go.Lib (hid)
section
open Go.RowKit Go.Maps
variable {gb go m:Nat} {T:TypeId} {cs:Array Value} {vn ve:Value} {ns:List aq} {es:List aJ} {last:Int} {W w:World}
theorem ed.qm (h:ed gb go T cs vn ve ns es last m W) (hf:ns.length≤1000000∧es.length≤1000000):et gb go ns es m W:=by
 have s1:=aP h.on h.on.1
 have s2:=aP h.oe h.oe.1
 have hb:=h.bZ
 have c0:=h.c0
 have c1:=h.c1
 obtain⟨a1,k1,rfl,_⟩:=eI s1
 obtain⟨a2,k2,rfl,_⟩:=eI s2
 exact⟨⟨a1,k1,(hb.cell go).trans c0,s1⟩,⟨a2,k2,(hb.cell (go+1)).trans c1,s2⟩,h.gh,hf,h.aW⟩
def fD (pf:ByteArray→Option Int) (k:ByteArray) (v:Option Int):ByteArray→Option Int:=fun s=>if s=k then v else pf s
def iQ (ns:List aq) (n:Int) (k:ByteArray) (v:Option Int):List aq:=ns.map fun x=>if x.num=n then {x with aW:=fD x.aW k v} else x
theorem bF.more {b n n':Nat} {f:ByteArray→Option Int} (h:bF W b n f) (hn:n≤n'):bF W b n' f:=by
 obtain⟨D,ho,hS⟩:=h
 exact⟨D,ho.mono hn,hS⟩
theorem bF.put {b n:Nat} {D:DataW Unit} {f:ByteArray→Option Int} {k:ByteArray} {v:Int} (hD:IsMap D) (hS:∀s:ByteArray,s.size≤maxLen→Maps.has D (.string s.data.toList)=(f s).isSome∧D.atKey (.string s.data.toList) (.lit (.int .i64 0))=.lit (.int .i64 ((f s).getD 0))) (hk:k.size≤maxLen)
  (ho:w.ownsMap Tryz.prog 9 (plainElem Tryz.prog 3) b n (D.put (jq k) (.lit (.int .i64 v)))):bF w b n (fD f k (some v)):=by
 refine⟨_,ho,fun s hs=>?_⟩
 unfold fD
 by_cases e:s=k
 ·subst e
  rw[if_pos rfl,has_put_same hD (nN.key (oY hk)),atKey_put_same hD (nN.key (oY hk))]
  exact⟨rfl,rfl⟩
 ·have hne:jq s≠jq k:=fun h=>e (pN h)
  rw[if_neg e,has_put_other hne,atKey_put_other hne]
  exact hS s hs
theorem bF.del {b n:Nat} {D:DataW Unit} {f:ByteArray→Option Int} {k:ByteArray} (hS:∀s:ByteArray,s.size≤maxLen→Maps.has D (.string s.data.toList)=(f s).isSome∧D.atKey (.string s.data.toList) (.lit (.int .i64 0))=.lit (.int .i64 ((f s).getD 0)))
  (ho:w.ownsMap Tryz.prog 9 (plainElem Tryz.prog 3) b n (D.del (jq k))):bF w b n (fD f k none):=by
 refine⟨_,ho,fun s hs=>?_⟩
 unfold fD
 by_cases e:s=k
 ·subst e
  rw[if_pos rfl,has_del_same,atKey_del_same]
  exact⟨rfl,rfl⟩
 ·have hne:jq s≠jq k:=fun h=>e (pN h)
  rw[if_neg e,has_del_other hne,atKey_del_other hne]
  exact hS s hs
theorem ed.BC {x:aq} {k:ByteArray} {v:Option Int} (h:ed gb go T cs vn ve ns es last m W) (hx:nodeAt ns x.num=some x) (hg:W.grownBy w (some x.bZ)) (hp:bF w x.bZ (m+1) (fD x.aW k v)):ed gb go T cs vn ve (iQ ns x.num k v) es last (m+1) w:=by
 have hmem:=mm hx
 have hpx:=h.aW x hmem
 have hlen:(iQ ns x.num k v).length=ns.length:=by simp[iQ]
 have hfl:(iQ ns x.num k v).flatMap eD=ns.flatMap eD:=by
  unfold iQ
  rw[List.flatMap_map]
  congr 1
  funext y
  split<;>rfl
 have hb:(iQ ns x.num k v).map (·.bZ)=ns.map (·.bZ):=by
  unfold iQ
  rw[List.map_map]
  congr 1
  funext y
  simp only[Function.comp]
  split<;>rfl
 refine⟨h.bZ.grown hg (by intro e;injection e with e;exact hpx.aV h.bZ e.symm),h.c0,h.c1,h.c2,?_,h.oe.kept hg (Or.inr (fun e=>hpx.eh h.oe e.symm)),fun y hy=>?_,by rw[hb];exact h.apart,?_,fun y hy=>?_,h.kT⟩
 ·rw[hlen,hfl]
  exact h.on.kept hg (Or.inr (fun e=>hpx.eh h.on e.symm))
 ·obtain⟨z,hz,rfl⟩:=List.mem_map.1 hy
  by_cases e:z.num=x.num
  ·have:z=x:=by
    rcases List.getElem_of_mem hz with ⟨a,ha,rfl⟩
    rcases List.getElem_of_mem hmem with ⟨b,hb',rfl⟩
    rcases Nat.lt_trichotomy a b with h1|h1|h1
    ·have:=List.pairwise_iff_getElem.1 h.gh a b ha hb' h1;omega
    ·subst h1;rfl
    ·have:=List.pairwise_iff_getElem.1 h.gh b a hb' ha h1;omega
   subst this
   rw[if_pos rfl]
   exact hp
  ·rw[if_neg e]
   refine((h.aW z hz).kept hg ?_).more (Nat.le_succ m)
   intro e2
   injection e2 with e2
   have:z=x:=by
    rcases List.getElem_of_mem hz with ⟨a,ha,rfl⟩
    rcases List.getElem_of_mem hmem with ⟨b,hb',rfl⟩
    have hn:=List.pairwise_iff_getElem.1 h.apart
    by_cases hab:a=b
    ·subst hab;rfl
    ·exfalso
     rcases Nat.lt_or_gt_of_ne hab with h1|h1
     ·exact hn a b (by simpa using ha) (by simpa using hb') h1 (by simpa using e2)
     ·exact hn b a (by simpa using hb') (by simpa using ha) h1 (by simpa using e2.symm)
   subst this
   exact e rfl
 ·unfold iQ
  rw[List.pairwise_map]
  refine h.gh.imp (fun {a b} hab=>?_)
  split<;>split<;>exact hab
 ·obtain⟨z,hz,rfl⟩:=List.mem_map.1 hy
  have:=h.top z hz
  split<;>exact this
theorem A9 {n:Int} {k:ByteArray} {v:Option Int} (h:nodeAt ns n=none):iQ ns n k v=ns:=by
 unfold iQ
 refine List.map_congr_left (g:=id) (fun x hx=>?_) |>.trans (List.map_id ns)
 have:=List.find?_eq_none.1 h x hx
 rw[if_neg (by simpa using this)]
 rfl
theorem tO {n:Int} {x:aq} (h:nodeAt ns n=some x):x.num=n:=by
 have:=List.find?_some h
 simpa using this
theorem K9 {n:Int} {k:ByteArray} {v:Option Int} (h:ed gb go T cs vn ve ns es last m W) (hf:ns.length≤1000000∧es.length≤1000000) (hm:m<maxLen) (hk:k.size≤maxLen) (hv:∀a,v=some a→(Lit.int .i64 a).wf=true):
  Calls Tryz.prog 263 #[.pointer (some ⟨gb,go,none⟩),.int .i64 n,.string k,.agg (dm v)] W fun e W'=>e=.returned (.tuple #[])∧ed gb go T cs vn ve (iQ ns n k v) es last (m+1) W'∧Kept (fun b=>∃x∈ns,x.bZ=b) W W':=by
 have HB0:=hid ((Below.refl W.heap.size W).alloc (Nat.le_refl _) (.cells (dm v) 208))
 have HV0:=hid (Loc.new W (dm v) 208)
 have H0:=hid (h.later HB0.out)
 have HMM:=hid hm
 have HKS:=hid hk
 have HVW:=hid hv
 have HFEW:=hid hf
 clear h hf hm hk hv
 rw[gM] at HB0 HV0 H0⊢
 go_enter Tryz.func263,Tryz.ntmps263
 go_upto_region 1 with fail
 obtain⟨V,hV⟩:∃V,V=W.heap.size:=⟨_,rfl⟩
 rw[←hV] at HV0⊢
 clear hV
 generalize W.alloc (.cells #[.bool v.isSome,.int .i64 (v.getD 0)] 208)=W1 at HB0 HV0 H0⊢
 go_wp2_with fail
 refine(vD (n:=n) (H0.out.qm HFEW.out)).mono ?_
 rintro e W2 ⟨rfl,hb⟩
 have H2:=hid (H0.out.later hb)
 have HV2:=hid (HV0.out.grown (af hb none) (by simp))
 have HB2:=hid (HB0.out.trans (hb.mono HB0.out.size))
 clear hb H0 HV0 HB0
 cases hn:nodeAt ns n with
 | none=>
  have HE:=hid (A9 (k:=k) (v:=v) hn)
  have hba:=(Below.refl W2.heap.size W2).alloc (Nat.le_refl _) (.cells #[.int .i64 0,.string ⟨#[]⟩,.map none] 139)
  have H3:=hid (H2.out.later hba)
  have HK3:=hid (((Kept.refl (fun b=>∃x∈ns,x.bZ=b) W).below HB2.out).below hba)
  clear hn hba
  unfold tE
  go_wp2_with fail
  go_end0
  refine⟨rfl,?_,HK3.out⟩
  rw[HE.out]
  exact⟨H3.out.bZ,H3.out.c0,H3.out.c1,H3.out.c2,H3.out.on,H3.out.oe,fun x hx=>(H3.out.aW x hx).more (Nat.le_succ m),H3.out.apart,H3.out.gh,H3.out.top,H3.out.kT⟩
 | some x=>
  have HX:Hid (nodeAt ns x.num=some x):=hid (by rw[tO hn];exact hn)
  have HXN:=hid (tO hn)
  have hba:=(Below.refl W2.heap.size W2).alloc (Nat.le_refl _) (.cells #[.int .i64 x.num,.string x.label,.map (some x.bZ)] 139)
  have H3:=hid (H2.out.later hba)
  have HV3:=hid (HV2.out.alloc (.cells #[.int .i64 x.num,.string x.label,.map (some x.bZ)] 139))
  have HK3:=hid (((Kept.refl (fun b=>∃x∈ns,x.bZ=b) W).below HB2.out).below hba)
  have HZ3:=hid (Loc.new W2 #[.int .i64 x.num,.string x.label,.map (some x.bZ)] 139)
  have HMEM:=hid (mm hn)
  clear hn hba H2 HV2 HB2
  unfold tE
  go_upto_region 3 with fail
  obtain⟨Z,hZ⟩:∃Z,Z=W2.heap.size:=⟨_,rfl⟩
  rw[←hZ] at HZ3⊢
  clear hZ
  generalize W2.alloc (.cells #[.int .i64 x.num,.string x.label,.map (some x.bZ)] 139)=W3 at H3 HV3 HK3 HZ3⊢
  obtain⟨D,hown,hD⟩:=H3.out.aW x HMEM.out
  have HO:=hid hown
  have HDD:=hid hD
  clear hown hD
  have z2:=HZ3.out.at_ 2 (.map (some x.bZ)) rfl
  have v0:=HV3.out.at_ 0 (.bool v.isSome) rfl
  have v1:=HV3.out.at_ 1 (.int .i64 (v.getD 0)) rfl
  cases v with
  | some a=>
   simp only[Option.isSome_some,Option.getD_some] at v0 v1⊢
   go_wp2_with (first
    | (at_mapUpdate;refine wpList_mapUpdate_own _ rfl _ _ _ 137 rfl 9 3 nN Tryz.underlying137 _ x.bZ m D rfl HO.out HMM.out _ _ _ rfl rfl (oY HKS.out) _ [] (plainElem_int Tryz.underlying3 (HVW.out a rfl)) ?_;intro w4 hout4 hg4;go_frame)
    | go_in)
   go_end0
   refine⟨rfl,?_,?_⟩
   ·have:=H3.out.BC HX.out hg4 (bF.put HO.out.isMap HDD.out HKS.out hout4)
    rw[HXN.out] at this
    exact this
   ·exact HK3.out.then hg4 (fun b hb=>Or.inl ⟨x,HMEM.out,by injection hb⟩)
  | none=>
   simp only[Option.isSome_none,Option.getD_none] at v0 v1⊢
   go_wp2_with (first
    | (at_delete;refine wpList_delete_own _ rfl _ _ 137 9 rfl 3 nN Tryz.underlying137 _ x.bZ m D rfl HO.out _ _ rfl (oY HKS.out) ?_;intro w4 hout4 hturn4;go_frame)
    | go_in)
   go_end0
   refine⟨rfl,?_,?_⟩
   ·have:=H3.out.BC HX.out hturn4.grown ((bF.del HDD.out hout4).more (Nat.le_succ m))
    rw[HXN.out] at this
    exact this
   ·exact HK3.out.then hturn4.grown (fun b hb=>Or.inl ⟨x,HMEM.out,by injection hb⟩)
end
section
open Go.RowKit Go.Maps
variable {fix:Nat→Option Value} {left:Int} {use:Value} {B T F:Nat} {ev:Nat→Value} {wv:Value} {own:Nat→Prop} {f:ByteArray→Option Int} {mb:Nat} {en:Nat→List Int} {ws:List eB} {W w:World}
def tr (F B T:Nat) (ev:Nat→Value) (wv:Value) (k:Nat):Prop:=k=F∨k=B∨k=T∨(∃i,i<6∧(ev i).ownBlock=some k)∨wv.ownBlock=some k
theorem gT.tight (h:gT own F B T fix left use f mb ev en wv ws W):gT (tr F B T ev wv) F B T fix left use f mb ev en wv ws W:=
 ⟨h.cell,h.eV,h.taken,h.re,h.rw,h.apart,⟨Or.inl rfl,Or.inr (Or.inl rfl),Or.inr (Or.inr (Or.inl rfl)),fun i hi _ hb=>Or.inr (Or.inr (Or.inr (Or.inl ⟨i,hi,hb⟩))),fun _ hb=>Or.inr (Or.inr (Or.inr (Or.inr hb)))⟩,h.bt⟩
theorem gT.within (h:gT own F B T fix left use f mb ev en wv ws W) {k:Nat} (hk:tr F B T ev wv k):own k:=by
 rcases hk with rfl|rfl|rfl|⟨i,hi,hb⟩|hb
 ·exact h.dH.1
 ·exact h.dH.2.1
 ·exact h.dH.2.2.1
 ·exact h.dH.2.2.2.1 i hi k hb
 ·exact h.dH.2.2.2.2 k hb
theorem iJ.lt {b n:Nat} {S:Int→Bool} (h:iJ W b n S):b<W.heap.size:=by
 obtain⟨D,⟨es,c,hb,_⟩,_⟩:=h
 exact lt_of_block hb
theorem gT.low (h:gT own F B T fix left use f mb ev en wv ws W) {k:Nat} (hk:tr F B T ev wv k):k<W.heap.size:=by
 obtain⟨cs,hl,hc⟩:=h.cell
 obtain⟨tn,S,ht,hn⟩:=h.taken
 rcases hk with rfl|rfl|rfl|⟨i,hi,hb⟩|hb
 ·exact hl.lt
 ·exact h.eV.lt
 ·exact ht.lt
 ·exact((h.re i hi).lt k hb).2
 ·exact(h.rw.lt k hb).2
theorem tR {w:World} {b k n:Nat} {t:TypeId} {v:Value} {xs:List Value} (h:W.ownsRow b t k v n xs) (he:∀g,v.ownBlock=some g→w.heap[g]?=W.heap[g]?):w.ownsRow b t k v n xs:=by
 refine⟨h.1,?_⟩
 rcases h.2 with h0|⟨g,cap,cur,rfl,hb,hg,r⟩
 ·exact Or.inl h0
 ·exact Or.inr ⟨g,cap,cur,rfl,hb,(he g rfl).trans hg,r⟩
theorem bF.by {b n:Nat} (h:bF W b n f) (he:w.heap[b]?=W.heap[b]?):bF w b n f:=by
 obtain⟨D,⟨es,c,hb,r⟩,hS⟩:=h
 exact⟨D,⟨es,c,he.trans hb,r⟩,hS⟩
theorem iJ.by {b n:Nat} {S:Int→Bool} (h:iJ W b n S) (he:w.heap[b]?=W.heap[b]?):iJ w b n S:=by
 obtain⟨D,⟨es,c,hb,r⟩,hS⟩:=h
 exact⟨D,⟨es,c,he.trans hb,r⟩,hS⟩
theorem gT.by (h:gT own F B T fix left use f mb ev en wv ws W) (he:∀k,tr F B T ev wv k→w.heap[k]?=W.heap[k]?):gT own F B T fix left use f mb ev en wv ws w:=by
 obtain⟨cs,hl,hc⟩:=h.cell
 obtain⟨tn,S,ht,hn⟩:=h.taken
 refine⟨⟨cs,(he F (Or.inl rfl)).trans hl,hc⟩,h.eV.by (he B (Or.inr (Or.inl rfl))),⟨tn,S,ht.by (he T (Or.inr (Or.inr (Or.inl rfl)))),hn⟩,fun i hi=>tR (h.re i hi) (fun g hg=>he g (Or.inr (Or.inr (Or.inr (Or.inl ⟨i,hi,hg⟩))))),tR h.rw (fun g hg=>he g (Or.inr (Or.inr (Or.inr (Or.inr hg))))),h.apart,h.dH,h.bt⟩
abbrev Row:=ByteArray→Option Int
structure oX (UInv:(Nat→Prop)→List Row→World→Prop):Prop where
 KU:∀ub rows W w,UInv ub rows W→W.heap.size≤w.heap.size→(∀k,ub k→w.heap[k]?=W.heap[k]?)→UInv ub rows w
 low:∀ub rows W,UInv ub rows W→∀k,ub k→k<W.heap.size
variable {UInv:(Nat→Prop)→List Row→World→Prop} {Fx ub:Nat→Prop} {rows:List Row} {W0:World}
structure gZ (UInv:(Nat→Prop)→List Row→World→Prop) (Fx:Nat→Prop) (W0:World) (F B T:Nat) (fix:Nat→Option Value) (use:Value) (left:Int) (f:Row) (mb:Nat) (ev:Nat→Value) (en:Nat→List Int) (wv:Value) (ws:List eB) (ub:Nat→Prop) (rows:List Row) (W:World):Prop where
 fa:gT (tr F B T ev wv) F B T fix left use f mb ev en wv ws W
 fx:∀k,Fx k→k<W.heap.size∧¬tr F B T ev wv k∧¬ub k
 I7:∀k,ub k→¬tr F B T ev wv k
 ui:UInv ub rows W
 kept:Kept (fun k=>¬Fx k) W0 W
def yT (F B T:Nat) (ev:Nat→Value) (wv:Value) (W:World) (k:Nat):Prop:=tr F B T ev wv k∨W.heap.size≤k
theorem gZ.wide (h:gZ UInv Fx W0 F B T fix use left f mb ev en wv ws ub rows W):gT (yT F B T ev wv W) F B T fix left use f mb ev en wv ws W:=h.fa.kt (fun _ hb=>Or.inl hb)
theorem gZ.free (h:gZ UInv Fx W0 F B T fix use left f mb ev en wv ws ub rows W) {k:Nat} (hk:yT F B T ev wv W k):¬Fx k:=fun e=>by
 obtain⟨h1,h2,_⟩:=h.fx k e
 rcases hk with hk|hk
 ·exact h2 hk
 ·omega
theorem gZ.step (hU:oX UInv) (h:gZ UInv Fx W0 F B T fix use left f mb ev en wv ws ub rows W) {left':Int} {f':Row} {mb':Nat} {ev':Nat→Value} {en':Nat→List Int} {wv':Value} {ws':List eB} (h':gT (yT F B T ev wv W) F B T fix left' use f' mb' ev' en' wv' ws' w) (hk:Kept (yT F B T ev wv W) W w):
  gZ UInv Fx W0 F B T fix use left' f' mb' ev' en' wv' ws' ub rows w:=by
 have hsub:∀k,k<W.heap.size→tr F B T ev' wv' k→tr F B T ev wv k:=fun k hk0 hf=>(h'.within hf).elim id (fun e=>by omega)
 refine⟨h'.tight,fun k hx=>?_,fun k hu hf=>?_,hU.KU _ _ _ _ h.ui hk.size (fun k hu=>?_),h.kept.trans (hk.kt (fun b hb=>h.free hb))⟩
 ·obtain⟨h1,h2,h3⟩:=h.fx k hx
  exact⟨Nat.lt_of_lt_of_le h1 hk.size,fun hf=>h2 (hsub k h1 hf),h3⟩
 ·exact h.I7 k hu (hsub k (hU.low _ _ _ h.ui k hu) hf)
 ·have hlt:=hU.low _ _ _ h.ui k hu
  exact hk.block k hlt (fun e=>e.elim (h.I7 k hu) (fun e=>by omega))
theorem gZ.used (h:gZ UInv Fx W0 F B T fix use left f mb ev en wv ws ub rows W) {ub':Nat→Prop} {rows':List Row} (hu:UInv ub' rows' w) (hk:Kept ub W w) (hs:∀k,ub' k→ub k∨W.heap.size≤k):gZ UInv Fx W0 F B T fix use left f mb ev en wv ws ub' rows' w:=by
 refine⟨h.fa.by (fun k hf=>hk.block k (h.fa.low hf) (fun e=>h.I7 k e hf)),fun k hx=>?_,fun k hu' hf=>?_,hu,h.kept.trans (hk.kt (fun b hb hx=>(h.fx b hx).2.2 hb))⟩
 ·obtain⟨h1,h2,h3⟩:=h.fx k hx
  exact⟨Nat.lt_of_lt_of_le h1 hk.size,h2,fun e=>(hs k e).elim h3 (fun e=>by omega)⟩
 ·rcases hs k hu' with e|e
  ·exact h.I7 k e hf
  ·have:=h.fa.low hf
   omega
structure mA where
 left:Int
 f:Row
 rows:List Row
def fw (rec:mA→mA) (skip:Int→Bool) (name:ByteArray):List Int→mA→mA × Bool
 | [],st=>(st,false)
 | e::r,st=>if skip e then fw rec skip name r st else if 0≤st.left - 1 then fw rec skip name r (rec ⟨st.left - 1,fD st.f name (some e),st.rows⟩) else (⟨st.left - 1,st.f,st.rows⟩,true)
def fC (ns:List aq) (es:List aJ) (s:aN) (p:Int) (left:Int):List Int × Int:=
 if s.type.toList.isEmpty then (ns.map (·.num),left) else eY es s.type s.least s.bf (left.toNat+2) [⟨0,0,0,0,0,p⟩] left
def qX (ns:List aq) (s:aN) (node:Option Int) (e:Int):Bool:=(node.isSome&&(e != node.getD 0)) || !(mJ ns e s.label)
def bH (ns:List aq) (es:List aJ) (cl:List bP):List aN→ByteArray→mA→mA
 | [],_,st=>if cl.all (kD ns st.f) then ⟨st.left,st.f,st.rows++[st.f]⟩ else st
 | s::r,prev,st=>
  let x:=fw (fun t=>bH ns es cl r s.name t) (qX ns s (st.f s.name)) s.name (fC ns es s ((st.f prev).getD 0) st.left).1 ⟨(fC ns es s ((st.f prev).getD 0) st.left).2,st.f,st.rows⟩
  if x.2 then x.1 else if (st.f s.name).isSome then x.1 else ⟨x.1.left,fD x.1.f s.name none,x.1.rows⟩
end
section
open Go.RowKit Go.Maps Go.Sort
variable {fix:Nat→Option Value} {left:Int} {B T F:Nat} {ev:Nat→Value} {wv:Value} {own:Nat→Prop} {f:Row} {mb:Nat} {en:Nat→List Int} {ws:List eB} {W w:World}
variable {UInv:(Nat→Prop)→List Row→World→Prop} {Fx ub:Nat→Prop} {rows:List Row} {W0:World} {u:FuncId} {caps:Array Value}
def yW (UInv:(Nat→Prop)→List Row→World→Prop) (Fx:Nat→Prop) (W0:World) (B:Nat) (u:FuncId) (caps:Array Value):Prop:=
 ∀W ub rows f mb,UInv ub rows W→bF W B mb f→¬ub B→Kept (fun k=>¬Fx k) W0 W→rows.length<1000000→
  Calls Tryz.prog u (#[.map (some B)]++caps) W fun e W'=>e=.returned (.tuple #[])∧∃ub',UInv ub' (rows++[f]) W'∧Kept ub W W'∧(∀k,ub' k→ub k∨W.heap.size≤k)
theorem gZ.below {use:Value} (hU:oX UInv) (h:gZ UInv Fx W0 F B T fix use left f mb ev en wv ws ub rows W) (hb:Below W.heap.size W w):gZ UInv Fx W0 F B T fix use left f mb ev en wv ws ub rows w:=
 h.step hU (h.wide.later hb) ((Kept.refl _ W).below hb)
theorem Kept.drew {D:Nat→Prop} (h:Kept D W w):Kept D W w.drew:=⟨h.os,h.tape,h.output,h.size,h.block⟩
theorem gZ.drew {use:Value} (hU:oX UInv) (h:gZ UInv Fx W0 F B T fix use left f mb ev en wv ws ub rows W):gZ UInv Fx W0 F B T fix use left f mb ev en wv ws ub rows W.drew:=
 ⟨h.fa.drew,h.fx,h.I7,hU.KU _ _ _ _ h.ui (Nat.le_refl _) (fun _ _=>rfl),h.kept.drew⟩
theorem end_ {gb go m cc:Nat} {ns:List aq} {es:List aJ} {ca:Option Addr} {cl:List bP} (hU:oX UInv) (h:gZ UInv Fx W0 F B T fix (.func (.func u) #[] caps) left f mb ev en wv ws ub rows W) (hg:fix 0=some (.pointer (some ⟨gb,go,none⟩))) (hq:fix 3=some (.slice ca cl.length cc)) (hgs:et gb go ns es m W) (hl:cl.length≤1000) (hok:∀c∈cl,wu c)
  (hcs:bO W 7 (.slice ca cl.length cc) cl.length (cl.flatMap kk)) (hcf:∀args w,(callFunc u args).run Tryz.prog w=.ok (.enter u args) w) (huse:yW UInv Fx W0 B u caps) (hr:rows.length<1000000):
  Calls Tryz.prog 239 #[.pointer (some ⟨F,0,none⟩)] W fun e W'=>e=.returned (.tuple #[])∧∃ub',gZ UInv Fx W0 F B T fix (.func (.func u) #[] caps) left f mb ev en wv ws ub' (if cl.all (kD ns f) then rows++[f] else rows) W':=by
 obtain⟨cs,hc,hfc⟩:=h.fa.cell
 have c0:=cell_regrown ((hc.cell 0).trans ((hfc.fx 0 (by decide)).trans hg))
 have c3:=cell_regrown ((hc.cell 3).trans ((hfc.fx 3 (by decide)).trans hq))
 have c20:=cell_regrown ((hc.cell 20).trans hfc.b)
 have HCH:Hid (∀d os,Calls Tryz.prog 285 #[.pointer (some ⟨gb,go,none⟩),.slice ca cl.length cc,.map (some B)] (grow (redrawn W d) os) fun e w''=>e=.returned (.bool (cl.all (kD ns f)))∧∃p:Regrown,w''=grow (redrawn W p.d) p.os):=
  hid fun d os=>Calls.regrown_of (Eg (hgs.below (below_regrown W d os)) (h.fa.eV.kept (af (below_regrown W d os) none) (by simp)) hl hok (hcs.below (below_regrown W d os)))
 have H:=hid h
 have HUU:=hid hU
 have HUSE:=hid huse
 have HCF:=hid hcf
 have HR:=hid hr
 clear h hg hq hgs hok hcs hU huse hcf hr hc hfc
 generalize cl.all (kD ns f)=r at HCH⊢
 go_enter Tryz.func239,Tryz.ntmps239
 go_upto_region 0 with fail
 refine wp_region_quiet_below (by kernel_rfl) (by kernel_rfl) ?_
 iterate 13 (quiet_step (fail))
 quiet_step (exact HCH.out _ _)
 refine wpQuiet_nil ?_
 intro W2 hw
 have hb:Below W.heap.size W W2:=(by obtain⟨⟨dq,osq⟩,rfl⟩:=hw;exact below_regrown W dq osq)
 have H2:=hid (H.out.below HUU.out hb)
 clear hb hw c0 c3 c20 HCH H
 cases r with
 | false=>
  go_wp2_with fail
  go_end0
  exact⟨rfl,ub,by simpa using H2.out⟩
 | true=>
  obtain⟨cs,hc,hfc⟩:=H2.out.fa.cell
  have c19:W2.cell? ⟨F,19,none⟩=some (.func (.func u) #[] caps):=(hc.cell 19).trans hfc.u
  have c20:W2.cell? ⟨F,20,none⟩=some (.map (some B)):=(hc.cell 20).trans hfc.b
  clear hc hfc
  have hcf:=HCF.out
  have HD:=hid (H2.out.drew HUU.out)
  have HB:=hid (fun e=>H2.out.I7 B e (Or.inr (Or.inl rfl)):¬ub B)
  clear H2
  go_upto_region 1 with fail
  go_region_with (refine(HUSE.out W2.drew ub rows f mb HD.out.ui HD.out.fa.eV HB.out HD.out.kept HR.out).mono ?_;rintro e W3 ⟨rfl,ub',hu,hk,hs⟩;have HU3:=hid hu;have HK3:=hid hk;have HS3:=hid hs;clear hu hk hs)
  all_goals
   go_wp2_with fail
   go_end0
   exact⟨rfl,ub',by simpa using HD.out.used HU3.out HK3.out HS3.out⟩
end
section
open Go.RowKit Go.Maps
theorem E5 (x:eB) (p n:Int):(rh x p n).at_=n:=by
 unfold rh
 split
 ·rfl
 ·split
  ·rfl
  ·split<;>rfl
theorem zR (x:eB) (kind:ByteArray) (P:Int→Prop):∀(es:List aJ) (p:Nat) (left:Int),(∀e∈es,P e.dst)→∀y∈(lL x kind p es left).1,P y.at_
 | [],p,left,_,y,hy=>by simp[lL] at hy
 | e::r,p,left,h,y,hy=>by
  unfold lL at hy
  split at hy
  ·split at hy
   ·rcases List.mem_cons.1 hy with rfl|hy
    ·rw[E5];exact h e List.mem_cons_self
    ·exact zR x kind P r (p+1) (left - 1) (fun e he=>h e (List.mem_cons_of_mem _ he)) y hy
   ·cases hy
  ·exact zR x kind P r (p+1) left (fun e he=>h e (List.mem_cons_of_mem _ he)) y hy
theorem EC (x:eB) (kind:ByteArray) (es:List aJ) (p:Nat) (left:Int) (h:0≤left):-1≤(lL x kind p es left).2∧(lL x kind p es left).2≤left:=by
 rcases rz x kind es p left h with ⟨a,b⟩|⟨a,b⟩<;>omega
theorem tg (es:List aJ) (kind:ByteArray) (least bf:Int) (P:Int→Prop) (hes:∀e∈es,P e.dst):∀(n:Nat) (ws:List eB) (left:Int),(∀y∈ws,P y.at_)→∀a∈(eY es kind least bf n ws left).1,P a
 | 0,_,left,_,a,ha=>by simp[eY] at ha
 | _+1,[],left,_,a,ha=>by simp[eY] at ha
 | n+1,x::r,left,h,a,ha=>by
  have hx:=h x List.mem_cons_self
  have hr:=fun y hy=>h y (List.mem_cons_of_mem _ hy)
  have one:∀a,a∈(if least≤(x.bM:Int) then [x.at_] else [])→P a:=by
   intro a ha
   split at ha
   ·simp only[List.mem_singleton] at ha;rw[ha];exact hx
   ·cases ha
  unfold eY at ha
  split at ha
  ·cases ha
  ·split at ha
   ·rcases List.mem_append.1 ha with ha|ha
    ·exact one a ha
    ·refine tg es kind least bf P hes n _ _ (fun y hy=>?_) a ha
     rcases List.mem_append.1 hy with hy|hy
     ·exact hr y hy
     ·exact zR x kind P es 0 left hes y hy
   ·rcases List.mem_append.1 ha with ha|ha
    ·exact one a ha
    ·exact tg es kind least bf P hes n _ _ hr a ha
theorem o8 (es:List aJ) (kind:ByteArray) (least bf:Int):∀(n:Nat) (ws:List eB) (left:Int),-1≤left→-1≤(eY es kind least bf n ws left).2∧(eY es kind least bf n ws left).2≤left
 | 0,_,left,h=>by simp only[eY];omega
 | _+1,[],left,h=>by simp only[eY];omega
 | n+1,x::r,left,h=>by
  unfold eY
  split
  ·simp only;omega
  ·split
   ·have h1:=EC x kind es 0 left (by omega)
    have h2:=o8 es kind least bf n (r++(lL x kind 0 es left).1) (lL x kind 0 es left).2 h1.1
    exact⟨h2.1,Int.le_trans h2.2 h1.2⟩
   ·exact o8 es kind least bf n r left h
theorem qK (es:List aJ) (kind:ByteArray) (least bf:Int):∀(n:Nat) (ws:List eB) (left:Int),(eY es kind least bf n ws left).1.length≤n
 | 0,_,left=>by simp[eY]
 | _+1,[],left=>by simp[eY]
 | n+1,x::r,left=>by
  have one:(if least≤(x.bM:Int) then [x.at_] else []).length≤1:=by split<;>simp
  unfold eY
  split
  ·simp
  ·split
   ·have h2:=qK es kind least bf n (r++(lL x kind 0 es left).1) (lL x kind 0 es left).2
    simp only[List.length_append];omega
   ·have h2:=qK es kind least bf n r left
    simp only[List.length_append];omega
structure Jb (ns:List aq) (es:List aJ) (l:List aN) (cl:List bP):Prop where
 BN:l.length≤6
 FE:∀s∈l,nL s
 first:∀s,l[0]?=some s→s.type.toList.isEmpty=true
 conds:cl.length≤1000
 Lc:∀c∈cl,wu c
 rF:ns.length≤1000
 Lm:∀x∈ns,(Lit.int .i64 x.num).wf=true
 Lk:∀e∈es,(Lit.int .i64 e.dst).wf=true
theorem qT (ns:List aq) (es:List aJ) (s:aN) (p left:Int) (h:0≤left):-1≤(fC ns es s p left).2∧(fC ns es s p left).2≤left:=by
 unfold fC
 split
 ·simp only;omega
 ·exact o8 _ _ _ _ _ _ _ (by omega)
theorem AG (ns:List aq) (es:List aJ) (s:aN) (p left:Int) (h:ns.length≤1000) (hl:left≤5000):(fC ns es s p left).1.length≤10000:=by
 unfold fC
 split
 ·simp only[List.length_map];omega
 ·have:=qK es s.type s.least s.bf (left.toNat+2) [⟨0,0,0,0,0,p⟩] left
  omega
theorem vw {ns:List aq} {es:List aJ} {s:aN} {p left:Int} (hn:∀x∈ns,(Lit.int .i64 x.num).wf=true) (he:∀e∈es,(Lit.int .i64 e.dst).wf=true) (hp:s.type.toList.isEmpty=false→(Lit.int .i64 p).wf=true):∀a∈(fC ns es s p left).1,(Lit.int .i64 a).wf=true:=by
 unfold fC
 split
 ·intro a ha
  obtain⟨x,hx,rfl⟩:=List.mem_map.1 ha
  exact hn x hx
 ·refine tg es _ _ _ (fun a=>(Lit.int .i64 a).wf=true) he _ _ _ (fun y hy=>?_)
  simp only[List.mem_singleton] at hy
  subst hy
  exact hp (by rename_i h;simpa using h)
theorem sY {rec:mA→mA} {skip:Int→Bool} {name:ByteArray} {L:Int} (hL:1≤L) (hrec:∀st,0≤st.left→-L≤(rec st).left∧(rec st).left≤st.left∧((rec st).rows.length:Int)+(rec st).left≤st.rows.length+st.left+1):∀(xs:List Int) (st:mA),-L≤st.left→
  -(L+1)≤(fw rec skip name xs st).1.left∧(fw rec skip name xs st).1.left≤st.left∧((fw rec skip name xs st).1.rows.length:Int)+(fw rec skip name xs st).1.left≤st.rows.length+st.left
 | [],st,h=>by simp only[fw];omega
 | e::r,st,h=>by
  unfold fw
  split
  ·exact sY hL hrec r st h
  ·split
   ·rename_i h1
    obtain⟨a,b,c⟩:=hrec ⟨st.left - 1,fD st.f name (some e),st.rows⟩ h1
    simp only at b c
    obtain⟨a2,b2,c2⟩:=sY hL hrec r (rec ⟨st.left - 1,fD st.f name (some e),st.rows⟩) a
    refine⟨a2,by omega,by omega⟩
   ·simp only;omega
theorem gD (ns:List aq) (es:List aJ) (cl:List bP):∀(r:List aN) (prev:ByteArray) (st:mA),0≤st.left→
  -(1+(r.length:Int))≤(bH ns es cl r prev st).left∧(bH ns es cl r prev st).left≤st.left∧((bH ns es cl r prev st).rows.length:Int)+(bH ns es cl r prev st).left≤st.rows.length+st.left+1
 | [],prev,st,h=>by
  unfold bH
  split
  ·simp only[List.length_nil,List.length_append,List.length_cons];omega
  ·simp only[List.length_nil];omega
 | s::r,prev,st,h=>by
  have he:=qT ns es s ((st.f prev).getD 0) st.left h
  obtain⟨a,b,c⟩:=sY (rec:=fun t=>bH ns es cl r s.name t) (skip:=qX ns s (st.f s.name)) (name:=s.name) (L:=1+(r.length:Int)) (by omega) (fun t ht=>gD ns es cl r s.name t ht) (fC ns es s ((st.f prev).getD 0) st.left).1 ⟨(fC ns es s ((st.f prev).getD 0) st.left).2,st.f,st.rows⟩ (by simp only;omega)
  simp only at a b c
  simp only[bH,List.length_cons]
  split
  ·refine⟨by omega,by omega,by omega⟩
  ·split
   ·refine⟨by omega,by omega,by omega⟩
   ·refine⟨by simp only;omega,by simp only;omega,by simp only;omega⟩
variable {fix:Nat→Option Value} {left:Int} {use:Value} {B T F:Nat} {ev:Nat→Value} {wv:Value} {own:Nat→Prop} {f:Row} {mb:Nat} {en:Nat→List Int} {ws:List eB} {W w:World}
variable {UInv:(Nat→Prop)→List Row→World→Prop} {Fx ub:Nat→Prop} {rows:List Row} {W0:World} {u:FuncId} {caps:Array Value}
theorem bF.wf {b n:Nat} (h:bF W b n f) {s:ByteArray} (hs:s.size≤maxLen):(Lit.int .i64 ((f s).getD 0)).wf=true:=by
 obtain⟨D,ho,hD⟩:=h
 obtain⟨c,_,hat,hw⟩:=ho.lookup_int nN Tryz.underlying137 Tryz.underlying3 (mv W) (oY hs)
 have e:=hat.symm.trans (hD s hs).2
 obtain rfl:c=(f s).getD 0:=by {injection e with e;injection e}
 exact hw
theorem bF.KE {b n:Nat} (h:bF W b n f) {s:ByteArray} (hs:s.size≤maxLen):
  (Instr.lookup 137 (.map (some b)) (.string s) true).run Tryz.prog W=.ok (.tuple #[.int .i64 ((f s).getD 0),.bool (f s).isSome]) W:=by
 obtain⟨D,ho,hD⟩:=h
 obtain⟨v,ps,hrun,hv⟩:=ho.look_ok nN Tryz.underlying137 (mv W) (plainElem_int Tryz.underlying3 (by decide)) (oY hs)
 obtain⟨c,rfl,hc,_⟩:=plainElem_int_inv Tryz.underlying3 hv
 simp only[Prod.mk.injEq] at hc
 have e:=hc.1.symm.trans (hD s hs).2
 obtain rfl:c=(f s).getD 0:=by {injection e with e;injection e}
 rw[←(hD s hs).1]
 exact hrun
theorem gT.Jl (h:gT own F B T fix left use f mb ev en wv ws W) {i:Nat} (hi:i<6) {av:Option Addr} {n cv:Nat} (hv:ev i=.slice av n cv):gT own F B T fix left use f mb (pd ev i (.slice av 0 cv)) (pU en i []) wv ws (W.setCell ⟨F,21+i,none⟩ (.slice av 0 cv)):=by
 have hob:(Value.slice av 0 cv).ownBlock=(ev i).ownBlock:=by rw[hv];cases av<;>rfl
 have hsame:∀j,(pd ev i (.slice av 0 cv) j).ownBlock=(ev j).ownBlock:=by
  intro j
  unfold pd
  split
  ·rename_i e;subst e;exact hob
  ·rfl
 have hn:n=(en i).length:=by
  obtain⟨a2,c2,h2⟩:=bB (h.re i hi)
  rw[hv] at h2
  injection h2
 refine h.set (fun cs hc=>hc.Gu hi _) (fun j hj=>?_) h.rw (fun j hj k hk hne=>?_) ⟨fun j hj b hb=>?_,h.dH.2.2.2.2⟩
 ·unfold pd pU
  by_cases e:j=i
  ·subst e
   rw[if_pos rfl,if_pos rfl]
   have h2:=h.re j hj
   rw[hv] at h2
   subst hn
   exact tS h2
  ·rw[if_neg e,if_neg e]
   exact h.re j hj
 ·rw[hsame,hsame]
  exact h.apart j hj k hk hne
 ·rw[hsame] at hb
  exact h.dH.2.2.2.1 j hj b hb
theorem gT.bind {f':Row} {mb':Nat} (h:gT own F B T fix left use f mb ev en wv ws W) (hg:W.grownBy w (some B)) (hp:bF w B mb' f'):gT own F B T fix left use f' mb' ev en wv ws w:=by
 obtain⟨cs,hl,hc⟩:=h.cell
 obtain⟨tn,S,ht,hn⟩:=h.taken
 exact⟨⟨cs,hl.grown hg (by intro e;injection e with e;exact h.eV.aV hl e.symm),hc⟩,hp,⟨tn,S,ht.kept hg (by intro e;injection e with e;exact h.bt e.symm),hn⟩,fun i hi=>(h.re i hi).kept hg (Or.inr (Ne.symm (h.eV.eh (h.re i hi)))),h.rw.kept hg (Or.inr (Ne.symm (h.eV.eh h.rw))),h.apart,h.dH,h.bt⟩
structure GG (UInv:(Nat→Prop)→List Row→World→Prop) (Fx:Nat→Prop) (W0:World) (B:Nat) (u:FuncId) (caps:Array Value) (fix:Nat→Option Value) (gb go m:Nat) (ns:List aq) (es:List aJ) (sa:Option Addr) (cs:Nat) (l:List aN) (ca:Option Addr) (cc:Nat) (cl:List bP):Prop where
 g:fix 0=some (.pointer (some ⟨gb,go,none⟩))
 q:fix 2=some (.slice sa l.length cs)
 c:fix 3=some (.slice ca cl.length cc)
 st:kS (fun k=>¬Fx k) gb go ns es m W0
 ss:oq (fun k=>¬Fx k) sa cs l W0
 sc:∀w,Kept (fun k=>¬Fx k) W0 w→bO w 7 (.slice ca cl.length cc) cl.length (cl.flatMap kk)
 use:yW UInv Fx W0 B u caps
variable {gb go m cs cc:Nat} {ns:List aq} {es:List aJ} {sa ca:Option Addr} {l:List aN} {cl:List bP}
theorem GG.on {Fx':Nat→Prop} {W1:World} (h:GG UInv Fx W0 B u caps fix gb go m ns es sa cs l ca cc cl) (hx:∀k,Fx k→Fx' k) (hk:Kept (fun k=>¬Fx k) W0 W1):GG UInv Fx' W1 B u caps fix gb go m ns es sa cs l ca cc cl:=by
 have wid:∀w,Kept (fun k=>¬Fx' k) W1 w→Kept (fun k=>¬Fx k) W0 w:=fun w h'=>hk.trans (h'.kt (fun b hb e=>hb (hx b e)))
 exact⟨h.g,h.q,h.c,(h.st.on hk).narrow (fun b hb e=>hb (hx b e)),fun w h'=>h.ss w (wid w h'),fun w h'=>h.sc w (wid w h'),fun W ub rows f mb h1 h2 h3 h4 h5=>h.use W ub rows f mb h1 h2 h3 (wid W h4) h5⟩
theorem gZ.fixed (hU:oX UInv) (h:gZ UInv Fx W0 F B T fix use left f mb ev en wv ws ub rows W) (o:Obj):gZ UInv (fun k=>Fx k∨k=W.heap.size) (W.alloc o) F B T fix use left f mb ev en wv ws ub rows (W.alloc o):=by
 have h1:=h.below hU ((Below.refl W.heap.size W).alloc (Nat.le_refl _) o)
 have hlt:W.heap.size<(W.alloc o).heap.size:=by rw[World.size_alloc];omega
 refine⟨h1.fa,fun k hk=>?_,h1.I7,h1.ui,Kept.refl _ _⟩
 rcases hk with hk|rfl
 ·exact h1.fx k hk
 ·exact⟨hlt,fun e=>Nat.lt_irrefl _ (h.fa.low e),fun e=>Nat.lt_irrefl _ (hU.low _ _ _ h.ui _ e)⟩
theorem gZ.Gt {W1:World} {Fx':Nat→Prop} (h:gZ UInv Fx' W1 F B T fix use left f mb ev en wv ws ub rows W) (hx:∀k,Fx k→Fx' k) (hk:Kept (fun k=>¬Fx k) W0 W1):gZ UInv Fx W0 F B T fix use left f mb ev en wv ws ub rows W:=
 ⟨h.fa,fun k hk=>h.fx k (hx k hk),h.I7,h.ui,hk.trans (h.kept.kt (fun b hb e=>hb (hx b e)))⟩
theorem gZ.loc {b:Nat} {c:Array Value} {t:TypeId} (h:gZ UInv Fx W0 F B T fix use left f mb ev en wv ws ub rows W) (hb:Fx b) (hl:Loc W0 b c t):Loc W b c t:=(h.kept.block b hl.lt (fun e=>e hb)).trans hl
end
end Go.Proofs.YtobgbmfpicmpcaaGreatDoor
