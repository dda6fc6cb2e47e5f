/- The finder: its cells, its rows, its maps. -/
import Derived.Test.YtobgbmfpicmpcaaGreatDoorC22
import Derived.Lib.Hide
set_option maxRecDepth 100000
set_option maxHeartbeats 8000000
namespace Go.Proofs.YtobgbmfpicmpcaaGreatDoor
open Go.Lib (hid)
section
open Go.RowKit Go.Maps
structure eB where
 e0:Int
 e1:Int
 e2:Int
 e3:Int
 bM:Nat
 at_:Int
def ru (x:eB):List Value:=[.int .i64 x.e0,.int .i64 x.e1,.int .i64 x.e2,.int .i64 x.e3,.int .i64 x.bM,.int .i64 x.at_]
structure kW (cs:Array Value) (fix:Nat→Option Value) (left:Int) (use:Value) (B T:Nat) (ev:Nat→Value) (wv:Value):Prop where
 sz:cs.size=29
 fx:∀j,j<18→cs[j]?=fix j
 l:cs[18]?=some (.int .i64 left)
 u:cs[19]?=some use
 b:cs[20]?=some (.map (some B))
 e:∀i,i<6→cs[21+i]?=some (ev i)
 w:cs[27]?=some wv
 t:cs[28]?=some (.map (some T))
variable {cs:Array Value} {fix:Nat→Option Value} {left:Int} {use:Value} {B T:Nat} {ev:Nat→Value} {wv:Value}
theorem kW.wM (h:kW cs fix left use B T ev wv) (x:Int):kW (cs.setIfInBounds 18 (.int .i64 x)) fix x use B T ev wv:=by
 have hs:=h.sz
 refine⟨by simp[hs],fun j hj=>?_,?_,?_,?_,fun i hi=>?_,?_,?_⟩
 ·rw[Array.getElem?_setIfInBounds,if_neg (by omega)];exact h.fx j hj
 ·rw[Array.getElem?_setIfInBounds];simp[hs]
 ·rw[Array.getElem?_setIfInBounds,if_neg (by omega)];exact h.u
 ·rw[Array.getElem?_setIfInBounds,if_neg (by omega)];exact h.b
 ·rw[Array.getElem?_setIfInBounds,if_neg (by omega)];exact h.e i hi
 ·rw[Array.getElem?_setIfInBounds,if_neg (by omega)];exact h.w
 ·rw[Array.getElem?_setIfInBounds,if_neg (by omega)];exact h.t
theorem kW.BZ (h:kW cs fix left use B T ev wv) (x:Value):kW (cs.setIfInBounds 27 x) fix left use B T ev x:=by
 have hs:=h.sz
 refine⟨by simp[hs],fun j hj=>?_,?_,?_,?_,fun i hi=>?_,?_,?_⟩
 ·rw[Array.getElem?_setIfInBounds,if_neg (by omega)];exact h.fx j hj
 ·rw[Array.getElem?_setIfInBounds,if_neg (by omega)];exact h.l
 ·rw[Array.getElem?_setIfInBounds,if_neg (by omega)];exact h.u
 ·rw[Array.getElem?_setIfInBounds,if_neg (by omega)];exact h.b
 ·rw[Array.getElem?_setIfInBounds,if_neg (by omega)];exact h.e i hi
 ·rw[Array.getElem?_setIfInBounds];simp[hs]
 ·rw[Array.getElem?_setIfInBounds,if_neg (by omega)];exact h.t
def pd (ev:Nat→Value) (i:Nat) (x:Value):Nat→Value:=fun j=>if j=i then x else ev j
theorem kW.Gu (h:kW cs fix left use B T ev wv) {i:Nat} (hi:i<6) (x:Value):kW (cs.setIfInBounds (21+i) x) fix left use B T (pd ev i x) wv:=by
 have hs:=h.sz
 refine⟨by simp[hs],fun j hj=>?_,?_,?_,?_,fun j hj=>?_,?_,?_⟩
 ·rw[Array.getElem?_setIfInBounds,if_neg (by omega)];exact h.fx j hj
 ·rw[Array.getElem?_setIfInBounds,if_neg (by omega)];exact h.l
 ·rw[Array.getElem?_setIfInBounds,if_neg (by omega)];exact h.u
 ·rw[Array.getElem?_setIfInBounds,if_neg (by omega)];exact h.b
 ·unfold pd
  by_cases e:j=i
  ·subst e
   rw[Array.getElem?_setIfInBounds];simp[hs];omega
  ·rw[Array.getElem?_setIfInBounds,if_neg (by omega),if_neg e];exact h.e j hj
 ·rw[Array.getElem?_setIfInBounds,if_neg (by omega)];exact h.w
 ·rw[Array.getElem?_setIfInBounds,if_neg (by omega)];exact h.t
structure Kept (D:Nat→Prop) (W w:World):Prop where
 os:w.os=W.os
 tape:w.tape=W.tape
 output:w.output=W.output
 size:W.heap.size≤w.heap.size
 block:∀k,k<W.heap.size→¬D k→w.heap[k]?=W.heap[k]?
theorem Kept.refl (D:Nat→Prop) (W:World):Kept D W W:=⟨rfl,rfl,rfl,Nat.le_refl _,fun _ _ _=>rfl⟩
def K6 (D:Nat→Prop) (W:World) (k:Nat):Prop:=D k∨W.heap.size≤k
theorem Kept.then {D:Nat→Prop} {W w w':World} {row:Option Nat} (h:Kept D W w) (g:w.grownBy w' row) (hr:∀k,row=some k→K6 D W k):Kept D W w':=
 ⟨g.os.trans h.os,g.tape.trans h.tape,g.output.trans h.output,Nat.le_trans h.size g.size,fun k hk hd=>(g.block k (Nat.lt_of_lt_of_le hk h.size) (fun e=>(hr k e.symm).elim hd (fun h1=>by omega))).trans (h.block k hk hd)⟩
theorem Kept.below {D:Nat→Prop} {W w w':World} (h:Kept D W w) (hb:Below w.heap.size w w'):Kept D W w':=h.then (af hb none) (by simp)
def vZ (n:Int):Lit:=.int .i64 n
theorem EA:Keyed Tryz.prog 3:=int_keyed Tryz.underlying3
def iJ (W:World) (b n:Nat) (S:Int→Bool):Prop:=∃D:DataW Unit,W.ownsMap Tryz.prog 3 unitElem b n D∧∀i:Int,(Lit.int .i64 i).wf=true→Maps.has D (vZ i)=S i
theorem iJ.kept {W w:World} {b n:Nat} {S:Int→Bool} {row:Option Nat} (h:iJ W b n S) (hg:W.grownBy w row) (hne:some b≠row):iJ w b n S:=by
 obtain⟨D,ho,hS⟩:=h
 exact⟨D,ho.kept hg hne,hS⟩
theorem iJ.aV {W:World} {b n g:Nat} {S:Int→Bool} (h:iJ W b n S) {cs:Array Value} {T:TypeId} {z:Nat × Nat} (hg:W.heap[g]?=some (.cells cs T z)):b≠g:=by
 obtain⟨D,⟨es,c,hb,_⟩,_⟩:=h
 intro e
 subst e
 rw[hb] at hg
 cases hg
theorem iJ.eh {W:World} {b n:Nat} {S:Int→Bool} (h:iJ W b n S) {B k m:Nat} {T:TypeId} {v:Value} {xs:List Value} (ho:W.ownsRow B T k v m xs):some b≠v.ownBlock:=by
 rcases ho.2 with ⟨rfl,_⟩|⟨g,cap,cur,rfl,_,hg,_⟩
 ·simp[Value.ownBlock]
 ·intro e
  injection e with e
  exact h.aV hg e
structure gT (own:Nat→Prop) (F B T:Nat) (fix:Nat→Option Value) (left:Int) (use:Value) (f:ByteArray→Option Int) (mb:Nat) (ev:Nat→Value) (en:Nat→List Int) (wv:Value) (ws:List eB) (W:World):Prop where
 cell:∃cs,Loc W F cs 263∧kW cs fix left use B T ev wv
 eV:bF W B mb f
 taken:∃tn S,iJ W T tn S∧tn≤4
 re:∀i,i<6→W.ownsRow 0 3 1 (ev i) (en i).length ((en i).map (Value.int .i64))
 rw:W.ownsRow 0 361 6 wv ws.length (ws.flatMap ru)
 apart:∀i,i<6→∀j,j<6→i≠j→(ev i).ownBlock=none∨(ev i).ownBlock≠(ev j).ownBlock
 dH:own F∧own B∧own T∧(∀i,i<6→∀b,(ev i).ownBlock=some b→own b)∧∀b,wv.ownBlock=some b→own b
 bt:B≠T
variable {own:Nat→Prop} {F:Nat} {f:ByteArray→Option Int} {mb:Nat} {en:Nat→List Int} {ws:List eB} {W w:World}
theorem gT.later (h:gT own F B T fix left use f mb ev en wv ws W) (hb:Below W.heap.size W w):gT own F B T fix left use f mb ev en wv ws w:=by
 obtain⟨cs,hl,hc⟩:=h.cell
 obtain⟨tn,S,ht,hn⟩:=h.taken
 have g:=af hb none
 exact⟨⟨cs,hl.grown g (by simp),hc⟩,h.eV.kept g (by simp),⟨tn,S,ht.kept g (by simp),hn⟩,fun i hi=>(h.re i hi).kept g (by cases (ev i).ownBlock<;>simp),h.rw.kept g (by cases wv.ownBlock<;>simp),h.apart,h.dH,h.bt⟩
theorem gT.set (h:gT own F B T fix left use f mb ev en wv ws W) {left':Int} {ev':Nat→Value} {en':Nat→List Int} {wv':Value} {ws':List eB} {j:Nat} {u:Value} (hc:∀cs,kW cs fix left use B T ev wv→kW (cs.setIfInBounds j u) fix left' use B T ev' wv')
  (he:∀i,i<6→W.ownsRow 0 3 1 (ev' i) (en' i).length ((en' i).map (Value.int .i64))) (hw:W.ownsRow 0 361 6 wv' ws'.length (ws'.flatMap ru)) (ha:∀i,i<6→∀j,j<6→i≠j→(ev' i).ownBlock=none∨(ev' i).ownBlock≠(ev' j).ownBlock)
  (hm:(∀i,i<6→∀b,(ev' i).ownBlock=some b→own b)∧∀b,wv'.ownBlock=some b→own b):gT own F B T fix left' use f mb ev' en' wv' ws' (W.setCell ⟨F,j,none⟩ u):=by
 obtain⟨cs,hl,hcc⟩:=h.cell
 obtain⟨tn,S,ht,hn⟩:=h.taken
 have g:=aC W F j u
 exact⟨⟨_,hl.set j u,hc cs hcc⟩,h.eV.kept g (by intro e;injection e with e;exact h.eV.aV hl e),⟨tn,S,ht.kept g (by intro e;injection e with e;exact ht.aV hl e),hn⟩,fun i hi=>(he i hi).kept g (Or.inr (fun e=>aQ (he i hi) hl (by decide) e)),hw.kept g (Or.inr (fun e=>aQ hw hl (by decide) e)),ha,⟨h.dH.1,h.dH.2.1,h.dH.2.2.1,hm⟩,h.bt⟩
theorem gT.wM (h:gT own F B T fix left use f mb ev en wv ws W) (x:Int):gT own F B T fix x use f mb ev en wv ws (W.setCell ⟨F,18,none⟩ (.int .i64 x)):=
 h.set (fun _ hc=>hc.wM x) h.re h.rw h.apart ⟨h.dH.2.2.2.1,h.dH.2.2.2.2⟩
end
section
open Go.RowKit Go.Maps
variable {fix:Nat→Option Value} {left:Int} {use:Value} {B T F:Nat} {ev:Nat→Value} {wv:Value} {own:Nat→Prop} {f:ByteArray→Option Int} {mb:Nat} {en:Nat→List Int} {ws:List eB} {W:World}
theorem Ja (h:gT own F B T fix left use f mb ev en wv ws W) (hl:-1000000000≤left∧left≤1000000000):
  Calls Tryz.prog 243 #[.pointer (some ⟨F,0,none⟩)] W fun e W'=>e=.returned (.bool (decide (0≤left - 1)))∧gT own F B T fix (left - 1) use f mb ev en wv ws W'∧W.grownBy W' (some F):=by
 obtain⟨cs,hc,hf⟩:=h.cell
 have H1:=hid (h.wM (left - 1))
 have c0:W.cell? ⟨F,18,none⟩=some (.int .i64 left):=(hc.cell 18).trans hf.l
 have f0:=hc.free 18
 obtain⟨cs1,hc1,hf1⟩:=H1.out.cell
 have c1:(W.setCell ⟨F,18,none⟩ (.int .i64 (left - 1))).cell? ⟨F,18,none⟩=some (.int .i64 (left - 1)):=(hc1.cell 18).trans hf1.l
 have HG:=hid (aC W F 18 (.int .i64 (left - 1)))
 have h1:=hl.1
 have h2:=hl.2
 clear h hc hf hc1 hf1 hl
 go_enter Tryz.func243,Tryz.ntmps243
 go_wp2_with fail
 all_goals
  go_ret
  exact⟨by simp;try omega,H1.out,HG.out⟩
def mJ (ns:List aq) (n:Int) (l:ByteArray):Bool:=l.toList.isEmpty || (l.toList==((nodeAt ns n).elim ⟨#[]⟩ (fun x=>x.label)).toList)
theorem qS (r:Option aq):∃a mp,tE r=.tuple #[.agg #[.int .i64 a,.string (r.elim ⟨#[]⟩ (fun x=>x.label)),.map mp],.bool r.isSome]:=by
 cases r with
 | none=>exact⟨_,_,rfl⟩
 | some x=>exact⟨_,_,rfl⟩
theorem DB {gb go m:Nat} {ns:List aq} {es:List aJ} {n:Int} {l:ByteArray} (h:gT own F B T fix left use f mb ev en wv ws W) (hg:fix 0=some (.pointer (some ⟨gb,go,none⟩))) (hs:et gb go ns es m W):
  Calls Tryz.prog 242 #[.pointer (some ⟨F,0,none⟩),.int .i64 n,.string l] W fun e W'=>e=.returned (.bool (mJ ns n l))∧Below W.heap.size W W':=by
 obtain⟨cs,hc,hf⟩:=h.cell
 have c0:W.cell? ⟨F,0,none⟩=some (.pointer (some ⟨gb,go,none⟩)):=(hc.cell 0).trans ((hf.fx 0 (by decide)).trans hg)
 have HS:=hid hs
 clear h hc hf hg hs
 go_enter Tryz.func242,Tryz.ntmps242
 go_wp2_with fail
 refine(vD (n:=n) HS.out).mono ?_
 rintro e W1 ⟨rfl,hb⟩
 obtain⟨a1,m1,hv⟩:=qS (nodeAt ns n)
 rw[hv]
 have HE:Hid (mJ ns n l=(l.toList.isEmpty || (l.toList==((nodeAt ns n).elim ⟨#[]⟩ (fun x=>x.label)).toList))):=hid rfl
 generalize (nodeAt ns n).elim ⟨#[]⟩ (fun x=>x.label)=s1 at HE⊢
 generalize (nodeAt ns n).isSome=k1
 have HB2:=hid (hb.alloc hb.size (.cells #[.int .i64 a1,.string s1,.map m1] 139))
 have HZ2:=hid (Loc.new W1 #[.int .i64 a1,.string s1,.map m1] 139)
 clear hb hv c0
 go_upto_region 2 with fail
 obtain⟨Z,hZ⟩:∃Z,Z=W1.heap.size:=⟨_,rfl⟩
 rw[←hZ] at HZ2⊢
 clear hZ
 generalize W1.alloc (.cells #[.int .i64 a1,.string s1,.map m1] 139)=W2 at HB2 HZ2⊢
 have z1:=HZ2.out.at_ 1 (.string s1) rfl
 cases he:l.toList.isEmpty with
 | true=>
  go_wp2_with fail
  go_ret
  exact⟨by rw[HE.out,he];rfl,HB2.out⟩
 | false=>
  go_wp2_with fail
  go_ret
  exact⟨by rw[HE.out,he];rfl,HB2.out⟩
end
section
open Go.RowKit Go.Maps
variable {fix:Nat→Option Value} {left:Int} {use:Value} {B T F:Nat} {ev:Nat→Value} {wv:Value} {own:Nat→Prop} {f:ByteArray→Option Int} {mb:Nat} {en:Nat→List Int} {ws:List eB} {W:World}
def pU (en:Nat→List Int) (i:Nat) (l:List Int):Nat→List Int:=fun j=>if j=i then l else en j
theorem gT.drew (h:gT own F B T fix left use f mb ev en wv ws W):gT own F B T fix left use f mb ev en wv ws W.drew:=⟨h.cell,h.eV,h.taken,h.re,h.rw,h.apart,h.dH,h.bt⟩
def kS (own:Nat→Prop) (gb go:Nat) (ns:List aq) (es:List aJ) (m:Nat) (W:World):Prop:=
 ∀w,Kept own W w→et gb go ns es m w∧w.cell? ⟨gb,go,none⟩=W.cell? ⟨gb,go,none⟩∧w.cell? ⟨gb,go+1,none⟩=W.cell? ⟨gb,go+1,none⟩
theorem Kept.trans {D:Nat→Prop} {a b c:World} (h:Kept D a b) (k:Kept D b c):Kept D a c:=
 ⟨k.os.trans h.os,k.tape.trans h.tape,k.output.trans h.output,Nat.le_trans h.size k.size,fun j hj hd=>(k.block j (Nat.lt_of_lt_of_le hj h.size) hd).trans (h.block j hj hd)⟩
theorem kS.on {gb go m:Nat} {ns:List aq} {es:List aJ} {w:World} (h:kS own gb go ns es m W) (hk:Kept own W w):kS own gb go ns es m w:=fun w' hk'=>by
 have h1:=h w hk
 have h2:=h w' (hk.trans hk')
 exact⟨h2.1,h2.2.1.trans h1.2.1.symm,h2.2.2.trans h1.2.2.symm⟩
theorem kS.qm {gb go m:Nat} {ns:List aq} {es:List aJ} (h:kS own gb go ns es m W):et gb go ns es m W:=(h W (Kept.refl _ _)).1
theorem gT.ended {w:World} {i g cap:Nat} {x:Int} (h:gT own F B T fix left use f mb ev en wv ws W) (hi:i<6) (hg:W.grownBy w (ev i).ownBlock) (ho:w.ownsRow 0 3 1 (.slice (some ⟨g,0,none⟩) ((en i).length+1) cap) ((en i).length+1) ((en i).map (Value.int .i64)++[.int .i64 x]))
  (hb:(ev i).ownBlock=some g∨g=W.heap.size) (hown:∀k,W.heap.size≤k→own k):
  gT own F B T fix left use f mb (pd ev i (.slice (some ⟨g,0,none⟩) ((en i).length+1) cap)) (pU en i (en i++[x])) wv ws (w.setCell ⟨F,21+i,none⟩ (.slice (some ⟨g,0,none⟩) ((en i).length+1) cap)):=by
 obtain⟨cs,hl,hc⟩:=h.cell
 obtain⟨tn,S,ht,hn⟩:=h.taken
 have hl':=hl.fs (h.re i hi) hg (by decide)
 have hother:∀j,j<6→j≠i→w.ownsRow 0 3 1 (ev j) (en j).length ((en j).map (Value.int .i64)):=fun j hj hne=>(h.re j hj).kept hg (h.apart j hj i hi hne)
 have hmid:gT own F B T fix left use f mb ev en wv ws W:=h
 have key:∀j,j<6→j≠i→(ev j).ownBlock=none∨(ev j).ownBlock≠some g:=by
  intro j hj hne
  rcases hb with hb|hb
  ·rcases h.apart j hj i hi hne with h1|h1
   ·exact Or.inl h1
   ·exact Or.inr (by rw[←hb];exact h1)
  ·refine Or.inr (fun e=>?_)
   have:=((h.re j hj).lt g e).2
   omega
 have g2:=aC w F (21+i) (.slice (some ⟨g,0,none⟩) ((en i).length+1) cap)
 have hb':=h.eV.kept hg (h.eV.eh (h.re i hi))
 have ht':=ht.kept hg (ht.eh (h.re i hi))
 have hw':=h.rw.kept hg (gm h.rw (h.re i hi) (by decide))
 refine⟨⟨_,hl'.set (21+i) _,hc.Gu hi _⟩,hb'.kept g2 (by intro e;injection e with e;exact hb'.aV hl' e),⟨tn,S,ht'.kept g2 (by intro e;injection e with e;exact ht'.aV hl' e),hn⟩,?_,hw'.kept g2 (Or.inr (fun e=>aQ hw' hl' (by decide) e)),?_,⟨h.dH.1,h.dH.2.1,h.dH.2.2.1,?_,h.dH.2.2.2.2⟩,h.bt⟩
 ·intro j hj
  unfold pd pU
  by_cases e:j=i
  ·subst e
   simp only[if_true,List.length_append,List.length_singleton,List.map_append,List.map_cons,List.map_nil]
   exact ho.kept g2 (Or.inr (fun e=>aQ ho hl' (by decide) e))
  ·simp only[if_neg e]
   exact(hother j hj e).kept g2 (Or.inr (fun e'=>aQ (hother j hj e) hl' (by decide) e'))
 ·intro a ha b hb2 hab
  unfold pd
  by_cases e:a=i
  ·subst e
   rw[if_pos rfl,if_neg (fun e=>hab e.symm)]
   right
   rcases key b hb2 (fun e=>hab e.symm) with h1|h1
   ·rw[h1];simp[Value.ownBlock]
   ·exact fun e=>h1 (by rw[←e];rfl)
  ·rw[if_neg e]
   by_cases e2:b=i
   ·subst e2
    rw[if_pos rfl]
    rcases key a ha e with h1|h1
    ·exact Or.inl h1
    ·exact Or.inr (fun e=>h1 (by rw[e];rfl))
   ·rw[if_neg e2]
    exact h.apart a ha b hb2 hab
 ·intro j hj b hbj
  unfold pd at hbj
  by_cases e:j=i
  ·subst e
   rw[if_pos rfl] at hbj
   injection hbj with hbj
   rcases hb with hb|hb
   ·exact h.dH.2.2.2.1 j hj b (by rw[hb,←hbj])
   ·exact hown b (by rw[←hbj,hb];exact Nat.le_refl _)
  ·rw[if_neg e] at hbj
   exact h.dH.2.2.2.1 j hj b hbj
theorem Tryz.BV:(Tryz.prog.info? 3).map (fun i=>(i.zero,i.size,i.bytes))=some (some (.int .i64 0),1,8):=by kernel_rfl
theorem B6 {x:Int}:∀u∈[Value.int .i64 x],u.oneCell'=true:=by
 intro u hu
 simp at hu
 subst hu;rfl
theorem Jr {gb go m i:Nat} {ns:List aq} {es:List aJ} (h:gT own F B T fix left use f mb ev en wv ws W) (hg:fix 0=some (.pointer (some ⟨gb,go,none⟩))) (hst:kS own gb go ns es m W) (hi:i<6) (hsm:(en i).length+ns.length≤1000000)
  (hown:∀k,W.heap.size≤k→own k):
  Calls Tryz.prog 240 #[.pointer (some ⟨F,0,none⟩),.int .i64 (i:Int)] W fun e W'=>e=.returned (.tuple #[])∧∃ev' en',gT own F B T fix left use f mb ev' en' wv ws W'∧en' i=en i++ns.map (·.num)∧(∀j,j≠i→en' j=en j∧ev' j=ev j)∧Kept own W W':=by
 obtain⟨i0,hi0,hz0,hz1,hz2⟩:=info_parts Tryz.BV
 obtain⟨cs,hc,hf⟩:=h.cell
 have c0:W.cell? ⟨F,0,none⟩=some (.pointer (some ⟨gb,go,none⟩)):=(hc.cell 0).trans ((hf.fx 0 (by decide)).trans hg)
 have hs:=hst.qm
 obtain⟨an,kn,cn,sn0⟩:=hs.cn
 have HGO:=hid hst
 have HCN:=hid cn
 have HOWN:=hid hown
 have H:=hid h
 have hfn:=hs.rF.1
 have HI:=hid hi
 clear h hc hf hs hst hown sn0
 go_enter Tryz.func240,Tryz.ntmps240
 go_wp2_with fail
 go_loopg [14] ns.length (fun n iv w=>∃(k:Nat) (ev':Nat→Value) (en':Nat→List Int),iv=.int .i64 (k:Int)∧k+n=ns.length∧gT own F B T fix left use f mb ev' en' wv ws w∧en' i=en i++(ns.take k).map (·.num)∧(∀j,j≠i→en' j=en j∧ev' j=ev j)∧Kept own W w)
 case atStart=>exact⟨0,ev,en,rfl,by omega,H.out,by simp,fun j _=>⟨rfl,rfl⟩,Kept.refl _ _⟩
 case round=>
  obtain⟨k,ev',en',rfl,hk,hfa,hen,hoth,hkept⟩:=hrel
  have HA:=hid hfa
  have HEN:=hid hen
  have HOT:=hid hoth
  have HK:=hid hkept
  clear hfa hen hoth hkept c0 cn
  by_cases hlt:k<ns.length
  ·have hgw:=HGO.out wr HK.out
   obtain⟨an',kn',cn',sn'⟩:=hgw.1.cn
   have ean:an'=an∧kn'=kn:=by
    have:=cn'.symm.trans (hgw.2.1.trans HCN.out)
    injection this with this
    injection this with h1 _ h2
    exact⟨h1,h2⟩
   obtain⟨rfl,rfl⟩:=ean
   obtain⟨g,oo,rfl,hcell⟩:=bY (l:=ns) eD (fun _=>rfl) sn' hlt
   obtain⟨y,hy⟩:∃y,ns[k]=y:=⟨_,rfl⟩
   have HY:=hid hy
   rw[hy] at hcell
   clear hy hgw cn' sn'
   obtain⟨num,label,bZ,aW⟩:=y
   have p0:wr.cell? ⟨g,oo+k*3,none⟩=some (.int .i64 num):=hcell 0 (by decide)
   have p1:wr.cell? ⟨g,oo+k*3+1,none⟩=some (.string label):=hcell 1 (by decide)
   have p2:wr.cell? ⟨g,oo+k*3+2,none⟩=some (.map (some bZ)):=hcell 2 (by decide)
   have hki:(k:Int)<(ns.length:Int):=by omega
   clear hcell
   have HA1:=hid (HA.out.later ((Below.refl _ _).alloc (Nat.le_refl _) (.cells #[.int .i64 num,.string label,.map (some bZ)] 139)))
   have HK1:=hid (HK.out.below ((Below.refl _ _).alloc (Nat.le_refl _) (.cells #[.int .i64 num,.string label,.map (some bZ)] 139)))
   have HZ1:=hid (Loc.new wr #[.int .i64 num,.string label,.map (some bZ)] 139)
   clear HA HK
   go_upto_region 3 with fail
   obtain⟨Z,hZ⟩:∃Z,Z=wr.heap.size:=⟨_,rfl⟩
   rw[←hZ] at HZ1⊢
   clear hZ p0 p1 p2
   generalize wr.alloc (.cells #[.int .i64 num,.string label,.map (some bZ)] 139)=W2 at HA1 HK1 HZ1⊢
   obtain⟨av,cv,hvn⟩:=bB (HA1.out.re i HI.out)
   obtain⟨cs2,hc2,hf2⟩:=HA1.out.cell
   have e0:W2.cell? ⟨F,21+i,none⟩=some (.slice av (en' i).length cv):=(hc2.cell (21+i)).trans ((hf2.e i HI.out).trans (by rw[hvn]))
   have z0:=HZ1.out.at_ 0 (.int .i64 num) rfl
   have HD:=hid (HA1.out.later ((Below.refl _ _).alloc (Nat.le_refl _) (.cells #[.int .i64 num] 3))).drew
   have HKD:Hid (Kept own W ((W2.alloc (.cells #[.int .i64 num] 3)).drew)):=hid (by have:=HK1.out.below ((Below.refl _ _).alloc (Nat.le_refl _) (.cells #[.int .i64 num] 3));exact⟨this.os,this.tape,this.output,this.size,this.block⟩)
   have HRE:Hid (((W2.alloc (.cells #[.int .i64 num] 3)).drew).ownsRow 0 3 1 (.slice av (en' i).length cv) (en' i).length ((en' i).map (Value.int .i64))):=hid (by have:=HD.out.re i HI.out;rwa [hvn] at this)
   have HOB:Hid ((ev' i).ownBlock=(Value.slice av (en' i).length cv).ownBlock):=hid (by rw[hvn])
   have HLD:Hid (Loc ((W2.alloc (.cells #[.int .i64 num] 3)).drew) F cs2 263):=hid (hc2.alloc (.cells #[.int .i64 num] 3))
   have HFC:=hid hf2
   have e1:(W2.alloc (.cells #[.int .i64 num] 3)).cell? ⟨F,21+i,none⟩=some (.slice av (en' i).length cv):=(HLD.out.cell (21+i)).trans ((hf2.e i HI.out).trans (by rw[hvn]))
   have HEE:=hid ((hf2.e i HI.out).trans (by rw[hvn]):cs2[21+i]?=some (.slice av (en' i).length cv))
   have hsz:(en' i).length≤1000000:=by rw[HEN.out,List.length_append,List.length_map,List.length_take];omega
   have hi6:=HI.out
   have hi6':(i:Int)<6:=by omega
   clear hvn hc2 hf2 HA1 HK1 HZ1
   go_region_law (go_must (refine step_append_lies _ rfl _ _ 53 rfl 0 3 i0 (.int .i64 0) 1 8 Tryz.underlying53 hi0 hz0 hz1 hz2 rfl (by decide) (.slice av (en' i).length cv) _ _ (by simp[Act.eval]) HRE.out ⟨W2.heap.size,0,none⟩ 1 1 [.int .i64 num] (by simp[Act.eval]) rfl (World.news_of_block (heap_alloc_new W2 _)) B6 (by omega) (by unfold maxLen;omega) (by omega) (Nat.zero_le _) _ rfl ?_);intro g2 cap2 w5 hown hgrow hlies _;have HLW:=HLD.out.fs HRE.out hgrow (by decide);have c5:w5.cell? ⟨F,21+i,none⟩=some (.slice av (en' i).length cv):=(HLW.cell (21+i)).trans HEE.out;have f5:w5.frozen? ⟨F,21+i,none⟩=false:=HLW.free (21+i);have HG5:=hid hgrow;have HO5:=hid hown;have HLI:=hid hlies;clear HLW hown hgrow hlies)
   all_goals
    go_wp2_with fail
    go_roundg (gk - 1)
    case rel=>
     have hE:=HD.out.ended (i:=i) (x:=num) HI.out (by rw[HOB.out];exact HG5.out) HO5.out (by rw[HOB.out];exact HLI.out) (fun k hk=>HOWN.out k (Nat.le_trans HKD.out.size hk))
     refine⟨k+1,_,_,by simp,by omega,hE,?_,fun j hj=>?_,?_⟩
     ·unfold pU
      rw[if_pos rfl,HEN.out,List.take_add_one,List.getElem?_eq_getElem hlt,HY.out]
      simp
     ·unfold pU pd
      rw[if_neg hj,if_neg hj]
      exact HOT.out j hj
     ·refine(HKD.out.then HG5.out (fun b hb=>Or.inl (HD.out.dH.2.2.2.1 i HI.out b (by rw[HOB.out];exact hb)))).then (aC w5 F (21+i) _) (fun b hb=>?_)
      injection hb with hb
      rw[←hb]
      exact Or.inl HD.out.dH.1
    case measure=>omega
  ·have hki:¬(k:Int)<(ns.length:Int):=by omega
   go_wp2_with fail
   go_end0
   exact⟨rfl,ev',en',HA.out,by rw[HEN.out,List.take_of_length_le (by omega)],HOT.out,HK.out⟩
end
section
open Go.RowKit Go.Maps
variable {fix:Nat→Option Value} {left:Int} {use:Value} {B T F:Nat} {ev:Nat→Value} {wv:Value} {own:Nat→Prop} {f:ByteArray→Option Int} {mb:Nat} {en:Nat→List Int} {ws:List eB} {W:World}
def tZ (x:eB):Array Value:=#[.int .i64 x.e0,.int .i64 x.e1,.int .i64 x.e2,.int .i64 x.e3,.int .i64 x.bM,.int .i64 x.at_]
def oz (x:eB) (j:Nat):Int:=if j=0 then x.e0 else if j=1 then x.e1 else if j=2 then x.e2 else x.e3
def k9 (x:eB) (k:Nat) (p:Int):Bool:=(List.range k).any (fun j=>oz x j==p)
def rh (x:eB) (p n:Int):eB:=
 if x.bM=0 then ⟨p,x.e1,x.e2,x.e3,1,n⟩ else if x.bM=1 then ⟨x.e0,p,x.e2,x.e3,2,n⟩ else if x.bM=2 then ⟨x.e0,x.e1,p,x.e3,3,n⟩ else ⟨x.e0,x.e1,x.e2,p,4,n⟩
def pT (x:eB) (kind:ByteArray) (p:Nat) (e:aJ):Bool:=!(k9 x x.bM p)&&(e.src==x.at_)&&(e.type.toList==kind.toList)
def lL (x:eB) (kind:ByteArray):Nat→List aJ→Int→List eB × Int
 | _,[],left=>([],left)
 | p,e::r,left=>
  if pT x kind p e then
   if 0≤left - 1 then (rh x p e.dst::(lL x kind (p+1) r (left - 1)).1,(lL x kind (p+1) r (left - 1)).2) else ([],left - 1)
  else lL x kind (p+1) r left
theorem Hl (x:eB) {j:Nat} (hj:j<4):(tZ x)[j]?=some (.int .i64 (oz x j)):=by
 unfold tZ oz
 match j,hj with
 | 0,_=>rfl
 | 1,_=>rfl
 | 2,_=>rfl
 | 3,_=>rfl
theorem xz (x:eB) (p n:Int) (h:x.bM<4):(#[Value.int .i64 x.e0,.int .i64 x.e1,.int .i64 x.e2,.int .i64 x.e3,.int .i64 ((x.bM:Int)+1),.int .i64 n].setIfInBounds x.bM (.int .i64 p))=tZ (rh x p n):=by
 obtain⟨e0,e1,e2,e3,bM,a⟩:=x
 simp only at h⊢
 match bM,h with
 | 0,_=>rfl
 | 1,_=>rfl
 | 2,_=>rfl
 | 3,_=>rfl
theorem zK (x:eB) (p n:Int) (h:x.bM<4):(rh x p n).bM=x.bM+1:=by
 unfold rh
 split
 ·simp only;omega
 ·split
  ·simp only;omega
  ·split<;>simp only<;>omega
theorem iJ.clear {b n:Nat} {S:Int→Bool} (h:iJ W b n S):∃w,(∀ty,(Builtin.clear_ #[259] ty #[.map (some b)]).run Tryz.prog W=.ok (.tuple #[]) w)∧iJ w b 0 (fun _=>false)∧W.mapTurned w b:=by
 obtain⟨D,⟨es,c,hb,F,hs,rfl⟩,hS⟩:=h
 refine⟨Go.ChangeMaps.setBlock W b (.map #[] c),fun ty=>?_,?_,⟨es,c,#[],c,hb,rfl⟩⟩
 ·simp[Builtin.clear_,run_underlying Tryz.underlying259,MapKept.run_getObj_map hb,MapKept.run_setObj_map _ hb,Result.andThen,Go.ChangeMaps.setBlock]
 ·refine⟨.map [],⟨#[],c,?_,⟨by simp,?_,by simp⟩,by simp,rfl⟩,fun i _=>rfl⟩
  ·exact Go.ChangeMaps.heap_setBlock_same hb _
  ·exact MapKept.stamped_empty c
theorem iJ.put {w:World} {b n:Nat} {D:DataW Unit} {S:Int→Bool} {x:Int} (hD:IsMap D) (hS:∀i:Int,(Lit.int .i64 i).wf=true→Maps.has D (vZ i)=S i) (hx:(Lit.int .i64 x).wf=true) (ho:w.ownsMap Tryz.prog 3 unitElem b n (D.put (vZ x) (.agg []))):iJ w b n (fun i=>S i || (x==i)):=by
 refine⟨_,ho,fun r hr=>?_⟩
 by_cases e:r=x
 ·subst e
  have:=has_put_same (k:=vZ r) hD (EA.key (keyOf_int_mk Tryz.underlying3 hx)) (.agg [])
  rw[this]
  simp
 ·have hne:vZ r≠vZ x:=fun h=>e (by injection h)
  rw[has_put_other hne,hS r hr]
  have:(x==r)=false:=by simpa using fun h=>e h.symm
  simp[this]
theorem gT.Kx {w:World} {n:Nat} {S:Int→Bool} (h:gT own F B T fix left use f mb ev en wv ws W) (hg:W.grownBy w (some T)) (hn:iJ w T n S) (hle:n≤4):gT own F B T fix left use f mb ev en wv ws w:=by
 obtain⟨cs,hl,hc⟩:=h.cell
 obtain⟨tn,S',ht,_⟩:=h.taken
 exact⟨⟨cs,hl.grown hg (by intro e;injection e with e;exact ht.aV hl e.symm),hc⟩,h.eV.kept hg (by intro e;injection e with e;exact h.bt e),⟨n,S,hn,hle⟩,fun i hi=>(h.re i hi).kept hg (Or.inr (fun e=>ht.eh (h.re i hi) e.symm)),h.rw.kept hg (Or.inr (fun e=>ht.eh h.rw e.symm)),h.apart,h.dH,h.bt⟩
theorem gT.KN {w:World} {g cap:Nat} {x:eB} (h:gT own F B T fix left use f mb ev en wv ws W) (hg:W.grownBy w wv.ownBlock) (ho:w.ownsRow 0 361 6 (.slice (some ⟨g,0,none⟩) (ws.length+1) cap) (ws.length+1) (ws.flatMap ru++ru x))
  (hb:wv.ownBlock=some g∨g=W.heap.size) (hown:∀k,W.heap.size≤k→own k):
  gT own F B T fix left use f mb ev en (.slice (some ⟨g,0,none⟩) (ws.length+1) cap) (ws++[x]) (w.setCell ⟨F,27,none⟩ (.slice (some ⟨g,0,none⟩) (ws.length+1) cap)):=by
 obtain⟨cs,hl,hc⟩:=h.cell
 obtain⟨tn,S,ht,hn⟩:=h.taken
 have hl':=hl.fs h.rw hg (by decide)
 have g2:=aC w F 27 (.slice (some ⟨g,0,none⟩) (ws.length+1) cap)
 have hb':=h.eV.kept hg (h.eV.eh h.rw)
 have ht':=ht.kept hg (ht.eh h.rw)
 have hre:∀i,i<6→w.ownsRow 0 3 1 (ev i) (en i).length ((en i).map (Value.int .i64)):=fun i hi=>(h.re i hi).kept hg (gm (h.re i hi) h.rw (by decide))
 refine⟨⟨_,hl'.set 27 _,hc.BZ _⟩,hb'.kept g2 (by intro e;injection e with e;exact hb'.aV hl' e),⟨tn,S,ht'.kept g2 (by intro e;injection e with e;exact ht'.aV hl' e),hn⟩,fun i hi=>(hre i hi).kept g2 (Or.inr (fun e=>aQ (hre i hi) hl' (by decide) e)),?_,h.apart,⟨h.dH.1,h.dH.2.1,h.dH.2.2.1,h.dH.2.2.2.1,?_⟩,h.bt⟩
 ·have e1:(ws++[x]).length=ws.length+1:=by simp
  have e2:(ws++[x]).flatMap ru=ws.flatMap ru++ru x:=by simp
  rw[e1,e2]
  exact ho.kept g2 (Or.inr (fun e=>aQ ho hl' (by decide) e))
 ·intro b hbj
  injection hbj with hbj
  rcases hb with hb|hb
  ·exact h.dH.2.2.2.2 b (by rw[hb,←hbj])
  ·exact hown b (by rw[←hbj,hb];exact Nat.le_refl _)
theorem gT.aside {Y j:Nat} {u:Value} {cs:Array Value} {T':TypeId} (h:gT own F B T fix left use f mb ev en wv ws W) (hy:Loc W Y cs T') (hF:Y≠F) (h1:wv.ownBlock≠some Y) (h2:3≠T'):gT own F B T fix left use f mb ev en wv ws (W.setCell ⟨Y,j,none⟩ u):=by
 obtain⟨cs',hl,hc⟩:=h.cell
 obtain⟨tn,S,ht,hn⟩:=h.taken
 have g:=aC W Y j u
 exact⟨⟨cs',hl.setOther (Ne.symm hF) j u,hc⟩,h.eV.kept g (by intro e;injection e with e;exact h.eV.aV hy e),⟨tn,S,ht.kept g (by intro e;injection e with e;exact ht.aV hy e),hn⟩,fun i hi=>(h.re i hi).kept g (Or.inr (fun e=>aQ (h.re i hi) hy h2 e)),h.rw.kept g (Or.inr h1),h.apart,h.dH,h.bt⟩
end
end Go.Proofs.YtobgbmfpicmpcaaGreatDoor
