/- Reads: the answer, as a function. -/
import Derived.Test.YtobgbmfpicmpcaaGreatDoorC26
import Derived.Test.YtobgbmfpicmpcaaGreatDoorC31
import Derived.Test.YtobgbmfpicmpcaaGreatDoorC30
import Derived.Test.YtobgbmfpicmpcaaGreatDoorC28
import Derived.Shelf.SlSortCmp.NoneTotal
set_option maxRecDepth 100000
set_option maxHeartbeats 8000000
namespace Go.Proofs.YtobgbmfpicmpcaaGreatDoor
section
open Go.RowKit Go.Maps Go.Sort
def iW {α:Type} (f:α→α→Int) (l:List α):List α:=l.mergeSort (fun a b=>decide (f a b≤0))
theorem fJ {α:Type} (f:α→α→Int) (l:List α):(iW f l).Perm l:=List.mergeSort_perm l _
theorem ll {α:Type} {f:α→α→Int} (hf:fV f) (l:List α):(iW f l).Pairwise (fun a b=>ltOf f b a=false):=by
 have h:=List.pairwise_mergeSort (le:=fun a b=>decide (f a b≤0)) (fun a b c h1 h2=>by
  simp only[decide_eq_true_eq] at*
  exact hf.trans a b c h1 h2) (fun a b=>by
  have:=hf.kJ a b
  simp only[Bool.or_eq_true,decide_eq_true_eq]
  omega) l
 refine h.imp fun {a b} hab=>?_
 simp only[decide_eq_true_eq] at hab
 have h3:=hf.kJ a b
 unfold ltOf
 simp only[decide_eq_false_iff_not]
 omega
theorem mO {α:Type} {f:α→α→Int} (hf:fV f) (he:∀a b,f a b=0→a=b) {xs l:List α} (hp:xs.Perm l) (hs:xs.Pairwise (fun a b=>ltOf f b a=false)):xs=iW f l:=
 sq hf he xs (iW f l) (hp.trans (fJ f l).symm) hs (ll hf l)
def lZ {α:Type} [DecidableEq α]:List α→List α
 | []=>[]
 | a::r=>if a∈r then lZ r else a::lZ r
theorem kF {α:Type} [DecidableEq α] {x:α}:∀{l:List α},x∈lZ l↔x∈l
 | []=>Iff.rfl
 | a::r=>by
  unfold lZ
  split
  ·rename_i h
   rw[kF,List.mem_cons]
   exact⟨Or.inr,fun e=>e.elim (fun e=>by rw[e];exact h) id⟩
  ·rw[List.mem_cons,List.mem_cons,kF]
theorem kf {α:Type} [DecidableEq α]:∀(l:List α),(lZ l).Nodup
 | []=>List.nodup_nil
 | a::r=>by
  unfold lZ
  split
  ·exact kf r
  ·rename_i h
   exact List.nodup_cons.2 ⟨fun e=>h (kF.1 e),kf r⟩
def tD (items:List bi) (ls:List bK):List bK:=lZ ((if items.any (fun x=>!(jl x)) then [] else [fc])++ls)
theorem nl:∀(ls:List bK) (c:bK→Option Int) (l:bK),(dC c ls l).isSome=true↔(c l).isSome=true∨l∈ls
 | [],c,l=>by simp[dC]
 | a::r,c,l=>by
  have e:dC c (a::r)=dC (ow c a ((c a).getD 0+1)) r:=rfl
  rw[e,nl r _ l]
  unfold ow
  rw[List.mem_cons]
  by_cases h:l=a
  ·simp[h]
  ·simp[h]
theorem uK {items:List bi} {ls:List bK} {l:bK}:l∈tD items ls↔(dC (dJ items) ls l).isSome=true:=by
 unfold tD
 rw[kF,nl,List.mem_append]
 unfold dJ
 split
 ·simp
 ·simp only[List.mem_singleton]
  unfold ow
  by_cases h:l=fc
  ·simp[h]
  ·simp[h]
def lJ (items:List bi) (ls:List bK):List bK:=if items.any jl then (tD items ls).map (fun l=>ir items l ((dC (dJ items) ls l).getD 0)) else ls
def rk (l:bK):L6:=if h:l.length=6 then ⟨l,h⟩ else ⟨fc,rfl⟩
theorem sG {l:bK} (h:l.length=6):(rk l).1=l:=by unfold rk;rw[dif_pos h]
theorem uN:∀{ls:List bK},(∀l∈ls,l.length=6)→(ls.map rk).map (·.1)=ls
 | [],_=>rfl
 | a::r,h=>by
  rw[List.map_cons,List.map_cons,sG (h a List.mem_cons_self),uN fun l hl=>h l (List.mem_cons_of_mem _ hl)]
def gR (order:Int) (down:Bool) (ls:List bK):List bK:=(iW (fun a b:L6=>kH order down a.1 b.1) (ls.map rk)).map (·.1)
def eK (ns:List aq) (es:List aJ) (q:au) (budget:Int):List ByteArray × Int:=
 if 0≤(aR ns es q budget).left then ((ix q.skip q.bR (gR q.order q.down (lJ q.items ((aR ns es q budget).rows.map (fi ns q.items))))).map (gB q.items.length),0) else ([],6)
end
section
open Go.RowKit Go.Maps Go.Sort
theorem Cl (d:List L6):d.flatMap e6=(d.map (·.1)).flatMap fo:=by
 rw[List.flatMap_map]
 rfl
theorem vX {order:Int} {down:Bool} {ls told:List bK} (h:ls.Perm told):gR order down ls=gR order down told:=by
 unfold gR
 congr 1
 refine mO (rE order down) (fun a b h=>Cf h) ((fJ _ _).trans (h.map rk)) ?_
 have h1:=ll (rE order down) (ls.map rk)
 exact h1
theorem Jj {W:World} {v:Value} {Q:Nat} {ls:List bK} {cs:Array Value} {order:Int} {down:Bool} (hr:W.ownsRow 0 210 12 v ls.length (ls.flatMap fo)) (h6:∀l∈ls,l.length=6) (hq:Loc W Q cs 29) (hs:cs.size=17) (h4:cs[4]?=some (.int .i64 order)) (h5:cs[5]?=some (.bool down)) (ho:0≤order∧order≤6) (hsz:ls.length≤1000000):
  Calls Tryz.prog 136 #[v,.func (.func 137) #[] #[.pointer (some ⟨Q,0,none⟩)]] W fun e W'=>e=.returned (.tuple #[])∧W'.ownsRow 0 210 12 v ls.length ((gR order down ls).flatMap fo)∧Kept (fun k=>v.ownBlock=some k) W W':=by
 rcases hr.2 with ⟨hv,h0⟩|⟨g,cap,cur,hv,hb,hg,hnc,hm,hcs,ht⟩
 ·subst hv
  have hnil:ls=[]:=by cases ls with|nil=>rfl|cons a r=>simp at h0
  subst hnil
  have hcon:=AnyF.slices_SortFunc_none Tryz.sortLine none 0 (.func (.func 137) #[] #[.pointer (some ⟨Q,0,none⟩)]) W
  change Calls Tryz.prog 136 _ _ _ at hcon
  refine hcon.mono ?_
  rintro e W' ⟨rfl,hw⟩
  obtain rfl:=hw.symm
  refine⟨rfl,?_,Kept.refl _ _⟩
  have e:gR order down []=[]:=by unfold gR iW;simp
  rw[e]
  exact World.ownsRow_nil _ _ _ _
 ·subst hv
  have e1:((ls.map rk).toArray).size=ls.length:=by simp
  have e2:((ls.map rk).toArray).toList.flatMap e6=ls.flatMap fo:=by rw[Cl,List.toList_toArray,uN h6]
  have hr':W.ownsRow 0 210 12 (.slice (some ⟨g,0,none⟩) ((ls.map rk).toArray).size cap) ((ls.map rk).toArray).size (((ls.map rk).toArray).toList.flatMap e6):=by
   rw[e1,e2]
   exact hr
  have hl:Loc W g cur 210:=hg
  have hne:Q≠g:=by
   intro e
   subst e
   exact aQ hr hq (by decide) rfl
  have hcon:=KO hr' hq hne hs h4 h5 ho (by rw[e1];exact hsz)
  rw[e1] at hcon
  refine hcon.mono ?_
  rintro e W' ⟨rfl,d',hds,hp,hst,hrow,hk⟩
  refine⟨rfl,?_,⟨hk.os,hk.tape,hk.output,hk.size,fun k hk1 hk2=>hk.block k hk1 (fun e=>hk2 (by rw[e];rfl))⟩⟩
  have hd:d'.toList=iW (fun a b:L6=>kH order down a.1 b.1) (ls.map rk):=mO (rE order down) (fun a b h=>Cf h) (by simpa using hp) hst
  rw[hd,Cl] at hrow
  exact hrow
end
end Go.Proofs.YtobgbmfpicmpcaaGreatDoor
