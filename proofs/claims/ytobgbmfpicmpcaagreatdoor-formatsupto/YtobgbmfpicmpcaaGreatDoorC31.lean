/- The law Formats is proved, where the query that is handed in is of bulk at most 1048576 (every value and every letter counted): the program's Format and the reference's answer the same, and the query's lists read as they did, their spare room too; the package variables that the row lists are tied to the program's own text by the given tie. -/
import Derived.Test.YtobgbmfpicmpcaaGreatDoorC13
import Derived.Test.YtobgbmfpicmpcaaGreatDoorRows
import Derived.ChangeArms
import Derived.ProofKit
import Derived.Test.YtobgbmfpicmpcaaGreatDoorCards
import Derived.Test.YtobgbmfpicmpcaaGreatDoorC01
import Derived.Test.YtobgbmfpicmpcaaGreatDoorTie
import Derived.Test.YtobgbmfpicmpcaaGreatDoorC30
import Derived.LaidMore
import Derived.LaidSub
import Derived.OpenShut
import Derived.Stop.Joined
import Derived.Stop.LaidErr
import Derived.SevenTiedAt
import Derived.Carry
import Derived.Lib.LaidTab
import Derived.JoinedCond
import Derived.WideKeyArgs
import Derived.Deep.DeepWitnessRowRef
namespace Go.Proofs.YtobgbmfpicmpcaaGreatDoor
open Go Go.RowKit
section
variable {H:Type} {enc:TypeId × Value→H} {w:World} {base:Nat} {spare:Nat→Bool} {held:Bool}
theorem bulk_one (d:DataW H):1≤Rows.uptoBulk d:=by
 cases d with
 | lit l=>cases l<;>simp[Rows.uptoBulk]
 | nil=>simp[Rows.uptoBulk]
 | ptr d=>simp[Rows.uptoBulk]
 | slice a b=>simp[Rows.uptoBulk]
 | agg a=>simp[Rows.uptoBulk]
 | iface t d=>simp[Rows.uptoBulk]
 | map a=>simp[Rows.uptoBulk]
 | held h=>simp[Rows.uptoBulk]
theorem bulk_mem {d:DataW H}:∀{l:List (DataW H)},d∈l→Rows.uptoBulk d≤Rows.uptoBulkAll l
 | [],h=>by cases h
 | x::r,h=>by
  have e:Rows.uptoBulkAll (x::r)=Rows.uptoBulk x+Rows.uptoBulkAll r:=by simp[Rows.uptoBulkAll]
  rw[e]
  rcases List.mem_cons.1 h with rfl|h
  ·omega
  ·have:=bulk_mem h;omega
theorem bulk_many:∀(l:List (DataW H)),l.length≤Rows.uptoBulkAll l
 | []=>by simp
 | x::r=>by
  have e:Rows.uptoBulkAll (x::r)=Rows.uptoBulk x+Rows.uptoBulkAll r:=by simp[Rows.uptoBulkAll]
  have:=bulk_many r
  have:=bulk_one x
  rw[e,List.length_cons]
  omega
theorem Tryz.cellsStr:Tryz.prog.cellsOf 9=1:=by kernel_rfl
theorem Tryz.cellsInt:Tryz.prog.cellsOf 3=1:=by kernel_rfl
theorem Tryz.cellsBool:Tryz.prog.cellsOf 4=1:=by kernel_rfl
theorem Tryz.cellsTerm:Tryz.prog.cellsOf 26=3:=by kernel_rfl
theorem Tryz.cellsSpot:Tryz.prog.cellsOf 85=5:=by kernel_rfl
theorem Tryz.cellsCond:Tryz.prog.cellsOf 87=7:=by kernel_rfl
theorem Tryz.cellsItem:Tryz.prog.cellsOf 89=2:=by kernel_rfl
theorem Tryz.cellsPair:Tryz.prog.cellsOf 91=2:=by kernel_rfl
theorem Tryz.cellsQuery:Tryz.prog.cellsOf 29=17:=by kernel_rfl
theorem Tryz.cellsSpots:Tryz.prog.cellsOf 22=1:=by kernel_rfl
theorem Tryz.cellsConds:Tryz.prog.cellsOf 23=1:=by kernel_rfl
theorem Tryz.cellsItems:Tryz.prog.cellsOf 24=1:=by kernel_rfl
theorem Tryz.cellsPairs:Tryz.prog.cellsOf 27=1:=by kernel_rfl
theorem one_of {cs:List Value} {o:Nat} {v:Value} (h:(cs.drop o).take 1=[v]):cs[o]?=some v:=by
 have h2:=congrArg (fun l:List Value=>l[0]?) h
 simpa [List.getElem?_take,List.getElem?_drop] using h2
theorem str_at {n o:Nat} {cs:List Value} {y:DataW H × List MemPlace} (h:DataW.trod enc Tryz.prog w base spare held n 9 ((cs.drop o).take (Tryz.prog.cellsOf 9))=some y):∃s:ByteArray,cs[o]?=some (.string s)∧s.size+1≤Rows.uptoBulk y.1:=by
 rw[Tryz.cellsStr] at h
 obtain⟨s,hs,rfl,_⟩:=DataW.trod_string Tryz.underlying9 h
 refine⟨s,one_of hs,?_⟩
 have e:Rows.uptoBulk (DataW.lit (H:=H) (.string s.data.toList))=s.data.toList.length+1:=by simp only[Rows.uptoBulk]
 rw[e,Array.length_toList]
 exact Nat.le_refl _
theorem flat_len {α:Type} (f:α→List Value) {k:Nat} (hk:∀a,(f a).length=k):∀l:List α,(l.flatMap f).length=l.length*k
 | []=>by simp
 | a::l=>by rw[List.flatMap_cons,List.length_append,hk,flat_len f hk l,List.length_cons,Nat.succ_mul];omega
theorem int_at {n o:Nat} {cs:List Value} {y:DataW H × List MemPlace} (h:DataW.trod enc Tryz.prog w base spare held n 3 ((cs.drop o).take (Tryz.prog.cellsOf 3))=some y):∃k:Int,cs[o]?=some (.int .i64 k)∧I64 k:=by
 rw[Tryz.cellsInt] at h
 obtain⟨k,hs,rfl,hw⟩:=DataW.trod_int Tryz.underlying3 h
 rw[Lit.wf,Bool.and_eq_true,decide_eq_true_eq,decide_eq_true_eq] at hw
 exact⟨k,one_of hs,hw.1,hw.2⟩
theorem bool_at {n o:Nat} {cs:List Value} {y:DataW H × List MemPlace} (h:DataW.trod enc Tryz.prog w base spare held n 4 ((cs.drop o).take (Tryz.prog.cellsOf 4))=some y):∃b:Bool,cs[o]?=some (.bool b):=by
 rw[Tryz.cellsBool] at h
 obtain⟨b,hs,rfl⟩:=DataW.trod_bool Tryz.underlying4 h
 exact⟨b,one_of hs⟩
theorem part_of {xs:List (DataW H × List MemPlace)} {y:DataW H × List MemPlace} {i N:Nat} (hi:xs[i]?=some y) (hb:Rows.uptoBulk (.agg (xs.map (·.1)))≤N):Rows.uptoBulk y.1+1≤N:=by
 have e:Rows.uptoBulk (.agg (xs.map (·.1)))=Rows.uptoBulkAll (xs.map (·.1))+1:=by simp[Rows.uptoBulk]
 have:=bulk_mem (d:=y.1) (l:=xs.map (·.1)) (List.mem_map.2 ⟨y,List.mem_of_getElem? hi,rfl⟩)
 omega
theorem get_of {xs:List (DataW H × List MemPlace)} {n i:Nat} (hl:xs.length=n) (hi:i<n):∃y,xs[i]?=some y:=⟨_,List.getElem?_eq_getElem (by omega)⟩
set_option maxRecDepth 100000 in
theorem open_term {n:Nat} {cs:List Value} {y:DataW H × List MemPlace} (h:DataW.trod enc Tryz.prog w base spare held n 26 cs=some y):∃t:PTerm,cs=[.string t.name,.string t.key,.int .i64 t.val]∧(Rows.uptoBulk y.1≤1048576→ShortTerm t):=by
 obtain⟨xs,m,rfl,rfl,hl,hxl,hf⟩:=DataW.trod_struct Tryz.underlying26 h
 rw[Tryz.cellsTerm] at hl
 obtain⟨y0,g0⟩:=get_of hxl (show 0<_ by decide)
 obtain⟨y1,g1⟩:=get_of hxl (show 1<_ by decide)
 obtain⟨y2,g2⟩:=get_of hxl (show 2<_ by decide)
 obtain⟨s0,e0,b0⟩:=str_at (o:=0) ((hf 0 _ rfl).trans g0)
 obtain⟨s1,e1,b1⟩:=str_at (o:=1) ((hf 1 _ rfl).trans g1)
 obtain⟨s2,e2,b2⟩:=int_at (o:=2) ((hf 2 _ rfl).trans g2)
 match cs,hl with
 | [c0,c1,c2],_=>
  simp at e0 e1 e2
  subst e0 e1 e2
  refine⟨⟨s0,s1,s2⟩,rfl,fun hb=>⟨?_,?_,b2⟩⟩
  ·have:=part_of g0 hb;unfold Short;simp only;omega
  ·have:=part_of g1 hb;unfold Short;simp only;omega
set_option maxRecDepth 100000 in
theorem open_spot {n:Nat} {cs:List Value} {y:DataW H × List MemPlace} (h:DataW.trod enc Tryz.prog w base spare held n 85 cs=some y):∃t:PSpot,cs=fSpot t∧(Rows.uptoBulk y.1≤1048576→ShortSpot t):=by
 obtain⟨xs,m,rfl,rfl,hl,hxl,hf⟩:=DataW.trod_struct Tryz.underlying85 h
 rw[Tryz.cellsSpot] at hl
 obtain⟨y0,g0⟩:=get_of hxl (show 0<_ by decide)
 obtain⟨y1,g1⟩:=get_of hxl (show 1<_ by decide)
 obtain⟨y2,g2⟩:=get_of hxl (show 2<_ by decide)
 obtain⟨y3,g3⟩:=get_of hxl (show 3<_ by decide)
 obtain⟨y4,g4⟩:=get_of hxl (show 4<_ by decide)
 obtain⟨s0,e0,b0⟩:=str_at (o:=0) ((hf 0 _ rfl).trans g0)
 obtain⟨s1,e1,b1⟩:=str_at (o:=1) ((hf 1 _ rfl).trans g1)
 obtain⟨s2,e2,b2⟩:=str_at (o:=2) ((hf 2 _ rfl).trans g2)
 obtain⟨s3,e3,b3⟩:=int_at (o:=3) ((hf 3 _ rfl).trans g3)
 obtain⟨s4,e4,b4⟩:=int_at (o:=4) ((hf 4 _ rfl).trans g4)
 match cs,hl with
 | [c0,c1,c2,c3,c4],_=>
  simp at e0 e1 e2 e3 e4
  subst e0 e1 e2 e3 e4
  refine⟨⟨s0,s1,s2,s3,s4⟩,rfl,fun hb=>⟨?_,?_,?_,b3,b4⟩⟩
  ·have:=part_of g0 hb;unfold Short;simp only;omega
  ·have:=part_of g1 hb;unfold Short;simp only;omega
  ·have:=part_of g2 hb;unfold Short;simp only;omega
set_option maxRecDepth 100000 in
theorem open_item {n:Nat} {cs:List Value} {y:DataW H × List MemPlace} (h:DataW.trod enc Tryz.prog w base spare held n 89 cs=some y):∃t:PItem,cs=fItem t∧(Rows.uptoBulk y.1≤1048576→ShortItem t):=by
 obtain⟨xs,m,rfl,rfl,hl,hxl,hf⟩:=DataW.trod_struct Tryz.underlying89 h
 rw[Tryz.cellsItem] at hl
 obtain⟨y0,g0⟩:=get_of hxl (show 0<_ by decide)
 obtain⟨y1,g1⟩:=get_of hxl (show 1<_ by decide)
 obtain⟨s0,e0,b0⟩:=str_at (o:=0) ((hf 0 _ rfl).trans g0)
 obtain⟨s1,e1,b1⟩:=str_at (o:=1) ((hf 1 _ rfl).trans g1)
 match cs,hl with
 | [c0,c1],_=>
  simp at e0 e1
  subst e0 e1
  refine⟨⟨s0,s1⟩,rfl,fun hb=>⟨?_,?_⟩⟩
  ·have:=part_of g0 hb;unfold Short;simp only;omega
  ·have:=part_of g1 hb;unfold Short;simp only;omega
set_option maxRecDepth 100000 in
theorem open_pair {n:Nat} {cs:List Value} {y:DataW H × List MemPlace} (h:DataW.trod enc Tryz.prog w base spare held n 91 cs=some y):∃t:PPair,cs=fPair t∧(Rows.uptoBulk y.1≤1048576→ShortPair t):=by
 obtain⟨xs,m,rfl,rfl,hl,hxl,hf⟩:=DataW.trod_struct Tryz.underlying91 h
 rw[Tryz.cellsPair] at hl
 obtain⟨y0,g0⟩:=get_of hxl (show 0<_ by decide)
 obtain⟨y1,g1⟩:=get_of hxl (show 1<_ by decide)
 obtain⟨s0,e0,b0⟩:=str_at (o:=0) ((hf 0 _ rfl).trans g0)
 obtain⟨s1,e1,b1⟩:=int_at (o:=1) ((hf 1 _ rfl).trans g1)
 match cs,hl with
 | [c0,c1],_=>
  simp at e0 e1
  subst e0 e1
  refine⟨⟨s0,s1⟩,rfl,fun hb=>⟨?_,b1⟩⟩
  have:=part_of g0 hb;unfold Short;simp only;omega
set_option maxRecDepth 100000 in
theorem open_cond {n:Nat} {cs:List Value} {y:DataW H × List MemPlace} (h:DataW.trod enc Tryz.prog w base spare held n 87 cs=some y):∃t:PCond,cs=fCond t∧(Rows.uptoBulk y.1≤1048576→ShortCond t):=by
 obtain⟨xs,m,rfl,rfl,hl,hxl,hf⟩:=DataW.trod_struct Tryz.underlying87 h
 rw[Tryz.cellsCond] at hl
 obtain⟨y0,g0⟩:=get_of hxl (show 0<_ by decide)
 obtain⟨y1,g1⟩:=get_of hxl (show 1<_ by decide)
 obtain⟨y2,g2⟩:=get_of hxl (show 2<_ by decide)
 obtain⟨s0,e0,b0⟩:=int_at (o:=0) ((hf 0 _ rfl).trans g0)
 have h1:DataW.trod enc Tryz.prog w base spare held m 26 ((cs.drop 1).take (Tryz.prog.cellsOf 26))=some y1:=(hf 1 _ rfl).trans g1
 have h2:DataW.trod enc Tryz.prog w base spare held m 26 ((cs.drop 4).take (Tryz.prog.cellsOf 26))=some y2:=(hf 2 _ rfl).trans g2
 rw[Tryz.cellsTerm] at h1 h2
 obtain⟨ta,ea,ba⟩:=open_term h1
 obtain⟨tb,eb,bb⟩:=open_term h2
 match cs,hl with
 | [c0,c1,c2,c3,c4,c5,c6],_=>
  simp at e0 ea eb
  obtain⟨rfl,rfl,rfl⟩:=ea
  obtain⟨rfl,rfl,rfl⟩:=eb
  subst e0
  refine⟨⟨s0,ta,tb⟩,rfl,fun hb=>⟨ba ?_,bb ?_⟩⟩
  ·have:=part_of g1 hb;omega
  ·have:=part_of g2 hb;omega
set_option maxRecDepth 100000 in
theorem open_list {α:Type} (f:α→List Value) {k:Nat} (hk:∀a,(f a).length=k) (hk0:0<k) (Good:α→Prop) {t e:TypeId} (ht:Tryz.prog.underlying t=some (.slice e)) (hc:Tryz.prog.cellsOf e=k)
  (hel:∀(n:Nat) (cs:List Value) (y:DataW H × List MemPlace),DataW.trod enc Tryz.prog w base spare held n e cs=some y→∃a,cs=f a∧(Rows.uptoBulk y.1≤1048576→Good a))
  {n:Nat} {cs:List Value} {x:DataW H × List MemPlace} (h:DataW.trod enc Tryz.prog w base spare held n t cs=some x):
  ∃(l:List α) (v:Value),cs=[v]∧Sees w k v l.length (l.flatMap f)∧(Rows.uptoBulk x.1≤1048576→(∀a∈l,Good a)∧l.length≤1048576):=by
 rcases DataW.trod_slice ht h with ⟨rfl,rfl⟩|⟨ad,len,cap,elems,rest,m,rfl,rfl,rfl,_,hlc,_,hlen,hget,_,_⟩
 ·exact⟨[],_,rfl,⟨by simp,none,0,rfl,Nat.le_refl _,fun h0=>(by simp at h0)⟩,fun _=>⟨fun a ha=>(by cases ha),by simp⟩⟩
 have hx:∀i,i<len→∃a,(∀j,j<k→w.cell? ((ad.add (i*k)).add j)=(f a)[j]?)∧(∀N,Rows.uptoBulk (.slice (elems.map (·.1)) (rest.map (·.1)))≤N→N≤1048576→Good a):=by
  intro i hi
  have hg:=hget i hi
  rw[List.getElem?_eq_getElem (by omega),hc] at hg
  obtain⟨cs',h1,h2⟩:=Option.bind_eq_some_iff.1 hg
  obtain⟨a,rfl,hb⟩:=hel _ _ _ h2
  obtain⟨_,_,h3⟩:=World.cells?_some h1
  refine⟨a,h3,fun N hN hN2=>hb ?_⟩
  have hm:(elems[i]'(by omega)).1∈elems.map (·.1):=List.mem_map.2 ⟨_,List.getElem_mem _,rfl⟩
  have h4:=bulk_mem hm
  have e1:Rows.uptoBulk (.slice (elems.map (·.1)) (rest.map (·.1)))=Rows.uptoBulkAll (elems.map (·.1))+Rows.uptoBulkAll (rest.map (·.1))+1:=by simp[Rows.uptoBulk]
  omega
 let A:Fin len→α:=fun i=>Classical.choose (hx i.1 i.2)
 have hA:∀i:Fin len,_:=fun i=>Classical.choose_spec (hx i.1 i.2)
 have hll:(List.ofFn A).length=len:=by simp
 refine⟨List.ofFn A,_,rfl,?_,fun hb=>⟨fun a ha=>?_,?_⟩⟩
 ·rw[hll]
  refine⟨?_,_,_,rfl,hlc,fun h0=>?_⟩
  ·rw[flat_len f hk,hll]
  obtain⟨b,o,sp⟩:=ad
  have hsp:sp=none:=by
   have h1:=(hA ⟨0,h0⟩).1 0 hk0
   have h2:(f (A ⟨0,h0⟩))[0]?=some ((f (A ⟨0,h0⟩))[0]'(by rw[hk];exact hk0)):=List.getElem?_eq_getElem _
   simpa [Addr.add] using World.cell?_spot (h1.trans h2)
  subst hsp
  refine⟨b,o,rfl,fun j u hu=>?_⟩
  have hj:j<((List.ofFn A).flatMap f).length:=by
   by_cases hj:j<((List.ofFn A).flatMap f).length
   ·exact hj
   ·rw[List.getElem?_eq_none (by omega)] at hu;cases hu
  have hfl:((List.ofFn A).flatMap f).length=len*k:=by
   rw[flat_len f hk,hll]
  have hi:j / k<len:=by rw[Nat.div_lt_iff_lt_mul hk0];omega
  have hr:j % k<k:=Nat.mod_lt _ hk0
  have hdm:j / k*k+j % k=j:=by rw[Nat.mul_comm];exact Nat.div_add_mod j k
  have hfa:=flat_at f hk (List.ofFn A) (j / k) (by rw[hll];exact hi) (j % k) hr
  rw[hdm,hu] at hfa
  have hca:=(hA ⟨j / k,hi⟩).1 (j % k) hr
  have hadd:((⟨b,o,none⟩:Addr).add (j / k*k)).add (j % k)=⟨b,o+j,none⟩:=by
   unfold Addr.add
   split<;>split<;>simp_all<;>omega
  rw[hadd] at hca
  rw[hca,hfa,List.getElem_ofFn]
 ·obtain⟨i,rfl⟩:=(List.mem_ofFn).1 ha
  exact(hA i).2 _ (Nat.le_refl _) hb
 ·rw[hll]
  have e1:Rows.uptoBulk (.slice (elems.map (·.1)) (rest.map (·.1)))=Rows.uptoBulkAll (elems.map (·.1))+Rows.uptoBulkAll (rest.map (·.1))+1:=by simp[Rows.uptoBulk]
  have h5:=bulk_many (elems.map (·.1))
  rw[List.length_map] at h5
  simp only at hb
  omega
set_option maxRecDepth 100000 in
theorem open_query {n:Nat} {cs:List Value} {y:DataW H × List MemPlace} (h:DataW.trod enc Tryz.prog w base spare held n 29 cs=some y):
  ∃(q:PQuery) (vs vc vi vp:Value),cs=(qC q vs vc vi vp).toList∧QSees w q vs vc vi vp∧(Rows.uptoBulk y.1≤1048576→QFits q∧(tooMany q=false→QShort q)∧q.spots.length≤1048576∧q.conds.length≤1048576∧q.items.length≤1048576∧q.pairs.length≤1048576):=by
 obtain⟨xs,m,rfl,rfl,hl,hxl,hf⟩:=DataW.trod_struct Tryz.underlying29 h
 rw[Tryz.cellsQuery] at hl
 obtain⟨y0,g0⟩:=get_of hxl (show 0<_ by decide)
 obtain⟨y1,g1⟩:=get_of hxl (show 1<_ by decide)
 obtain⟨y2,g2⟩:=get_of hxl (show 2<_ by decide)
 obtain⟨y3,g3⟩:=get_of hxl (show 3<_ by decide)
 obtain⟨y4,g4⟩:=get_of hxl (show 4<_ by decide)
 obtain⟨y5,g5⟩:=get_of hxl (show 5<_ by decide)
 obtain⟨y6,g6⟩:=get_of hxl (show 6<_ by decide)
 obtain⟨y7,g7⟩:=get_of hxl (show 7<_ by decide)
 obtain⟨y8,g8⟩:=get_of hxl (show 8<_ by decide)
 obtain⟨y9,g9⟩:=get_of hxl (show 9<_ by decide)
 obtain⟨y10,g10⟩:=get_of hxl (show 10<_ by decide)
 obtain⟨y11,g11⟩:=get_of hxl (show 11<_ by decide)
 obtain⟨y12,g12⟩:=get_of hxl (show 12<_ by decide)
 obtain⟨y13,g13⟩:=get_of hxl (show 13<_ by decide)
 obtain⟨y14,g14⟩:=get_of hxl (show 14<_ by decide)
 obtain⟨kd,e0,b0⟩:=int_at (o:=0) ((hf 0 _ rfl).trans g0)
 have h1:DataW.trod enc Tryz.prog w base spare held m 22 ((cs.drop 1).take (Tryz.prog.cellsOf 22))=some y1:=(hf 1 _ rfl).trans g1
 have h2:DataW.trod enc Tryz.prog w base spare held m 23 ((cs.drop 2).take (Tryz.prog.cellsOf 23))=some y2:=(hf 2 _ rfl).trans g2
 have h3:DataW.trod enc Tryz.prog w base spare held m 24 ((cs.drop 3).take (Tryz.prog.cellsOf 24))=some y3:=(hf 3 _ rfl).trans g3
 have h10:DataW.trod enc Tryz.prog w base spare held m 26 ((cs.drop 10).take (Tryz.prog.cellsOf 26))=some y10:=(hf 10 _ rfl).trans g10
 have h14:DataW.trod enc Tryz.prog w base spare held m 27 ((cs.drop 16).take (Tryz.prog.cellsOf 27))=some y14:=(hf 14 _ rfl).trans g14
 rw[Tryz.cellsSpots] at h1
 rw[Tryz.cellsConds] at h2
 rw[Tryz.cellsItems] at h3
 rw[Tryz.cellsTerm] at h10
 rw[Tryz.cellsPairs] at h14
 obtain⟨l1,v1,e1,w1,b1⟩:=open_list fSpot (fun _=>rfl) (by decide) ShortSpot Tryz.underlying22 Tryz.cellsSpot (fun _ _ _=>open_spot) h1
 obtain⟨l2,v2,e2,w2,b2⟩:=open_list fCond (fun _=>rfl) (by decide) ShortCond Tryz.underlying23 Tryz.cellsCond (fun _ _ _=>open_cond) h2
 obtain⟨l3,v3,e3,w3,b3⟩:=open_list fItem (fun _=>rfl) (by decide) ShortItem Tryz.underlying24 Tryz.cellsItem (fun _ _ _=>open_item) h3
 obtain⟨l4,v4,e14,w4,b14⟩:=open_list fPair (fun _=>rfl) (by decide) ShortPair Tryz.underlying27 Tryz.cellsPair (fun _ _ _=>open_pair) h14
 obtain⟨od,e4,b4⟩:=int_at (o:=4) ((hf 4 _ rfl).trans g4)
 obtain⟨dn,e5⟩:=bool_at (o:=5) ((hf 5 _ rfl).trans g5)
 obtain⟨sk,e6,b6⟩:=int_at (o:=6) ((hf 6 _ rfl).trans g6)
 obtain⟨li,e7,b7⟩:=int_at (o:=7) ((hf 7 _ rfl).trans g7)
 obtain⟨nm,e8,b8⟩:=str_at (o:=8) ((hf 8 _ rfl).trans g8)
 obtain⟨ke,e9,b9⟩:=str_at (o:=9) ((hf 9 _ rfl).trans g9)
 obtain⟨va,e10,b10⟩:=open_term h10
 obtain⟨ty,e11,b11⟩:=str_at (o:=13) ((hf 11 _ rfl).trans g11)
 obtain⟨tw,e12,b12⟩:=str_at (o:=14) ((hf 12 _ rfl).trans g12)
 obtain⟨la,e13,b13⟩:=str_at (o:=15) ((hf 13 _ rfl).trans g13)
 replace e1:=one_of e1
 replace e2:=one_of e2
 replace e3:=one_of e3
 replace e14:=one_of e14
 match cs,hl with
 | [c0,c1,c2,c3,c4,c5,c6,c7,c8,c9,c10,c11,c12,c13,c14,c15,c16],_=>
  simp at e0 e1 e2 e3 e4 e5 e6 e7 e8 e9 e10 e11 e12 e13 e14
  obtain⟨rfl,rfl,rfl⟩:=e10
  subst e0 e1 e2 e3 e4 e5 e6 e7 e8 e9 e11 e12 e13 e14
  refine⟨⟨kd,l1,l2,l3,od,dn,sk,li,nm,ke,va,ty,tw,la,l4⟩,c1,c2,c3,c16,rfl,⟨w1,w2,w3,w4⟩,fun hb=>?_⟩
  have p1:=b1 (by have:=part_of g1 hb;omega)
  have p2:=b2 (by have:=part_of g2 hb;omega)
  have p3:=b3 (by have:=part_of g3 hb;omega)
  have p4:=b14 (by have:=part_of g14 hb;omega)
  have p8:=part_of g8 hb
  have p9:=part_of g9 hb
  have p10:=b10 (by have:=part_of g10 hb;omega)
  have p11:=part_of g11 hb
  have p12:=part_of g12 hb
  have p13:=part_of g13 hb
  refine⟨⟨fun s hs=>(p1.1 s hs).2.2.2,fun c hc=>⟨(p2.1 c hc).1.2.2,(p2.1 c hc).2.2.2⟩,fun p hp=>(p4.1 p hp).2,p10.2.2,b4,b6,b7⟩,fun hm=>?_,p1.2,p2.2,p3.2,p4.2⟩
  unfold tooMany at hm
  simp only[Bool.or_eq_false_iff,decide_eq_false_iff_not] at hm
  exact⟨p1.1,p2.1,p3.1,p4.1,by unfold Short;simp only;omega,by unfold Short;simp only;omega,p10,by unfold Short;simp only;omega,by unfold Short;simp only;omega,by unfold Short;simp only;omega,b4,b6,b7,by simp only;omega,by simp only;omega,by simp only;omega,by simp only;omega⟩
end
end Go.Proofs.YtobgbmfpicmpcaaGreatDoor

/- The law Formats is proved, where the query that is handed in is of bulk at most 1048576 (every value and every letter counted): the program's Format and the reference's answer the same, and the query's lists read as they did, their spare room too; the package variables that the row lists are tied to the program's own text by the given tie. -/
namespace Go.Proofs.YtobgbmfpicmpcaaGreatDoor
open Go.ChangeShapes Go.WideShapes Go.ChangeAt Go.RowKit
open Go.ChangeMaps (open_string shut_string)
theorem Tryz.own:ownKnob Tryz.prog.godebug=none:=by kernel_rfl
theorem gRange : Tryz.prog.globalNamed "strconv.ErrRange" = some 5 := by kernel_rfl
theorem gRangeType:(Tryz.prog.globals[5]?).map (·.type)=some 177:=by kernel_rfl
theorem cells71:Tryz.prog.cellsOf 442=1:=by kernel_rfl
theorem cells9:Tryz.prog.cellsOf 9=1:=by kernel_rfl
theorem star : "*" ++ "errors.errorString" = "*errors.errorString" := by decide
theorem row69 (u : TypeId) (h : Tryz.prog.typeName? 3 u = some "*errors.errorString") : u = 440 :=
 typeName_ptr_named (nm := "errors.errorString") (by rw [star]; kernel_rfl) (by kernel_rfl) (by decide) u (by rw [star]; exact h)
theorem gPowType:(Tryz.prog.globals[0]?).map (·.type)=some 348:=by kernel_rfl
theorem powUnder:Tryz.prog.underlying 348=some (.array 20 278):=by kernel_rfl
theorem u64Under:Tryz.prog.underlying 278=some (.int .u64):=by kernel_rfl
theorem u64Cells:Tryz.prog.cellsOf 278=1:=by kernel_rfl
theorem powCells:Tryz.prog.cellsOf 348=20:=by kernel_rfl
theorem powData:(Rows.laid_internal_strconv_uint64pow10:DataW Unit)=Lib.tabData .u64 Lib.pow10Tab:=by rfl
theorem range_of {W:World} (h:laidMetH Tryz.prog Rows.formatsUptoRow.laid W):∃ev,W.cell? ⟨5,0,none⟩=some ev∧(ev=.nilIface∨∃te pe,ev=.iface te pe):=by
 have h1 := laidMetH.filter (fun x => x.1 == "strconv.ErrRange") h
 have e : (Rows.formatsUptoRow.laid.filter fun x => x.1 == "strconv.ErrRange") = [("strconv.ErrRange", Rows.laid_strconv_ErrRange)] := by kernel_rfl
 rw[e] at h1
 rw[MakeChecks.laidMetH_plain _ _ _ (by kernel_rfl)] at h1
 obtain⟨a0,s0,hv0,-,-,-⟩:=laid_sentinel h1 gRange gRangeType Tryz.underlying177 row69 Tryz.underlying440 Tryz.underlying442 rfl rfl Tryz.underlying9 cells71 cells9
 exact⟨_,by have h0:=World.var?_cell gRange hv0 0;simpa using h0,Or.inr ⟨_,_,rfl⟩⟩
theorem tab_of {W:World} (h:laidMetH Tryz.prog Rows.formatsUptoRow.laid W):Tab W:=by
 have h1 := laidMetH.filter (fun x => x.1 == "internal/strconv.uint64pow10") h
 have e : (Rows.formatsUptoRow.laid.filter fun x => x.1 == "internal/strconv.uint64pow10") = [("internal/strconv.uint64pow10", Rows.laid_internal_strconv_uint64pow10)] := by kernel_rfl
 rw[e] at h1
 rw[MakeChecks.laidMetH_plain _ _ _ (by kernel_rfl)] at h1
 rw[powData] at h1
 exact Lib.tabIs_of_head gPow gPowType powUnder u64Under u64Cells powCells h1
theorem door_met (os:Os) (args:Array Value):laidMetH Tryz.prog Rows.formatsUptoRow.laid ((World.doorLaid Tryz.prog 400 os).forCall (fun _ _=>0) ⟨#[],args,[]⟩).memory:=
 laidMetH_of_parts3 (fuel:=8) (laidMet_of_run' 8 (by kernel_rfl) (by kernel_rfl)) (by kernel_rfl) (by kernel_rfl)
theorem queryReadable:Tryz.prog.readableRec 29=true:=by kernel_rfl
theorem queryRow:29<Tryz.prog.types.size:=of_decide_eq_true (by kernel_rfl)
theorem reads_zero (os:Os) {H:Type} (enc:TypeId × Value→H):∃places,DataW.whole enc Tryz.prog ((World.doorLaid Tryz.prog 400 os).forCall (fun _ _=>0) ⟨#[],#[.agg zq],[]⟩).memory Tryz.f4.params.toList (Rows.OpenSpec.upto Rows.formatsSpec).vars false #[Value.agg zq].toList 8=some ([.agg [.lit (.int .i64 0),.nil,.nil,.nil,.lit (.int .i64 0),.lit (.bool false),.lit (.int .i64 0),.lit (.int .i64 0),.lit (.string []),.lit (.string []),.agg [.lit (.string []),.lit (.string []),.lit (.int .i64 0)],.lit (.string []),.lit (.string []),.lit (.string []),.nil]],[],places):=
 ⟨[],by kernel_rfl⟩
theorem bulk_of {H:Type} {d:DataW H} (h:Rows.uptoSmall H ([d]++[])=true):Rows.uptoBulk d≤1048576:=by
 have h1:=of_decide_eq_true h
 have e:Rows.uptoBulkAll ([d]++[])=Rows.uptoBulk d+0:=by simp only[List.append_nil,Rows.uptoBulkAll]
 rw[e] at h1
 exact h1
set_option maxRecDepth 100000 in
theorem contract (H:Type) (enc:TypeId × Value→H) (W:World) (base:Nat) (args:Array Value) (ds gs:List (DataW H)) (before:List MemPlace)
  (hval0:∀(j:Nat) t v,Tryz.f4.params[j]?=some t→args[j]?=some v→Value.okWide Tryz.prog W .any base t v)
  (hW:DataW.Whole enc Tryz.prog Tryz.f4.params.toList Rows.formatsSpec.vars false W args.toList ds gs before) (hcond:Rows.uptoSmall H (ds++gs)=true) (hL:laidMetH Tryz.prog Rows.formatsUptoRow.laid W):
  Calls Tryz.prog 4 args W fun e W'=>∃v,e=.returned v∧Rows.formatsSpec.post enc Tryz.prog Tryz.f4 false true false false W args v W':=by
 have hval:∀(j:Nat) t v,Tryz.f4.params[j]?=some t→args[j]?=some v→Value.okWide Tryz.prog W .any base t v:=hval0
 have hW':=hW
 have hlt:=hW.lt
 obtain⟨p,qq,hA0,hV,rfl,_,_⟩:=hW
 have hA:DataW.TrodAll enc Tryz.prog W 0 (fun _=>true) true Tryz.f4.params.toList args.toList ds p:=hA0
 rw[Tryz.params4] at hA hval
 obtain⟨v,d,rfl,rfl,hd⟩:=trodAll_one hA
 obtain⟨rfl,rfl⟩:=trodVars_none hV
 have hok:=hval 0 29 v rfl rfl
 unfold Value.okWide at hok
 rw[Tryz.underlying29] at hok
 obtain⟨cs,rfl,_,_⟩:=hok
 have hd':=hd
 obtain⟨fuel,hfu⟩:=hd
 obtain⟨q,vs,vc,vi,vp,hce,hqs,hbk⟩:=open_query hfu
 have hce2:cs=qC q vs vc vi vp:=by
  have h:cs.toList=(qC q vs vc vi vp).toList:=hce
  exact Array.toList_inj.1 h
 subst hce2
 obtain⟨hf,hsh,z1,z2,z3,z4⟩:=hbk (bulk_of hcond)
 obtain⟨ev,hg,hev⟩:=range_of hL
 have ht:=tab_of hL
 clear hA0 hval0
 simp only[List.append_nil] at hW' hlt
 refine(formats hqs hf ht hg hev hsh (by omega) (by omega) (by omega) (by omega)).mono fun e W' ⟨he,hnx⟩=>?_
 subst he
 refine⟨_,rfl,_,_,_,[],p,[],hW',?_,?_,rfl,hnx.frame _,fun h=>by cases h⟩
 ·exact trodAll_mk1 (shut_bool Tryz.underlying4 _)
 ·refine trodAll_mk1 (WideElems.Trod_stays formatsUptoF2 queryReadable queryRow hd' (fun x hx=>?_) (fun x hx=>by simpa using hlt x hx))
  have hb:=hlt x hx
  cases x with
  | cell b o=>exact hnx.cell hb
  | map b=>exact hnx.block b hb
set_option maxRecDepth 100000 in
theorem liftedUpto (os:Os) (started:os.Started) (H:Type) (enc:TypeId × Value→H) (F:Stop.Interp):
  ReturnsInHanded {} Tryz.checked os 4 .any ((Rows.OpenSpec.upto Rows.formatsSpec).preRow enc Tryz.prog Tryz.f4 Rows.formatsUptoRow.domain false Rows.formatsUptoRow.laid) (((Rows.OpenSpec.upto Rows.formatsSpec).at F).post enc Tryz.prog Tryz.f4 false true false false):=by
 obtain⟨places,hx⟩:=reads_zero os enc
 refine returnsInHanded_of_row (C:=Tryz.checked) (s:=Rows.OpenSpec.upto Rows.formatsSpec) Tryz.own started (by kernel_rfl) Tryz.func4
  (witness_row_atRef (enc:=enc) (C:=Tryz.checked) false (World.doorLaid Tryz.prog 400 os) #[.agg zq] rfl (by kernel_rfl) (by kernel_rfl) (by kernel_rfl)
   (OpenSpec.preRow_of_cond 8 hx (by kernel_rfl) (fun k hk=>by cases hk;kernel_rfl) (by kernel_rfl) (door_met os _))) ?_
 intro W base args ds gs before hval hW _ hcond _ hL _ _
 exact contract H enc W base args ds gs before hval hW (hcond _ rfl) hL
theorem and2 {a b:Bool} (h1:a=true) (h2:b=true):(a&&b)=true:=by rw[h1,h2];rfl
set_option maxRecDepth 100000 in
theorem formatsUptoClosed:joinedFacts Tryz.prog 4 Tryz.f4 Rows.formatsSpec Rows.formatsUptoRow=true:=by
 unfold joinedFacts
 exact and2 (and2 (and2 (and2 (and2 (and2 (and2 (and2 (and2 (and2 (and2 (and2 (and2 (and2 (and2 (and2 (and2 (and2 (and2 (and2 (and2 (and2 (and2 (and2 (and2 (and2 (and2 (and2 (and2 (and2 (and2 formatsUptoF1 formatsUptoF2) formatsUptoF3) formatsUptoF4) formatsUptoF5) formatsUptoF6) formatsUptoF7) formatsUptoF8) formatsUptoF9) formatsUptoF10) formatsUptoF11) formatsUptoF12) formatsUptoF13) formatsUptoF14) formatsUptoF15) formatsUptoF16) formatsUptoF17) formatsUptoF18) formatsUptoF19) formatsUptoF20) formatsUptoF21) formatsUptoF22) formatsUptoF23) formatsUptoF24) formatsUptoF25) formatsUptoF26) formatsUptoF27) formatsUptoF28) formatsUptoF29) formatsUptoF30) formatsUptoF31) formatsUptoF32
set_option maxRecDepth 100000 in
theorem formatsUpto_row_holds:Rows.FormatsUptoSaid:=
 OpenClaim.holds_of_cond 4 Tryz.f4 rfl rfl rfl rfl rfl rfl rfl ⟨rfl,rfl,rfl,rfl,rfl⟩ rfl rfl rfl rfl rfl formatsUptoNamed Tryz.func4 formatsUptoClosed formatsUptoInst formatsUptoWrap
  (fun os started H enc _ F=>by rw[OpenClaim.pre_eq_preRow];exact liftedUpto os started H enc F)
theorem query_plain:Tryz.prog.wantsStandIn 29=false:=by kernel_rfl
theorem formats_holds:Rows.FormatsUptoCardSaid:=
 Claim7.holds_tied_plain_at .later [] [.data, .data, .data, .sentinel, .sentinel] true (true, "688554a4e8ee496442038ba4f4df914fac4bc704e873b26b6050a7898a9f0fee") true
  formatsUpto_row_holds (fun _ h=>by cases h) formatsUptoWf (fun _ h=>by cases h) formatsUpto_row_tie rfl ⟨rfl,rfl⟩ formatsUptoMain rfl
  (fun f fn hf hfn=>by
   obtain rfl:f=4:=Option.some.inj (formatsUptoNamed.symm.trans hf) |>.symm
   obtain rfl:fn=Tryz.f4:=(Option.some.inj (Tryz.func4.symm.trans hfn)).symm
   exact⟨formatsUptoLooks,fun j t ht=>by
    rw[Tryz.params4] at ht
    have hm:t∈[29]:=by simpa using Array.mem_of_getElem? ht
    simp only[List.mem_cons,List.not_mem_nil,or_false] at hm
    subst hm
    exact query_plain⟩)
  formatsUptoGoes
#print axioms formats_holds
end Go.Proofs.YtobgbmfpicmpcaaGreatDoor

