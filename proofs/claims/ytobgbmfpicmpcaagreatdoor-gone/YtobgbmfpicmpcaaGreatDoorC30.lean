/- A map's entry is laid open, and a value stored into it: as one store. Of no program. -/
import Derived.Test.YtobgbmfpicmpcaaGreatDoorC29
import Derived.Sort.OwnSorted
import Derived.Lib.Hide
set_option maxRecDepth 100000
set_option maxHeartbeats 8000000
namespace Go.Proofs.YtobgbmfpicmpcaaGreatDoor
open Go.Lib (hid)
section
open Go.RowKit Go.Maps Go.ChangeMaps
theorem nF {P:Program} {w:World} {t:TypeId} {b i clock:Nat} {es:Array MapEntry} {s:Int} {value:Value} (hb:w.heap[b]?=some (.map es clock)) (hf:es.findIdx? (fun x=>(x.born:Int)==s)=some i):
  (Instr.entryStore t (.map (some b)) (.int .i64 s) value).run P w=.ok () (setBlock w b (.map (es.modify i (fun x=>{x with val:=value})) clock)):=by
 simp[Instr.entryStore,MapKept.run_getObj_map hb,asInt,asIntOf,hf,MapKept.run_setObj_map _ hb,Result.andThen,setBlock]
theorem nt (w:World) (b:Nat) (o o':Obj):setBlock (setBlock w b o) b o'=setBlock w b o':=by simp[setBlock]
theorem Fw {P:Program} {H:Type} {w:World} {t k e:TypeId} {R:Value→Option (DataW H × List MemPlace)} {b n:Nat} {D:DataW H} (h:w.ownsMap P k R b n D) (K:Keyed P k) (ht:P.underlying t=some (.map k e)) {z:Value} (hz:∀w',(zeroValue e).run P w'=.ok z w') {key:Value} {kl:Lit} (hkey:keyOf P k key=some kl):
  ∃v s w1,(Instr.mapEntry t (.map (some b)) key).run P w=.ok (.tuple #[v,.int .i64 s]) w1∧(∀value w2,(Instr.mapUpdate t (.map (some b)) key value).run P w=.ok () w2→(Instr.entryStore t (.map (some b)) (.int .i64 s) value).run P w1=.ok () w2)∧(w1=w∨((Instr.mapUpdate t (.map (some b)) key z).run P w=.ok () w1∧(Instr.lookup t (.map (some b)) key false).run P w=.ok z w)):=by
 obtain⟨es,clock,hb,F,_,rfl⟩:=h
 rcases K.find w hkey es.toList F.keys with ⟨h1,h2⟩|⟨j,e0,h1,h2,h3⟩
 ·have hs:=F.stamped
  refine⟨z,clock,setBlock w b (.map (es.push ⟨key,z,clock⟩) (clock+1)),?_,fun value w2 hu=>?_,Or.inr ⟨?_,?_⟩⟩
  ·simp[Instr.mapEntry,run_underlying ht,MapKept.run_getObj_map hb,K.check w false hkey,h1,hz,MapKept.run_setObj_map _ hb,Result.andThen,setBlock,goInt]
  ·have hu':w2=setBlock w b (.map (es.push ⟨key,value,clock⟩) (clock+1)):=by
    simp[Instr.mapUpdate,run_underlying ht,MapKept.run_getObj_map hb,K.check w false hkey,h1,MapKept.run_setObj_map _ hb,Result.andThen] at hu
    rw[←hu]
    rfl
   have hb1:(setBlock w b (.map (es.push ⟨key,z,clock⟩) (clock+1))).heap[b]?=some (.map (es.push ⟨key,z,clock⟩) (clock+1)):=heap_setBlock_same hb _
   have hf:(es.push ⟨key,z,clock⟩).findIdx? (fun x=>(x.born:Int)==(clock:Int))=some es.size:=by
    rw[Array.findIdx?_eq_some_iff_getElem]
    refine⟨by simp,by simp,fun i hi=>?_⟩
    have hlt:=hs.1 es[i] (by simp)
    rw[Array.getElem_push_lt hi]
    simp;omega
   have hm:(es.push ⟨key,z,clock⟩).modify es.size (fun x=>{x with val:=value})=es.push ⟨key,value,clock⟩:=by
    apply Array.ext
    ·simp
    ·intro i h1 h2
     rw[Array.getElem_modify]
     by_cases e1:es.size=i
     ·subst e1;simp
     ·have:i<es.size:=by simp at h2;omega
      simp[e1,Array.getElem_push_lt this]
   rw[hu',nF hb1 hf,hm,nt]
  ·simp[Instr.mapUpdate,run_underlying ht,MapKept.run_getObj_map hb,K.check w false hkey,h1,MapKept.run_setObj_map _ hb,Result.andThen,setBlock]
  ·rcases Maps.fit_look false K ht (hz w) hb F hkey with ⟨hrun,_⟩|⟨e1,y,hm,hk,_⟩
   ·exact hrun
   ·exact absurd hk (h2 e1 hm)
 ·have hs:=F.stamped
  have hj:es[j]?=some e0:=by simpa using h2
  obtain⟨hjl,hje⟩:=Array.getElem?_eq_some_iff.1 hj
  have hst:=K.stays w hkey
  have hid:es.modify j (fun x=>{x with key:=key})=es:=by
   apply Array.ext
   ·simp
   ·intro i h4 h5
    rw[Array.getElem_modify]
    by_cases e1:j=i
    ·subst e1
     rw[if_pos rfl,hje,←h3]
    ·simp[e1]
  refine⟨e0.val,e0.born,setBlock w b (.map es clock),?_,fun value w2 hu=>?_,Or.inl ?_⟩
  ·simp[Instr.mapEntry,run_underlying ht,MapKept.run_getObj_map hb,K.check w false hkey,h1,hj,h3,hst,hid,MapKept.run_setObj_map _ hb,Result.andThen,setBlock,goInt]
  ·have hu':w2=setBlock w b (.map (es.modify j (fun x=>{x with key:=key,val:=value})) clock):=by
    simp[Instr.mapUpdate,run_underlying ht,MapKept.run_getObj_map hb,K.check w false hkey,h1,hj,h3,hst,MapKept.run_setObj_map _ hb,Result.andThen] at hu
    rw[←hu]
    rfl
   have hb1:(setBlock w b (.map es clock)).heap[b]?=some (.map es clock):=heap_setBlock_same hb _
   have hf:es.findIdx? (fun x=>(x.born:Int)==(e0.born:Int))=some j:=by
    rw[Array.findIdx?_eq_some_iff_getElem]
    refine⟨hjl,by simp[hje],fun i hi=>?_⟩
    have hnd:=hs.2.1
    intro e1
    have e2:(es[i]'(by omega)).born=e0.born:=by
     have e3:((es[i]'(by omega)).born:Int)=(e0.born:Int):=by simpa using e1
     omega
    have h6:=(List.pairwise_iff_getElem.1 hnd) i j (by simp;omega) (by simp;omega) hi
    simp[e2,hje] at h6
   have hm:es.modify j (fun x=>{x with val:=value})=es.modify j (fun x=>{x with key:=key,val:=value}):=by
    apply Array.ext
    ·simp
    ·intro i h4 h5
     rw[Array.getElem_modify,Array.getElem_modify]
     by_cases e1:j=i
     ·subst e1
      rw[if_pos rfl,if_pos rfl,hje,←h3]
     ·simp[e1]
   rw[hu',nF hb1 hf,hm,nt]
  ·have hg:w.heap.setIfInBounds b (.map es clock)=w.heap:=by
    apply Array.ext_getElem?
    intro i
    rw[Array.getElem?_setIfInBounds]
    split
    ·rename_i e1
     subst e1
     split
     ·exact hb.symm
     ·rename_i h5
      exact absurd (Array.getElem?_eq_some_iff.1 hb).1 h5
    ·rfl
   unfold setBlock
   rw[hg]
end
section
open Go.RowKit Go.Maps
def mX (l:bK):Lit:=.string (keyBytes [.bool (gV l 0).isSome,.int .i64 ((gV l 0).getD 0),.bool (gV l 1).isSome,.int .i64 ((gV l 1).getD 0),.bool (gV l 2).isSome,.int .i64 ((gV l 2).getD 0),.bool (gV l 3).isSome,.int .i64 ((gV l 3).getD 0),.bool (gV l 4).isSome,.int .i64 ((gV l 4).getD 0),.bool (gV l 5).isSome,.int .i64 ((gV l 5).getD 0)])
theorem FL:Tryz.prog.keyType 210=true:=by kernel_rfl
theorem Aj:Tryz.prog.keyTypeAt 4 210=true:=by kernel_rfl
theorem J6:Tryz.prog.tiled 4 210=true:=by kernel_rfl
theorem Fa:Tryz.prog.cellsOf 210=12:=by kernel_rfl
theorem Js:Tryz.prog.cellsOf 208=2:=by kernel_rfl
theorem IB:Tryz.prog.cellsOf 4=1:=by kernel_rfl
theorem cellsIn:Tryz.prog.cellsOf 3=1:=by kernel_rfl
theorem sr:Keyed Tryz.prog 210:=Keyed.of_law (deep_law (m:=4) (Nat.le_of_ble_eq_true rfl) Aj J6 (by rw[Tryz.underlying210]))
theorem zS:∃m,Tryz.prog.types.size=m+1+1:=by
 have h:Nat.ble 2 Tryz.prog.types.size=true:=by kernel_rfl
 have:=Nat.le_of_ble_eq_true h
 exact⟨Tryz.prog.types.size - 2,by omega⟩
theorem zl {n:Int} (h:ux n):(Lit.int .i64 n).wf=true:=WalkArith.wf_i64 h
theorem ql {l:bK} (h:sj l) (i:Nat):(Lit.int .i64 ((gV l i).getD 0)).wf=true:=by
 unfold gV
 cases hi:l[i]? with
 | none=>exact zl ⟨by decide,by decide⟩
 | some v=>
  cases v with
  | none=>exact zl ⟨by decide,by decide⟩
  | some n=>exact zl (h.2 (some n) (List.mem_of_getElem? hi) n rfl)
theorem uu {l:bK} (h:sj l):keyOf Tryz.prog 210 (.agg (ee l))=some (mX l):=by
 obtain⟨m,hm⟩:=zS
 have hf:(Value.agg (ee l)).formed Tryz.prog 210=true:=by simp[ee,Value.formed,Tryz.underlying210,Fa]
 have w0:=ql h 0
 have w1:=ql h 1
 have w2:=ql h 2
 have w3:=ql h 3
 have w4:=ql h 4
 have w5:=ql h 5
 unfold keyOf
 rw[Tryz.underlying210]
 simp only[FL,hf,Bool.and_self,if_true,hm]
 have hc:(Value.agg (ee l)).cells.toList=[.bool (gV l 0).isSome,.int .i64 ((gV l 0).getD 0),.bool (gV l 1).isSome,.int .i64 ((gV l 1).getD 0),.bool (gV l 2).isSome,.int .i64 ((gV l 2).getD 0),.bool (gV l 3).isSome,.int .i64 ((gV l 3).getD 0),.bool (gV l 4).isSome,.int .i64 ((gV l 4).getD 0),.bool (gV l 5).isSome,.int .i64 ((gV l 5).getD 0)]:=rfl
 rw[hc]
 unfold mX
 generalize gV l 0=a0 at*
 generalize gV l 1=a1 at*
 generalize gV l 2=a2 at*
 generalize gV l 3=a3 at*
 generalize gV l 4=a4 at*
 generalize gV l 5=a5 at*
 simp[Program.keyLits,Tryz.underlying210,Tryz.underlying208,Tryz.underlying4,Tryz.underlying3,Fa,Js,IB,cellsIn,w0,w1,w2,w3,w4,w5,List.range_succ]
theorem IS {l k:bK} (hl:l.length=6) (hk:k.length=6) (h:ee l=ee k):l=k:=by
 have two:∀{a b:Option Int},Value.bool a.isSome=Value.bool b.isSome→Value.int .i64 (a.getD 0)=Value.int .i64 (b.getD 0)→a=b:=by
  intro a b h1 h2
  injection h1 with h1
  injection h2 with _ h2
  cases a<;>cases b<;>simp_all
 match l,hl,k,hk with
 | [a0,a1,a2,a3,a4,a5],_,[b0,b1,b2,b3,b4,b5],_=>
  simp only[ee,Array.mk.injEq,List.cons.injEq] at h
  obtain⟨h0,g0,h1,g1,h2,g2,h3,g3,h4,g4,h5,g5,_⟩:=h
  have e0:a0=b0:=two h0 g0
  have e1:a1=b1:=two h1 g1
  have e2:a2=b2:=two h2 g2
  have e3:a3=b3:=two h3 g3
  have e4:a4=b4:=two h4 g4
  have e5:a5=b5:=two h5 g5
  rw[e0,e1,e2,e3,e4,e5]
theorem yI {l k:bK} (hl:sj l) (hk:sj k) (h:mX l=mX k):l=k:=by
 have h1:=sr.inj (uu hl) (by rw[h];exact uu hk)
 injection h1 with h1
 exact IS hl.1 hk.1 h1
structure iA (W:World) (b n:Nat) (D:DataW Unit) (c:bK→Option Int):Prop where
 own:W.ownsMap Tryz.prog 210 (plainElem Tryz.prog 3) b n D
 at_:∀l,sj l→Maps.has D (mX l)=(c l).isSome∧D.atKey (mX l) (.lit (.int .i64 0))=.lit (.int .i64 ((c l).getD 0))
 keys:∀k,Maps.has D k=true→∃l,sj l∧k=mX l
 only:∀l,(c l).isSome=true→sj l
theorem iA.made (W:World):iA (W.alloc (.map #[] 0)) W.heap.size 0 (.map []) (fun _=>none):=
 ⟨World.ownsMap_made W _ _ _,fun _ _=>⟨rfl,rfl⟩,fun k hk=>(by cases hk),fun l hl=>(by cases hl)⟩
theorem iA.kept {W w:World} {b n:Nat} {D:DataW Unit} {c:bK→Option Int} {row:Option Nat} (h:iA W b n D c) (hg:W.grownBy w row) (hne:some b≠row):iA w b n D c:=⟨h.own.kept hg hne,h.at_,h.keys,h.only⟩
def ow (c:bK→Option Int) (l:bK) (v:Int):bK→Option Int:=fun k=>if k=l then some v else c k
theorem iA.put {W w:World} {b n:Nat} {D:DataW Unit} {c:bK→Option Int} {l:bK} {v:Int} (h:iA W b n D c) (hl:sj l) (ho:w.ownsMap Tryz.prog 210 (plainElem Tryz.prog 3) b (n+1) (D.put (mX l) (.lit (.int .i64 v)))):iA w b (n+1) (D.put (mX l) (.lit (.int .i64 v))) (ow c l v):=by
 have hD:=h.own.isMap
 refine⟨ho,fun k hk=>?_,fun k hk=>?_,fun k hk=>?_⟩
 ·unfold ow
  by_cases e:k=l
  ·subst e
   rw[if_pos rfl,has_put_same hD (sr.key (uu hl)),atKey_put_same hD (sr.key (uu hl))]
   exact⟨rfl,rfl⟩
  ·have hne:mX k≠mX l:=fun h2=>e (yI hk hl h2)
   rw[if_neg e,has_put_other hne,atKey_put_other hne]
   exact h.at_ k hk
 ·by_cases e:k=mX l
  ·exact⟨l,hl,e⟩
  ·rw[has_put_other e] at hk
   exact h.keys k hk
 ·unfold ow at hk
  split at hk
  ·rename_i e;rw[e];exact hl
  ·exact h.only k hk
theorem iA.look {W:World} {b n:Nat} {D:DataW Unit} {c:bK→Option Int} {l:bK} (h:iA W b n D c) (hl:sj l):(Instr.lookup 267 (.map (some b)) (.agg (ee l)) false).run Tryz.prog W=.ok (.int .i64 ((c l).getD 0)) W:=by
 obtain⟨x,hrun,hat,_⟩:=h.own.lookup_int sr Tryz.underlying267 Tryz.underlying3 (mv W) (uu hl)
 have e:=hat.symm.trans (h.at_ l hl).2
 obtain rfl:x=(c l).getD 0:=by {injection e with e;injection e}
 exact hrun
end
section
open Go.RowKit Go.Maps
theorem Tryz.IF (args:Array Value) (w:World):(callFunc 190 args).run Tryz.prog w=.ok (.enter 190 args) w:=by go_simp
theorem Cs {α:Type} {a b:α} {w w':World} (h:(Result.ok a w:Result α)=.ok b w'):a=b∧w=w':=by
 injection h with h1 h2
 exact⟨h1,h2⟩
theorem int_inj {a b:Int} (h:Value.int .i64 a=.int .i64 b):a=b:=by injection h
def dJ (items:List bi):bK→Option Int:=if items.any (fun x=>!(jl x)) then fun _=>none else ow (fun _=>none) fc 0
def dC (c:bK→Option Int) (ls:List bK):bK→Option Int:=ls.foldl (fun c l=>ow c l ((c l).getD 0+1)) c
theorem su:sj fc:=⟨rfl,fun v hv n hn=>by
 simp[fc] at hv
 subst hv
 cases hn⟩
theorem xD (c:bK→Option Int) (ls:List bK) (l:bK):dC c (ls++[l])=ow (dC c ls) l ((dC c ls l).getD 0+1):=by
 unfold dC
 rw[List.foldl_append]
 rfl
theorem pG (items:List bi) (l:bK):(dJ items l).getD 0=0:=by
 unfold dJ
 split
 ·rfl
 ·unfold ow
  split<;>rfl
theorem mR (items:List bi):∀(ls:List bK) (c:bK→Option Int) (m:Nat),(∀l,0≤(c l).getD 0∧(c l).getD 0≤m)→∀l,0≤(dC c ls l).getD 0∧(dC c ls l).getD 0≤(m+ls.length:Nat)
 | [],c,m,h,l=>by simpa [dC] using h l
 | x::r,c,m,h,l=>by
  have h2:=mR items r (ow c x ((c x).getD 0+1)) (m+1) (fun k=>by
   unfold ow
   split
   ·have:=h x
    simp only[Option.getD_some];omega
   ·have:=h k
    omega) l
  have e:dC c (x::r)=dC (ow c x ((c x).getD 0+1)) r:=rfl
  rw[e]
  simp only[List.length_cons]
  omega
def ir (items:List bi) (l:bK) (n:Int):bK:=(List.range 6).map fun i=>if (items[i]?).elim false jl then some n else gV l i
def fA (items:List bi) (l:bK) (n:Int) (k:Nat):bK:=(List.range 6).map fun i=>if i<k then (if (items[i]?).elim false jl then some n else gV l i) else gV l i
theorem yC (items:List bi) (l:bK) (n:Int) (k:Nat):(fA items l n k).length=6:=by simp[fA]
theorem vN (items:List bi) {l:bK} (n:Int) (hl:l.length=6):fA items l n 0=l:=by
 match l,hl with
 | [a,b,c,d,e,f],_=>rfl
theorem xQ (items:List bi) (l:bK) (n:Int):fA items l n items.length=ir items l n:=by
 unfold fA ir
 congr 1
 funext i
 split
 ·rfl
 ·rw[List.getElem?_eq_none (by omega)];rfl
theorem xH (items:List bi) (l:bK) (n:Int) {k:Nat} (hk:k<items.length) (hc:jl items[k]=true):fA items l n (k+1)=(fA items l n k).set k (some n):=by
 refine List.ext_getElem (by simp[fA]) fun i h1 h2=>?_
 rw[List.getElem_set]
 simp only[fA,List.getElem_map,List.getElem_range]
 by_cases e:k=i
 ·subst e
  rw[if_pos (by omega),if_pos rfl,List.getElem?_eq_getElem hk]
  simp[hc]
 ·rw[if_neg e]
  by_cases e2:i<k
  ·rw[if_pos (by omega),if_pos e2]
  ·rw[if_neg (by omega),if_neg e2]
theorem zY (items:List bi) (l:bK) (n:Int) {k:Nat} (hk:k<items.length) (hc:jl items[k]=false):fA items l n (k+1)=fA items l n k:=by
 unfold fA
 refine List.map_congr_left fun i _=>?_
 by_cases e:k=i
 ·subst e
  rw[if_pos (show k<k+1 by omega),List.getElem?_eq_getElem hk,if_neg (Nat.lt_irrefl k)]
  simp[hc]
 ·by_cases e2:i<k
  ·rw[if_pos (by omega),if_pos e2]
  ·rw[if_neg (by omega),if_neg e2]
theorem A8 {P:Program} {H:Type} {w:World} {k:TypeId} {R:Value→Option (DataW H × List MemPlace)} {b n B sz m:Nat} {D:DataW H} {T:TypeId} {v:Value} {xs:List Value} (h:w.ownsMap P k R b n D) (ho:w.ownsRow B T sz v m xs):some b≠v.ownBlock:=by
 obtain⟨es,c,hb,_⟩:=h
 rcases ho.2 with ⟨rfl,_⟩|⟨g,cap,cur,rfl,_,hg,_⟩
 ·simp[Value.ownBlock]
 ·intro e
  injection e with e
  subst e
  rw[hb] at hg
  cases hg
theorem uw {P:Program} {ops:Array Oper} {rest:List Oper} {op:Oper} {a:Act} {w:World} {Q:Exit→Act→World→Prop} {x:Operand} (y v:Value) (hgd:op.guard=none) (ho:op.op=.entry x) (hx:a.eval x=y) (hrun:(Instr.entry y).run P w=.ok v w) (h:wpList P ops Q rest (a.put op.dst v) w):wpList P ops Q (op::rest) a w:=
 wpList_plain hgd fun _ hK=>by
  unfold Oper.wp execOp
  simp only[ho,hx]
  rw[Sem.run_bind,hrun]
  exact hK _ _ h
theorem mW {P:Program} {ops:Array Oper} {rest:List Oper} {op:Oper} {a:Act} {w:World} {Q:Exit→Act→World→Prop} {x:Operand} {i:Nat} (vs:Array Value) (v:Value) (hgd:op.guard=none) (ho:op.op=.extract x i) (hx:a.eval x=.tuple vs) (hv:vs[i]?=some v) (h:wpList P ops Q rest (a.put op.dst v) w):wpList P ops Q (op::rest) a w:=
 wpList_plain hgd fun _ hK=>by
  unfold Oper.wp execOp
  simp only[ho,hx,Instr.extract,hv]
  exact hK _ _ h
theorem pX {ops:Array Oper} {rest:List Oper} {op:Oper} {a:Act} {w:World} {Q:Exit→Act→World→Prop} (hgd:op.guard=none) (ho:op.op=.alloc 210) (h:wpList Tryz.prog ops Q rest (a.put op.dst (.pointer (some ⟨w.heap.size,0,none⟩))) (w.alloc (.cells (ee fc) 210))):wpList Tryz.prog ops Q (op::rest) a w:=
 wpList_plain hgd fun _ hK=>by
  unfold Oper.wp execOp
  simp only[ho]
  go_simp
  exact hK _ _ h
theorem EN {key:Value} {kl:Lit} (h:keyOf Tryz.prog 210 key=some kl):∃cs,key=.agg cs:=by
 cases key<;>first|exact⟨_,rfl⟩|(simp[keyOf,Tryz.underlying210,Value.formed] at h)
theorem Hp {W:World} {ao ia:Option Addr} {cp ic:Nat} {ls:List bK} {items:List bi} (hr:W.ownsRow 0 210 12 (.slice ao ls.length cp) ls.length (ls.flatMap fo)) (hs:bO W 2 (.slice ia items.length ic) items.length (items.flatMap mT)) (hio:∀w,Kept (fun b=>(Value.slice ao ls.length cp).ownBlock=some b) W w→bO w 2 (.slice ia items.length ic) items.length (items.flatMap mT)) (hl:ls.length≤900000) (hi:items.length≤6) (hok:∀l∈ls,sj l):
  Calls Tryz.prog 135 #[.slice ao ls.length cp,.slice ia items.length ic] W fun e W'=>∃(v:Value) (ks:List bK),e=.returned v∧W'.ownsRow 0 210 12 v ks.length ((ks.map fun l=>ir items l ((dC (dJ items) ls l).getD 0)).flatMap fo)∧ks.Nodup∧(∀l,l∈ks↔(dC (dJ items) ls l).isSome=true)∧Kept (fun k=>(Value.slice ao ls.length cp).ownBlock=some k) W W'∧∀b,v.ownBlock=some b→(Value.slice ao ls.length cp).ownBlock=some b∨W.heap.size≤b:=by
 obtain⟨i0,hi0,hz0,hz1,hz2⟩:=info_parts Tryz.yG
 have hmk:=@run_makeMap Tryz.prog
 have HB1:=hid ((Below.refl W.heap.size W).alloc (Nat.le_refl _) (.map #[] 0))
 have HC1:=hid (iA.made W)
 have HAN:=hid (xB Tryz.IF (fun x w=>CF x w) (hs.below HB1.out) (by omega))
 have HR:=hid hr
 have HS:=hid hs
 have HIO:=hid hio
 have HOK:=hid hok
 clear hr hs hio hok
 go_enter Tryz.func135,Tryz.ntmps135
 go_upto_region 2 with fail
 obtain⟨M,hM⟩:∃M,M=W.heap.size:=⟨_,rfl⟩
 have HM:=hid hM
 rw[←hM] at HC1⊢
 clear hM hmk
 generalize W.alloc (.map #[] 0)=W1 at HB1 HC1 HAN⊢
 go_wp2_with fail
 refine HAN.out.mono ?_
 rintro e W2 ⟨rfl,hb2⟩
 have HB2:=hid (HB1.out.trans (hb2.mono HB1.out.size))
 have HC2:=hid (HC1.out.kept (af hb2 none) (by simp))
 clear hb2 HB1 HC1 HAN
 go_upto_if 15 with fail
 go_cut [] (fun w=>∃n D,n≤1∧iA w M n D (dJ items)∧Below W.heap.size W w)
 case first=>
  cases ha:items.any (fun x=>!(jl x)) with
  | true=>
   have HE:Hid (dJ items=fun _=>none):=hid (by unfold dJ;rw[ha];rfl)
   go_wp2_with fail
   go_meet
   exact⟨0,_,by omega,by rw[HE.out];exact HC2.out,HB2.out⟩
  | false=>
   have HE:Hid (dJ items=ow (fun _=>none) fc 0):=hid (by unfold dJ;rw[ha];rfl)
   obtain⟨w3,hrun,hout,hturn⟩:=HC2.out.own.store sr Tryz.underlying267 (by unfold maxLen;omega) (uu su) (plainElem_int Tryz.underlying3 (a:=0) (by decide))
   have HC3:=hid (HC2.out.put su hout)
   have HB3:=hid (HB2.out.grown hturn.grown HB2.out.size (fun j hj=>by injection hj with hj;rw[←hj,HM.out];exact Nat.le_refl _))
   rw[AL] at hrun
   clear hout hturn
   go_wp2_with fail
   go_meet
   exact⟨1,_,by omega,by rw[HE.out];exact HC3.out,HB3.out⟩
 case rest=>
  obtain⟨n1,D1,hn1,hc1,hb1⟩:=hcut
  have HC:=hid hc1
  have HB:=hid hb1
  have HN1:=hid hn1
  clear hc1 hb1 hn1 HB2 HC2
  have HCB:Hid (∀(k:Nat) (l:bK),k≤ls.length→0≤(dC (dJ items) (ls.take k) l).getD 0∧(dC (dJ items) (ls.take k) l).getD 0≤900000):=hid (fun k l hk=>by
   have h1:=mR items (ls.take k) (dJ items) 0 (fun l=>by rw[pG];omega) l
   simp only[List.length_take] at h1
   omega)
  go_wp2_with fail
  go_loopg [20] ls.length (fun c iv w=>∃(k n:Nat) (D:DataW Unit),iv=.int .i64 (k:Int)∧k+c=ls.length∧n≤k+1∧iA w M n D (dC (dJ items) (ls.take k))∧Below W.heap.size W w)
  case atStart=>exact⟨0,n1,D1,rfl,by omega,by have:=HN1.out;omega,HC.out,HB.out⟩
  case round=>
   obtain⟨k,n,D,rfl,hk,hn,hc,hb⟩:=hrel
   have HCC:=hid hc
   have HBB:=hid hb
   clear hc hb HC HB HN1
   by_cases hlt:k<ls.length
   ·have hki:(k:Int)<(ls.length:Int):=by omega
    have hrw:=HR.out.kept (af HBB.out none) (by cases (Value.ownBlock _)<;>simp)
    obtain⟨g,oo,rfl,hcell⟩:=bY (l:=ls) fo (fun _=>rfl) (aP hrw hrw.1) hlt
    obtain⟨y,hy⟩:∃y,ls[k]=y:=⟨_,rfl⟩
    have HYO:=hid (HOK.out y (by rw[←hy];exact List.getElem_mem hlt))
    have HTK:Hid (ls.take (k+1)=ls.take k++[y]):=hid (by rw[List.take_add_one,List.getElem?_eq_getElem hlt,hy];rfl)
    rw[hy] at hcell
    clear hy hrw
    have HRG:Hid (wr.rangeAt g (oo+k*12) (ee y).toList):=hid (fun j v hv=>by
     have hj:j<12:=by
      rcases Nat.lt_or_ge j 12 with h|h
      ·exact h
      ·rw[List.getElem?_eq_none (by simpa [ee] using h)] at hv;cases hv
     have:=hcell j hj
     rw[this]
     exact hv)
    clear hcell
    have HN0:=hid (Loc.new wr (ee fc) 210)
    rw[AL] at HN0
    go_upto_region 7 with (first|(refine wpList_load_mid rfl 210 _ rfl g (oo+k*12) rfl (ee y).toList _ HRG.out Tryz.underlying210 rfl (by rw[Tryz.hQ];rfl) ?_;simp only[Array.toArray_toList])|(refine wpList_store_mid rfl 210 _ _ rfl wr.heap.size 0 (ee y) rfl rfl HN0.out.there Tryz.hQ (rD _) ?_))
    have HY:=hid (HN0.out.dh (new:=ee y) rfl)
    have HB2:=hid (((HBB.out.alloc HBB.out.size (.cells #[.bool false,.int .i64 0,.bool false,.int .i64 0,.bool false,.int .i64 0,.bool false,.int .i64 0,.bool false,.int .i64 0,.bool false,.int .i64 0] 210)).grown (aS wr.heap.size (ee y).toList 0 _) (by simp;have:=HBB.out.size;omega) (fun j hj=>by injection hj with hj;rw[←hj];exact HBB.out.size)))
    have HC2:=hid ((HCC.out.kept (ar wr (.cells #[.bool false,.int .i64 0,.bool false,.int .i64 0,.bool false,.int .i64 0,.bool false,.int .i64 0,.bool false,.int .i64 0,.bool false,.int .i64 0] 210) none) (by simp)).kept (aS wr.heap.size (ee y).toList 0 _) (by intro e;injection e with e;have:=HCC.out.own.lt;omega))
    obtain⟨Y,hY⟩:∃Y,Y=wr.heap.size:=⟨_,rfl⟩
    rw[←hY] at HY HB2 HC2⊢
    clear hY HN0 HRG HCC HBB
    generalize (wr.alloc (.cells #[.bool false,.int .i64 0,.bool false,.int .i64 0,.bool false,.int .i64 0,.bool false,.int .i64 0,.bool false,.int .i64 0,.bool false,.int .i64 0] 210)).setCells Y 0 (ee y).toList=W3 at HY HB2 HC2⊢
    have y0:=HY.out.at_ 0 (lB y 0) rfl
    have y1:=HY.out.at_ 1 (lN y 0) rfl
    have y2:=HY.out.at_ 2 (lB y 1) rfl
    have y3:=HY.out.at_ 3 (lN y 1) rfl
    have y4:=HY.out.at_ 4 (lB y 2) rfl
    have y5:=HY.out.at_ 5 (lN y 2) rfl
    have y6:=HY.out.at_ 6 (lB y 3) rfl
    have y7:=HY.out.at_ 7 (lN y 3) rfl
    have y8:=HY.out.at_ 8 (lB y 4) rfl
    have y9:=HY.out.at_ 9 (lN y 4) rfl
    have y10:=HY.out.at_ 10 (lB y 5) rfl
    have y11:=HY.out.at_ 11 (lN y 5) rfl
    have HCD:Hid (iA W3.drew M n D (dC (dJ items) (ls.take k))):=hid ⟨HC2.out.own.drew,HC2.out.at_,HC2.out.keys,HC2.out.only⟩
    have hcb:=HCB.out k y (by omega)
    obtain⟨cy,hcy⟩:∃cy,(dC (dJ items) (ls.take k) y).getD 0=cy:=⟨_,rfl⟩
    rw[hcy] at hcb
    obtain⟨hc1,hc2⟩:=hcb
    have hlk:=HCD.out.look HYO.out
    rw[hcy] at hlk
    obtain⟨vv,st,w4,hme,hes,hor⟩:=Fw HCD.out.own sr Tryz.underlying267 (fun w=>mv w) (uu HYO.out)
    obtain⟨w5,hrun,hout,hturn⟩:=HCD.out.own.store sr Tryz.underlying267 (by unfold maxLen;omega) (uu HYO.out) (plainElem_int Tryz.underlying3 (a:=cy+1) (zl ⟨by omega,by omega⟩))
    have hes2:=hes _ _ hrun
    have HC5:Hid (iA w5 M (n+1) (D.put (mX y) (.lit (.int .i64 (cy+1)))) (dC (dJ items) (ls.take (k+1)))):=hid (by rw[HTK.out,xD,hcy];exact HCD.out.put HYO.out hout)
    have HB5:=hid ((HB2.out.trans (⟨rfl,rfl,rfl,Nat.le_refl _,fun _ _=>rfl⟩:Below W.heap.size W3 W3.drew)).grown hturn.grown HB2.out.size (fun j hj=>by injection hj with hj;rw[←hj,HM.out];exact Nat.le_refl _))
    have hwr:IntKind.i64.wrap (cy+1)=cy+1:=by simp[IntKind.wrap,IntKind.bits,IntKind.signed];omega
    have hlk4:(Instr.lookup 267 (.map (some M)) (.agg (ee y)) false).run Tryz.prog w4=.ok (.int .i64 cy) w4:=by
     rcases hor with rfl|⟨h1,h2⟩
     ·exact hlk
     ·have h2:cy=0:=int_inj (Cs (hlk.symm.trans h2)).1
      obtain⟨w6,hr6,ho6,_⟩:=HCD.out.own.store sr Tryz.underlying267 (by unfold maxLen;omega) (uu HYO.out) (plainElem_int Tryz.underlying3 (a:=0) (by decide))
      obtain rfl:=(Cs (h1.symm.trans hr6)).2
      have h7:=(HCD.out.put HYO.out ho6).look HYO.out
      unfold ow at h7
      rw[if_pos rfl] at h7
      rw[h7,h2]
      rfl
    unfold ee at hlk hlk4 hme
    clear hes hrun hout hturn HCD hcy hor
    go_region
    all_goals
     go_wp2_with fail
     go_roundg (gk - 1)
     case rel=>exact⟨k+1,n+1,_,by simp,by omega,by omega,HC5.out,HB5.out⟩
     case measure=>omega
   ·have hki:¬(k:Int)<(ls.length:Int):=by omega
    obtain rfl:k=ls.length:=by omega
    obtain⟨cF,hcF⟩:∃cF,dC (dJ items) ls=cF:=⟨_,rfl⟩
    have hall:=HCC.out
    rw[List.take_of_length_le (Nat.le_refl _),hcF] at hall
    have HCM:=hid hall
    have HCE:=hid hcF
    clear hall hcF HCC
    have hrw:=HR.out.kept (af HBB.out none) (by cases (Value.ownBlock _)<;>simp)
    have HZ:=hid (tS hrw)
    clear hrw
    go_wp2_with (first
     | (at_range;refine wpList_range_own _ rfl _ 267 rfl 210 3 sr Tryz.underlying267 _ M n D rfl HCM.out.own ?_;intro w0 hrg0 hg0 hs0)
     | go_in)
    obtain⟨I,hI⟩:∃I,I=wr.heap.size:=⟨_,rfl⟩
    have HI:Hid (W.heap.size≤I∧M≠I):=hid ⟨by rw[hI];exact HBB.out.size,fun e=>by have:=HCM.out.own.lt;omega⟩
    rw[←hI] at hrg0 hs0⊢
    have HRG0:=hid hrg0
    have HK0:Hid (Kept (fun b=>(Value.slice ao ls.length cp).ownBlock=some b) W w0):=hid (((Kept.refl _ W).below HBB.out).then hg0 (by simp))
    have HZ0:=hid (HZ.out.kept hg0 (by cases (Value.ownBlock _)<;>simp))
    clear hI hrg0 hg0 hs0 HBB HZ
    have HBK:Hid (∀b,(Value.slice ao 0 cp).ownBlock=some b→(Value.slice ao ls.length cp).ownBlock=some b):=hid (fun b hb=>by cases ao<;>exact hb)
    go_loopg [0] (Maps.size D) (fun c lv w=>∃(left:Lit→Bool) (ks:List bK),w.ranges Tryz.prog 210 (plainElem Tryz.prog 3) M I n D left c∧ks.length+c≤Maps.size D∧w.ownsRow 0 210 12 lv ks.length ((ks.map fun l=>ir items l ((cF l).getD 0)).flatMap fo)∧ks.Nodup∧(∀l,l∈ks↔(sj l∧Maps.has D (mX l)=true∧left (mX l)=false))∧Kept (fun b=>(Value.slice ao ls.length cp).ownBlock=some b) W w∧(∀b,lv.ownBlock=some b→(Value.slice ao ls.length cp).ownBlock=some b∨W.heap.size≤b))
    case atStart=>
     refine⟨_,[],HRG0.out,by simp,HZ0.out,List.nodup_nil,fun l=>?_,HK0.out,fun b hb=>Or.inl (HBK.out b hb)⟩
     constructor
     ·intro h;cases h
     ·rintro ⟨_,h1,h2⟩
      rw[h1] at h2
      cases h2
    case round=>
     obtain⟨left,ks,hrg,hkc,hrow,hnd,hmem,hkept,hown⟩:=hrel
     have HG:=hid hrg
     have HKC:=hid hkc
     have HROW:=hid hrow
     have HND:=hid hnd
     have HMEM:=hid hmem
     have HKEPT:=hid hkept
     have HOWN:=hid hown
     clear hrg hkc hrow hnd hmem hkept hown HRG0 HK0 HZ0
     go_wp2_with (first
      | (at_next;refine wpList_next_ranges _ rfl _ rfl 210 sr (plainElem Tryz.prog 3) Value.agg (Value.int .i64) (fun key kl hkey=>EN hkey) (fun v y hv=>by obtain⟨c,rfl,_⟩:=plainElem_int_inv Tryz.underlying3 hv;exact⟨c,rfl⟩) M I n D left gk rfl HG.out ?_ ?_)
      | go_in)
     ·intro hc0 hl0
      have HL0:=hid hl0
      clear hl0 hc0
      go_wp2_with fail
      go_ret
      refine⟨_,ks,rfl,by rw[HCE.out];exact HROW.out,HND.out,fun l=>?_,HKEPT.out,HOWN.out⟩
      rw[HCE.out,HMEM.out,HL0.out]
      constructor
      ·rintro ⟨h1,h2,_⟩
       rw[←(HCM.out.at_ l h1).1];exact h2
      ·intro h1
       have h2:=HCM.out.only l h1
       exact⟨h2,by rw[(HCM.out.at_ l h2).1];exact h1,rfl⟩
     ·intro x c kl y1 y2 w1 cnt1 hkey hlk hv hat hrg1 hlt hg1 hs1 hen
      obtain⟨l,hlo,rfl⟩:=HCM.out.keys kl (has_true_of_atKey hat)
      have hx:=sr.inj hkey (uu hlo)
      injection hx with hx
      subst hx
      obtain⟨c',ec,hyv,hwc⟩:=plainElem_int_inv Tryz.underlying3 hv
      injection ec with ek ec
      clear ek
      subst ec
      have hcv:(cF l).getD 0=c:=by
       have h1:=(HCM.out.at_ l hlo).2.symm.trans ((hat _).trans (congrArg Prod.fst hyv))
       injection h1 with h1
       injection h1
      have HCV:=hid hcv
      have HLO:=hid hlo
      have HLK:=hid hlk
      have HHAS:=hid (has_true_of_atKey hat)
      have HG1:=hid hrg1
      have HLT:=hid hlt
      have HROW1:=hid (HROW.out.kept hg1 (Or.inr (Ne.symm (row_ne_iter HROW.out HG.out))))
      have HKP1:=hid (HKEPT.out.then hg1 (fun b hb=>by injection hb with hb;rw[←hb];exact Or.inr HI.out.1))
      have HN0:=hid (Loc.new w1 (ee fc) 210)
      rw[AL] at HN0
      clear hcv hlo hlk hrg1 hlt hg1 hs1 hv hat hyv hkey HROW HKEPT
      have HWC:=hid hwc
      clear hwc
      go_upto_region 12 with fail
      refine wp_region_lit ?_
      refine uw _ _ rfl rfl rfl hen ?_
      refine mW _ (.agg (ee l)) rfl rfl rfl rfl ?_
      refine mW _ (.int .i64 c) rfl rfl rfl rfl ?_
      refine pX rfl rfl ?_
      rw[←AL] at HN0
      go_simp
      refine wpList_store_mid rfl 210 _ _ rfl w1.heap.size 0 (ee l) rfl rfl HN0.out.there Tryz.hQ (rD _) ?_
      have HY5:=hid (HN0.out.dh (new:=ee l) rfl)
      have HB5:Hid (Below w1.heap.size w1 ((w1.alloc (.cells (ee fc) 210)).setCells w1.heap.size 0 (ee l).toList)):=hid (((Below.refl w1.heap.size w1).alloc (Nat.le_refl _) (.cells (ee fc) 210)).grown (aS w1.heap.size (ee l).toList 0 _) (by simp) (fun j hj=>by injection hj with hj;omega))
      obtain⟨Y,hY⟩:∃Y,Y=w1.heap.size:=⟨_,rfl⟩
      have HYQ:Hid (Y=w1.heap.size):=hid hY
      have HYC:Hid (fA items l c 0=l):=hid (vN items c HLO.out.1)
      rw[←hY] at HY5⊢
      have HB6:=HB5
      rw[←hY] at HB6
      clear hY HN0 HB5 hen
      generalize (w1.alloc (.cells (ee fc) 210)).setCells Y 0 (ee l).toList=W5 at HY5 HB6⊢
      go_upto_region 14 with fail
      obtain⟨gO,hgO⟩:∃gO,gO=gk:=⟨_,rfl⟩
      subst hgO
      go_loopg [42] items.length (fun c2 iv w=>∃j:Nat,iv=.int .i64 (j:Int)∧j+c2=items.length∧Below Y w1 w∧Loc w Y (ee (fA items l c j)) 210)
      case atStart=>exact⟨0,rfl,by omega,HB6.out,by rw[HYC.out];exact HY5.out⟩
      case round=>
       obtain⟨j,rfl,hj,hb,hyl⟩:=hrel
       have HBJ:=hid hb
       have HYY:=hid hyl
       have HB1J:Hid (Below w1.heap.size w1 wr):=hid (by rw[←HYQ.out];exact hb)
       clear hb hyl HY5 HB6
       by_cases hjl:j<items.length
       ·have hji:(j:Int)<(items.length:Int):=by omega
        have hj6:(j:Int)<6:=by omega
        obtain⟨g,oo,rfl,hcell⟩:=bY (l:=items) mT (fun _=>rfl) (HIO.out wr (HKP1.out.below HB1J.out)) hjl
        obtain⟨z,hz⟩:∃z,items[j]=z:=⟨_,rfl⟩
        have HPY:=hid (xH items l c hjl)
        have HPN:=hid (zY items l c hjl)
        rw[hz] at hcell HPY HPN
        clear hz
        have p0:wr.cell? ⟨g,oo+j*2,none⟩=some (.string z.name):=hcell 0 (by decide)
        have p1:wr.cell? ⟨g,oo+j*2+1,none⟩=some (.string z.key):=hcell 1 (by decide)
        have hle:Y≤wr.heap.size:=by have h1:=HYQ.out;have h2:=HBJ.out.size;omega
        have HB7:=hid (HBJ.out.alloc hle (.cells #[.string z.name,.string z.key] 89))
        have HY7:=hid (HYY.out.alloc (.cells #[.string z.name,.string z.key] 89))
        clear hcell hle HBJ HYY
        go_wp2_with fail
        refine(pR z _).mono ?_
        rintro e W8 ⟨rfl,hb8⟩
        have HB8:=hid (HB7.out.trans (hb8.mono (by have h1:=HYQ.out;have h2:=HB7.out.size;omega)))
        have HY8:=hid (HY7.out.grown (af hb8 none) (by simp))
        clear hb8 p0 p1 HB7 HY7 HB1J
        cases hcn:jl z with
        | true=>
         have HE:=hid (HPY.out hcn)
         go_wp2_with fail
         refine(vS _ _).mono ?_
         rintro e W9 ⟨rfl,hb9⟩
         have HB9:=hid (HB8.out.trans (hb9.mono (by have h1:=HYQ.out;have h2:=HB8.out.size;omega)))
         have HY9:=hid (HY8.out.grown (af hb9 none) (by simp))
         clear hb9 HB8 HY8
         have r0:W9.cell? ⟨Y,j*2,none⟩=some (lB (fA items l c j) j):=(HY9.out.cell (j*2)).trans (gY (by omega)).1
         have r1:W9.cell? ⟨Y,j*2+1,none⟩=some (lN (fA items l c j) j):=(HY9.out.cell (j*2+1)).trans (gY (by omega)).2
         have f0:=HY9.out.free (j*2)
         have f1:=HY9.out.free (j*2+1)
         have HLS:=hid ((HY9.out.set (j*2) (.bool true)).set (j*2+1) (.int .i64 c))
         unfold dm
         go_wp2_with fail
         go_roundg (gk - 1)
         case rel=>
          refine⟨j+1,by simp,by omega,(HB9.out.setCell (p:=⟨Y,j*2,none⟩) (Nat.le_refl _) _).setCell (p:=⟨Y,j*2+1,none⟩) (Nat.le_refl _) _,?_⟩
          have e:=wk (yC items l c j) (show j<6 by omega) (some c)
          rw[HE.out,←e]
          exact HLS.out
         case measure=>omega
        | false=>
         have HE:=hid (HPN.out hcn)
         go_wp2_with fail
         go_roundg (gk - 1)
         case rel=>exact⟨j+1,by simp,by omega,HB8.out,by rw[HE.out];exact HY8.out⟩
         case measure=>omega
       ·have hji:¬(j:Int)<(items.length:Int):=by omega
        obtain rfl:j=items.length:=by omega
        have HPA:=hid (xQ items l c)
        rw[HPA.out] at HYY
        have HG9:=hid (HG1.out.kept (af HB1J.out none) (by simp) (by simp))
        have HROW9:=hid (HROW1.out.kept (af HB1J.out none) (by cases (Value.ownBlock _)<;>simp))
        have HKP9:=hid (HKP1.out.below HB1J.out)
        obtain⟨q,hq⟩:∃q,ir items l c=q:=⟨_,rfl⟩
        have HQ:=hid hq
        rw[hq] at HYY
        clear hq HB1J HROW1 HKP1 HG1
        have q0:=HYY.out.at_ 0 (lB q 0) rfl
        have q1:=HYY.out.at_ 1 (lN q 0) rfl
        have q2:=HYY.out.at_ 2 (lB q 1) rfl
        have q3:=HYY.out.at_ 3 (lN q 1) rfl
        have q4:=HYY.out.at_ 4 (lB q 2) rfl
        have q5:=HYY.out.at_ 5 (lN q 2) rfl
        have q6:=HYY.out.at_ 6 (lB q 3) rfl
        have q7:=HYY.out.at_ 7 (lN q 3) rfl
        have q8:=HYY.out.at_ 8 (lB q 4) rfl
        have q9:=HYY.out.at_ 9 (lN q 4) rfl
        have q10:=HYY.out.at_ 10 (lB q 5) rfl
        have q11:=HYY.out.at_ 11 (lN q 5) rfl
        have hkl:ks.length≤900002:=by have h1:=HKC.out;have h2:=HCM.out.own.size_le;omega
        go_wp2_with (at_builtin;go_must (refine wpList_append_lies _ rfl _ _ 205 rfl 0 210 i0 (.agg (ee fc)) 12 96 Tryz.underlying205 hi0 hz0 hz1 hz2 rfl (by decide) _ _ _ rfl (HROW9.out.alloc _) ⟨wr.heap.size,0,none⟩ 1 1 (fo q) rfl rfl (World.news_of_block (heap_alloc_new wr _)) (rZ q) (by omega) (by unfold maxLen;omega) (by omega) (Nat.zero_le _) _ rfl ?_);intro g2 cap2 w9 hown hgrow hlies _;have HO9:=hid hown;have HGR:=hid hgrow;have HLI:=hid hlies;clear hown hgrow hlies)
        go_roundg cnt1
        case rel=>
         have hsame:∀k:bK,sj k→(mX k).sameKey (mX l)=decide (k=l):=by
          intro k hk
          by_cases e:k=l
          ·subst e
           unfold mX
           simp[Lit.sameKey]
          ·rw[decide_eq_false e]
           exact sameKey_ne (fun h=>e (yI hk HLO.out h))
         have hnew:l ∉ ks:=fun h=>by
          have h1:=((HMEM.out l).1 h).2.2
          rw[HLK.out] at h1
          cases h1
         have hgr:(wr.alloc (.cells #[lB q 0,lN q 0,lB q 1,lN q 1,lB q 2,lN q 2,lB q 3,lN q 3,lB q 4,lN q 4,lB q 5,lN q 5] 210)).grownBy w9 u0.ownBlock:=HGR.out
         have hli:u0.ownBlock=some g2∨g2=(wr.alloc (.cells #[lB q 0,lN q 0,lB q 1,lN q 1,lB q 2,lN q 2,lB q 3,lN q 3,lB q 4,lN q 4,lB q 5,lN q 5] 210)).heap.size:=HLI.out
         have hga:=HG9.out.kept (ar wr (.cells #[lB q 0,lN q 0,lB q 1,lN q 1,lB q 2,lN q 2,lB q 3,lN q 3,lB q 4,lN q 4,lB q 5,lN q 5] 210) none) (by simp) (by simp)
         have hra:=HROW9.out.alloc (.cells #[lB q 0,lN q 0,lB q 1,lN q 1,lB q 2,lN q 2,lB q 3,lN q 3,lB q 4,lN q 4,lB q 5,lN q 5] 210)
         have hka:=HKP9.out.below ((Below.refl wr.heap.size wr).alloc (Nat.le_refl _) (.cells #[lB q 0,lN q 0,lB q 1,lN q 1,lB q 2,lN q 2,lB q 3,lN q 3,lB q 4,lN q 4,lB q 5,lN q 5] 210))
         refine⟨_,ks++[l],hga.kept hgr (A8 hga.owns hra) (row_ne_iter hra hga),?_,?_,?_,fun k=>?_,hka.then hgr (fun b hb=>HOWN.out b hb),fun b hb=>?_⟩
         ·have h1:=HLT.out
          have h2:=HKC.out
          rw[List.length_append]
          simp only[List.length_singleton]
          omega
         ·rw[List.length_append,List.map_append,List.flatMap_append]
          simp only[List.map_cons,List.map_nil,List.flatMap_cons,List.flatMap_nil,List.append_nil,List.length_singleton,HCV.out,HQ.out]
          exact HO9.out
         ·exact List.nodup_append.2 ⟨HND.out,by simp,fun a ha b hb=>by simp at hb;subst hb;exact fun e=>hnew (e▸ha)⟩
         ·rw[List.mem_append,List.mem_singleton,HMEM.out]
          constructor
          ·rintro (⟨h1,h2,h3⟩|rfl)
           ·exact⟨h1,h2,by simp[h3]⟩
           ·exact⟨HLO.out,HHAS.out,by rw[hsame _ HLO.out];simp⟩
          ·rintro ⟨h1,h2,h3⟩
           rw[hsame k h1] at h3
           by_cases e:k=l
           ·exact Or.inr e
           ·simp[e] at h3
            exact Or.inl ⟨h1,h2,h3⟩
         ·injection hb with hb
          have hb:g2=b:=hb
          rcases hli with h2|h2
          ·exact HOWN.out b (by rw[h2,hb])
          ·refine Or.inr ?_
           have h3:=hka.size
           omega
        case measure=>exact HLT.out
end
end Go.Proofs.YtobgbmfpicmpcaaGreatDoor
