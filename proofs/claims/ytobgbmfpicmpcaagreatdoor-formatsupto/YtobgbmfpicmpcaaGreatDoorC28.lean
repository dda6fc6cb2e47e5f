/- What is lent: laws on make and copy of rows of several cells; what stands in memory while a query's lists are lent. -/
import Derived.Test.YtobgbmfpicmpcaaGreatDoorC27
import Derived.Test.YtobgbmfpicmpcaaGreatDoorC11
import Derived.Laws.CopyOwn
import Derived.OwnWalk
import Derived.Test.YtobgbmfpicmpcaaGreatDoorC25
import Derived.Deep.RegionWith
import Derived.Deep.RegionHeld3
namespace Go.Proofs.YtobgbmfpicmpcaaGreatDoor
open Go Go.RowKit
theorem wpList_make_wide {P:Program} (w:World) {ops:Array Oper} {rest:List Oper} {o:Oper} {a:Act} {Q:Exit→Act→World→Prop}
  (hg:o.guard=none) (l c:Operand) (t:TypeId) (hop:o.op=Op.makeSlice t l c)
  (e:TypeId) (i:TypeInfo) (z:Value) (size:Nat) (h1:P.underlying t=some (.slice e)) (h2:P.info? e=some i) (h3:i.zero=some z) (h4:i.size=size)
  (kl kc:IntKind) (L C:Int) (n:Nat) (hl:a.eval l=.int kl L) (hc:a.eval c=.int kc C) (hL:L=(n:Int)) (hC:C=(n:Int)) (b2:i.bytes*n≤281474976710656) (b3:n≤9223372036854775807)
  (hK:wpList P ops Q rest (a.put o.dst (.slice (some ⟨w.heap.size,0,none⟩) n n)) (w.alloc (.cells (madeCells z.cells (n*size)) e))):
  wpList P ops Q (o::rest) a w:=by
 refine wpList_plain hg fun K hK'=>?_
 have hb':(i.bytes:Int)*(n:Int)≤281474976710656:=by
  have h:((i.bytes*n:Nat):Int)≤281474976710656:=by omega
  rwa [Int.natCast_mul] at h
 have hr:=run_make (P:=P) w t e i z h1 h2 h3 kl kc n n (by omega) (Int.le_refl _) hb' (by omega)
 simp only[Int.toNat_natCast,h4] at hr
 subst hL
 subst hC
 unfold Oper.wp
 simp[execOp,hop,hl,hc,hr,Result.andThen]
 exact hK' _ _ hK
theorem run_copy_wide {P:Program} (w:World) (dT sT ty elem:TypeId) (k n m dCap sCap g:Nat) (sp:Option Addr) (cur:Array Value) (t:TypeId) (cs:List Value)
  (hu:P.underlying dT=some (.slice elem)) (hs:(P.info? elem).map (·.size)=some k) (hg:w.heap[g]?=some (.cells cur t (0,0))) (hn:cs.length=n*k) (hnm:n≤m)
  (hsrc:0<n→∃gg oo,sp=some ⟨gg,oo,none⟩∧∀j v,cs[j]?=some v→w.cell? ⟨gg,oo+j,none⟩=some v) (hfit:cs.length≤cur.size) (h1:∀v∈cs,v.oneCell'=true):
  (Builtin.copy_ #[dT,sT] ty #[.slice (some ⟨g,0,none⟩) m dCap,.slice sp n sCap]).run P w=.ok (goInt n) (w.setRow g (cs++cur.toList.drop cs.length).toArray):=by
 have hmin:Nat.min n m=n:=Nat.min_eq_left hnm
 have hst:=run_storeCells_at P g 0 t cs 0 cur w hg (by simpa using hfit) h1
 simp only[Nat.zero_add,List.take_zero,List.nil_append] at hst
 cases hq:P.info? elem with
 | none=>simp[hq] at hs
 | some i=>
  have hi:i.size=k:=by simpa [hq] using hs
  by_cases h0:n=0
  ·subst h0
   have hcs:cs=[]:=List.eq_nil_of_length_eq_zero (by simpa using hn)
   subst hcs
   simp only[List.length_nil,List.drop_zero,List.nil_append,Array.toArray_toList] at hst⊢
   have hl:∀(x:Addr),(loadCells x 0).run P w=.ok #[] w:=fun x=>by simpa using run_loadCells_list (P:=P) w x [] (by simp)
   cases sp<;>simp[Builtin.copy_,run_underlying hu,Builtin.lenOf,Builtin.firstCells,sizeOf,typeInfo,hq,hst,hl]
  ·obtain⟨gg,oo,rfl,hx⟩:=hsrc (by omega)
   have hl:=run_loadCells_list (P:=P) w ⟨gg,oo,none⟩ cs (fun j v hv=>by
    have:(⟨gg,oo,none⟩:Addr).add j=⟨gg,oo+j,none⟩:=by unfold Addr.add;split<;>simp_all
    rw[this];exact hx j v hv)
   rw[hn] at hl
   simp[Builtin.copy_,run_underlying hu,Builtin.lenOf,Builtin.firstCells,sizeOf,typeInfo,hq,hi,hmin,hl,hst]
theorem wpList_copy_wide {P:Program} {w:World} {ops:Array Oper} {rest:List Oper} {o:Oper} {a:Act} {Q:Exit→Act→World→Prop} (hgd:o.guard=none) (d s:Operand) (dT sT:TypeId)
  (ho:o.op=.call {callee:=.builtin .copy,args:=#[d,s],argTypes:=#[dT,sT]}) (elem:TypeId) (k n m dCap sCap g:Nat) (sp:Option Addr) (hd:a.eval d=.slice (some ⟨g,0,none⟩) m dCap) (hx:a.eval s=.slice sp n sCap) (cur:Array Value) (t:TypeId) (cs:List Value)
  (hu:P.underlying dT=some (.slice elem)) (hs:(P.info? elem).map (·.size)=some k) (hg:w.heap[g]?=some (.cells cur t (0,0))) (hn:cs.length=n*k) (hnm:n≤m)
  (hsrc:0<n→∃gg oo,sp=some ⟨gg,oo,none⟩∧∀j v,cs[j]?=some v→w.cell? ⟨gg,oo+j,none⟩=some v) (hfit:cs.length≤cur.size) (h1:∀v∈cs,v.oneCell'=true)
  (h:wpList P ops Q rest (a.put o.dst (goInt n)) (w.setRow g (cs++cur.toList.drop cs.length).toArray)):wpList P ops Q (o::rest) a w:=by
 refine wpList_plain hgd fun K hK=>?_
 have hrun:=run_copy_wide (P:=P) w dT sT o.type elem k n m dCap sCap g sp cur t cs hu hs hg hn hnm hsrc hfit h1
 unfold Oper.wp
 simp[execOp,ho,resolve,invoke,builtin,hd,hx,hrun,Result.andThen]
 exact hK _ _ h
theorem loc_ne {w:World} {a b:Nat} {c d:Array Value} {T T':TypeId} (h1:Loc w a c T) (h2:Loc w b d T') (hT:T≠T'):a≠b:=by
 intro e
 unfold Loc at h1 h2
 rw[e,h2] at h1
 simp only[Option.some.injEq,Obj.cells.injEq] at h1
 exact hT h1.2.1.symm
theorem Loc.made {w:World} {b:Nat} {cs:Array Value} {T:TypeId} (h:Loc w b cs T) (o:Obj) (d:Array Value):Loc ((w.alloc o).setRow w.heap.size d) b cs T:=by
 have hl:=h.lt
 have h2:=h.alloc o
 unfold Loc at h2⊢
 rw[setRow_other _ _ _ _ (by omega)]
 exact h2
theorem Loc.madeNew (w:World) (c d:Array Value) (T:TypeId):Loc ((w.alloc (.cells c T)).setRow w.heap.size d) w.heap.size d T:=by
 have h:=Loc.new w c T
 unfold Loc at h⊢
 exact setRow_heap _ _ _ _ _ _ h
theorem below_made {B:Nat} {W w:World} (h:Below B W w) (hB:B≤w.heap.size) (o:Obj) (d:Array Value):Below B W ((w.alloc o).setRow w.heap.size d):=
 below_setRow (h.alloc hB o) hB d
def RowK (x l mk:List Value) (n k sz:Nat):Prop:=x.length=(n+2)*sz∧x.take ((n+k)*sz)=l++(List.replicate k mk).flatten
theorem RowK.start {l c:List Value} {mk:List Value} {n sz:Nat} (hl:l.length=n*sz) (hc:c.length=(n+2)*sz):RowK (l++c.drop l.length) l mk n 0 sz:=by
 have:n*sz≤(n+2)*sz:=Nat.mul_le_mul_right sz (by omega)
 constructor
 ·rw[List.length_append,List.length_drop];omega
 ·simp[←hl]
theorem RowK.next {x l mk:List Value} {n k sz:Nat} (h:RowK x l mk n k sz) (hm:mk.length=sz) (hk:k<2):RowK (x.take ((n+k)*sz)++mk++x.drop ((n+k)*sz+mk.length)) l mk n (k+1) sz:=by
 have h1:(n+k)*sz+sz≤(n+2)*sz:=by
  have:(n+k+1)*sz≤(n+2)*sz:=Nat.mul_le_mul_right sz (by omega)
  rw[Nat.add_mul _ 1,Nat.one_mul] at this
  omega
 obtain⟨hl,ht⟩:=h
 have e:(n+(k+1))*sz=(n+k)*sz+sz:=by rw[←Nat.add_assoc,Nat.add_mul _ 1,Nat.one_mul]
 constructor
 ·simp only[List.length_append,List.length_take,List.length_drop];omega
 ·have e2:(x.take ((n+k)*sz)++mk).length=(n+(k+1))*sz:=by rw[List.length_append,List.length_take];omega
  rw[←e2,List.take_left,ht,List.replicate_succ',List.flatten_append]
  simp
theorem RowK.done {x l mk:List Value} {n sz:Nat} (h:RowK x l mk n 2 sz):x=l++(mk++mk):=by
 have h2:=h.2
 rw[List.take_of_length_le (by rw[h.1];exact Nat.le_refl _)] at h2
 rw[h2]
 simp[List.replicate]
structure L4 (W:World) (X R S O G1 G2 G3 G4:Nat) (qx:Array Value) (o1 o2 o3 o4:Value) (j1 j2 j3 j4:Nat) (u1 u2 u3 u4:List Value) (x1 x2 x3 x4:List Value) (w:World):Prop where
 low:Below W.heap.size W w
 lx:Loc w X qx 29
 lr:Loc w R zq 29
 ls:Loc w S #[.slice none 0 0,.slice none 0 0,.slice none 0 0,.slice none 0 0] 39
 lo:Loc w O #[o1,o2,o3,o4] 39
 bx:W.heap.size≤X
 br:W.heap.size≤R
 bs:W.heap.size≤S
 bo:W.heap.size≤O
 ne:S≠O
 r1:Loc w G1 x1.toArray 85
 b1:W.heap.size≤G1
 l1:w.ownsRow W.heap.size 22 1 o1 j1 u1
 r2:Loc w G2 x2.toArray 87
 b2:W.heap.size≤G2
 l2:w.ownsRow W.heap.size 23 1 o2 j2 u2
 r3:Loc w G3 x3.toArray 89
 b3:W.heap.size≤G3
 l3:w.ownsRow W.heap.size 24 1 o3 j3 u3
 r4:Loc w G4 x4.toArray 91
 b4:W.heap.size≤G4
 l4:w.ownsRow W.heap.size 27 1 o4 j4 u4
variable {W w w2:World} {X R S O G1 G2 G3 G4 j1 j2 j3 j4:Nat} {qx:Array Value} {o1 o2 o3 o4:Value} {x1 x2 x3 x4 u1 u2 u3 u4:List Value}
theorem L4.quiet (h:L4 W X R S O G1 G2 G3 G4 qx o1 o2 o3 o4 j1 j2 j3 j4 u1 u2 u3 u4 x1 x2 x3 x4 w) (g:w.grownBy w2 none):L4 W X R S O G1 G2 G3 G4 qx o1 o2 o3 o4 j1 j2 j3 j4 u1 u2 u3 u4 x1 x2 x3 x4 w2:=
 ⟨below_grown h.low (Nat.le_refl _) g (fun x e=>by cases e),h.lx.grown g (by simp),h.lr.grown g (by simp),h.ls.grown g (by simp),h.lo.grown g (by simp),h.bx,h.br,h.bs,h.bo,h.ne,h.r1.grown g (by simp),h.b1,kept_none h.l1 g,h.r2.grown g (by simp),h.b2,kept_none h.l2 g,h.r3.grown g (by simp),h.b3,kept_none h.l3 g,h.r4.grown g (by simp),h.b4,kept_none h.l4 g⟩
theorem L4.later (h:L4 W X R S O G1 G2 G3 G4 qx o1 o2 o3 o4 j1 j2 j3 j4 u1 u2 u3 u4 x1 x2 x3 x4 w) (hb:Below w.heap.size w w2):L4 W X R S O G1 G2 G3 G4 qx o1 o2 o3 o4 j1 j2 j3 j4 u1 u2 u3 u4 x1 x2 x3 x4 w2:=h.quiet (grown_below hb none)
theorem L4.alloc (h:L4 W X R S O G1 G2 G3 G4 qx o1 o2 o3 o4 j1 j2 j3 j4 u1 u2 u3 u4 x1 x2 x3 x4 w) (o:Obj):L4 W X R S O G1 G2 G3 G4 qx o1 o2 o3 o4 j1 j2 j3 j4 u1 u2 u3 u4 x1 x2 x3 x4 (w.alloc o):=h.quiet (grown_alloc w o none)
theorem L4.drew (h:L4 W X R S O G1 G2 G3 G4 qx o1 o2 o3 o4 j1 j2 j3 j4 u1 u2 u3 u4 x1 x2 x3 x4 w) (n:Nat):L4 W X R S O G1 G2 G3 G4 qx o1 o2 o3 o4 j1 j2 j3 j4 u1 u2 u3 u4 x1 x2 x3 x4 (w.drewN n):=h.quiet (grown_drew w n none)
theorem some_ne {a b:Nat} (h:a≠b):some a≠some b:=fun e=>h (by injection e)
theorem L4.fill1 (h:L4 W X R S O G1 G2 G3 G4 qx o1 o2 o3 o4 j1 j2 j3 j4 u1 u2 u3 u4 x1 x2 x3 x4 w) (p:Nat) (mk:List Value) (hp:p+mk.length≤x1.length):L4 W X R S O G1 G2 G3 G4 qx o1 o2 o3 o4 j1 j2 j3 j4 u1 u2 u3 u4 (x1.take p++mk++x1.drop (p+mk.length)) x2 x3 x4 (w.setCells G1 p mk):=by
 have g:=grown_setMany G1 mk p w
 have hr:=Loc.setMany mk p w _ h.r1 (by simpa using hp)
 exact⟨below_grown h.low (Nat.le_refl _) g (fun x e=>by injection e with e;rw[←e];exact h.b1),h.lx.grown g (some_ne (loc_ne h.lx h.r1 (by decide))),h.lr.grown g (some_ne (loc_ne h.lr h.r1 (by decide))),h.ls.grown g (some_ne (loc_ne h.ls h.r1 (by decide))),h.lo.grown g (some_ne (loc_ne h.lo h.r1 (by decide))),h.bx,h.br,h.bs,h.bo,h.ne,hr,h.b1,h.l1.kept g (Or.inr (row_loc h.l1 h.r1 (by decide))),h.r2.grown g (some_ne (loc_ne h.r2 h.r1 (by decide))),h.b2,h.l2.kept g (Or.inr (row_loc h.l2 h.r1 (by decide))),h.r3.grown g (some_ne (loc_ne h.r3 h.r1 (by decide))),h.b3,h.l3.kept g (Or.inr (row_loc h.l3 h.r1 (by decide))),h.r4.grown g (some_ne (loc_ne h.r4 h.r1 (by decide))),h.b4,h.l4.kept g (Or.inr (row_loc h.l4 h.r1 (by decide)))⟩
theorem L4.list1 {v v2:Value} (h:L4 W X R S O G1 G2 G3 G4 qx (.slice none 0 0) o2 o3 o4 0 j2 j3 j4 [] u2 u3 u4 x1 x2 x3 x4 w) (g:w.grownBy w2 none) (ho:w2.ownsRow W.heap.size 22 1 v2 1 [v]):L4 W X R S O G1 G2 G3 G4 qx v2 o2 o3 o4 1 j2 j3 j4 [v] u2 u3 u4 x1 x2 x3 x4 (w2.setCell ⟨O,0,none⟩ v2):=by
 have h2:=h.quiet g
 have g2:=grown_set w2 O 0 v2
 exact⟨below_grown h2.low (Nat.le_refl _) g2 (fun x e=>by injection e with e;rw[←e];exact h.bo),h2.lx.setOther (loc_ne h2.lx h2.lo (by decide)) _ _,h2.lr.setOther (loc_ne h2.lr h2.lo (by decide)) _ _,h2.ls.setOther h.ne _ _,h2.lo.set 0 v2,h.bx,h.br,h.bs,h.bo,h.ne,h2.r1.setOther (loc_ne h2.r1 h2.lo (by decide)) _ _,h.b1,ho.kept g2 (Or.inr (row_loc ho h2.lo (by decide))),h2.r2.setOther (loc_ne h2.r2 h2.lo (by decide)) _ _,h.b2,h2.l2.kept g2 (Or.inr (row_loc h2.l2 h2.lo (by decide))),h2.r3.setOther (loc_ne h2.r3 h2.lo (by decide)) _ _,h.b3,h2.l3.kept g2 (Or.inr (row_loc h2.l3 h2.lo (by decide))),h2.r4.setOther (loc_ne h2.r4 h2.lo (by decide)) _ _,h.b4,h2.l4.kept g2 (Or.inr (row_loc h2.l4 h2.lo (by decide)))⟩
theorem L4.fill2 (h:L4 W X R S O G1 G2 G3 G4 qx o1 o2 o3 o4 j1 j2 j3 j4 u1 u2 u3 u4 x1 x2 x3 x4 w) (p:Nat) (mk:List Value) (hp:p+mk.length≤x2.length):L4 W X R S O G1 G2 G3 G4 qx o1 o2 o3 o4 j1 j2 j3 j4 u1 u2 u3 u4 x1 (x2.take p++mk++x2.drop (p+mk.length)) x3 x4 (w.setCells G2 p mk):=by
 have g:=grown_setMany G2 mk p w
 have hr:=Loc.setMany mk p w _ h.r2 (by simpa using hp)
 exact⟨below_grown h.low (Nat.le_refl _) g (fun x e=>by injection e with e;rw[←e];exact h.b2),h.lx.grown g (some_ne (loc_ne h.lx h.r2 (by decide))),h.lr.grown g (some_ne (loc_ne h.lr h.r2 (by decide))),h.ls.grown g (some_ne (loc_ne h.ls h.r2 (by decide))),h.lo.grown g (some_ne (loc_ne h.lo h.r2 (by decide))),h.bx,h.br,h.bs,h.bo,h.ne,h.r1.grown g (some_ne (loc_ne h.r1 h.r2 (by decide))),h.b1,h.l1.kept g (Or.inr (row_loc h.l1 h.r2 (by decide))),hr,h.b2,h.l2.kept g (Or.inr (row_loc h.l2 h.r2 (by decide))),h.r3.grown g (some_ne (loc_ne h.r3 h.r2 (by decide))),h.b3,h.l3.kept g (Or.inr (row_loc h.l3 h.r2 (by decide))),h.r4.grown g (some_ne (loc_ne h.r4 h.r2 (by decide))),h.b4,h.l4.kept g (Or.inr (row_loc h.l4 h.r2 (by decide)))⟩
theorem L4.list2 {v v2:Value} (h:L4 W X R S O G1 G2 G3 G4 qx o1 (.slice none 0 0) o3 o4 j1 0 j3 j4 u1 [] u3 u4 x1 x2 x3 x4 w) (g:w.grownBy w2 none) (ho:w2.ownsRow W.heap.size 23 1 v2 1 [v]):L4 W X R S O G1 G2 G3 G4 qx o1 v2 o3 o4 j1 1 j3 j4 u1 [v] u3 u4 x1 x2 x3 x4 (w2.setCell ⟨O,1,none⟩ v2):=by
 have h2:=h.quiet g
 have g2:=grown_set w2 O 1 v2
 exact⟨below_grown h2.low (Nat.le_refl _) g2 (fun x e=>by injection e with e;rw[←e];exact h.bo),h2.lx.setOther (loc_ne h2.lx h2.lo (by decide)) _ _,h2.lr.setOther (loc_ne h2.lr h2.lo (by decide)) _ _,h2.ls.setOther h.ne _ _,h2.lo.set 1 v2,h.bx,h.br,h.bs,h.bo,h.ne,h2.r1.setOther (loc_ne h2.r1 h2.lo (by decide)) _ _,h.b1,h2.l1.kept g2 (Or.inr (row_loc h2.l1 h2.lo (by decide))),h2.r2.setOther (loc_ne h2.r2 h2.lo (by decide)) _ _,h.b2,ho.kept g2 (Or.inr (row_loc ho h2.lo (by decide))),h2.r3.setOther (loc_ne h2.r3 h2.lo (by decide)) _ _,h.b3,h2.l3.kept g2 (Or.inr (row_loc h2.l3 h2.lo (by decide))),h2.r4.setOther (loc_ne h2.r4 h2.lo (by decide)) _ _,h.b4,h2.l4.kept g2 (Or.inr (row_loc h2.l4 h2.lo (by decide)))⟩
theorem L4.fill3 (h:L4 W X R S O G1 G2 G3 G4 qx o1 o2 o3 o4 j1 j2 j3 j4 u1 u2 u3 u4 x1 x2 x3 x4 w) (p:Nat) (mk:List Value) (hp:p+mk.length≤x3.length):L4 W X R S O G1 G2 G3 G4 qx o1 o2 o3 o4 j1 j2 j3 j4 u1 u2 u3 u4 x1 x2 (x3.take p++mk++x3.drop (p+mk.length)) x4 (w.setCells G3 p mk):=by
 have g:=grown_setMany G3 mk p w
 have hr:=Loc.setMany mk p w _ h.r3 (by simpa using hp)
 exact⟨below_grown h.low (Nat.le_refl _) g (fun x e=>by injection e with e;rw[←e];exact h.b3),h.lx.grown g (some_ne (loc_ne h.lx h.r3 (by decide))),h.lr.grown g (some_ne (loc_ne h.lr h.r3 (by decide))),h.ls.grown g (some_ne (loc_ne h.ls h.r3 (by decide))),h.lo.grown g (some_ne (loc_ne h.lo h.r3 (by decide))),h.bx,h.br,h.bs,h.bo,h.ne,h.r1.grown g (some_ne (loc_ne h.r1 h.r3 (by decide))),h.b1,h.l1.kept g (Or.inr (row_loc h.l1 h.r3 (by decide))),h.r2.grown g (some_ne (loc_ne h.r2 h.r3 (by decide))),h.b2,h.l2.kept g (Or.inr (row_loc h.l2 h.r3 (by decide))),hr,h.b3,h.l3.kept g (Or.inr (row_loc h.l3 h.r3 (by decide))),h.r4.grown g (some_ne (loc_ne h.r4 h.r3 (by decide))),h.b4,h.l4.kept g (Or.inr (row_loc h.l4 h.r3 (by decide)))⟩
theorem L4.list3 {v v2:Value} (h:L4 W X R S O G1 G2 G3 G4 qx o1 o2 (.slice none 0 0) o4 j1 j2 0 j4 u1 u2 [] u4 x1 x2 x3 x4 w) (g:w.grownBy w2 none) (ho:w2.ownsRow W.heap.size 24 1 v2 1 [v]):L4 W X R S O G1 G2 G3 G4 qx o1 o2 v2 o4 j1 j2 1 j4 u1 u2 [v] u4 x1 x2 x3 x4 (w2.setCell ⟨O,2,none⟩ v2):=by
 have h2:=h.quiet g
 have g2:=grown_set w2 O 2 v2
 exact⟨below_grown h2.low (Nat.le_refl _) g2 (fun x e=>by injection e with e;rw[←e];exact h.bo),h2.lx.setOther (loc_ne h2.lx h2.lo (by decide)) _ _,h2.lr.setOther (loc_ne h2.lr h2.lo (by decide)) _ _,h2.ls.setOther h.ne _ _,h2.lo.set 2 v2,h.bx,h.br,h.bs,h.bo,h.ne,h2.r1.setOther (loc_ne h2.r1 h2.lo (by decide)) _ _,h.b1,h2.l1.kept g2 (Or.inr (row_loc h2.l1 h2.lo (by decide))),h2.r2.setOther (loc_ne h2.r2 h2.lo (by decide)) _ _,h.b2,h2.l2.kept g2 (Or.inr (row_loc h2.l2 h2.lo (by decide))),h2.r3.setOther (loc_ne h2.r3 h2.lo (by decide)) _ _,h.b3,ho.kept g2 (Or.inr (row_loc ho h2.lo (by decide))),h2.r4.setOther (loc_ne h2.r4 h2.lo (by decide)) _ _,h.b4,h2.l4.kept g2 (Or.inr (row_loc h2.l4 h2.lo (by decide)))⟩
theorem L4.fill4 (h:L4 W X R S O G1 G2 G3 G4 qx o1 o2 o3 o4 j1 j2 j3 j4 u1 u2 u3 u4 x1 x2 x3 x4 w) (p:Nat) (mk:List Value) (hp:p+mk.length≤x4.length):L4 W X R S O G1 G2 G3 G4 qx o1 o2 o3 o4 j1 j2 j3 j4 u1 u2 u3 u4 x1 x2 x3 (x4.take p++mk++x4.drop (p+mk.length)) (w.setCells G4 p mk):=by
 have g:=grown_setMany G4 mk p w
 have hr:=Loc.setMany mk p w _ h.r4 (by simpa using hp)
 exact⟨below_grown h.low (Nat.le_refl _) g (fun x e=>by injection e with e;rw[←e];exact h.b4),h.lx.grown g (some_ne (loc_ne h.lx h.r4 (by decide))),h.lr.grown g (some_ne (loc_ne h.lr h.r4 (by decide))),h.ls.grown g (some_ne (loc_ne h.ls h.r4 (by decide))),h.lo.grown g (some_ne (loc_ne h.lo h.r4 (by decide))),h.bx,h.br,h.bs,h.bo,h.ne,h.r1.grown g (some_ne (loc_ne h.r1 h.r4 (by decide))),h.b1,h.l1.kept g (Or.inr (row_loc h.l1 h.r4 (by decide))),h.r2.grown g (some_ne (loc_ne h.r2 h.r4 (by decide))),h.b2,h.l2.kept g (Or.inr (row_loc h.l2 h.r4 (by decide))),h.r3.grown g (some_ne (loc_ne h.r3 h.r4 (by decide))),h.b3,h.l3.kept g (Or.inr (row_loc h.l3 h.r4 (by decide))),hr,h.b4,h.l4.kept g (Or.inr (row_loc h.l4 h.r4 (by decide)))⟩
theorem L4.list4 {v v2:Value} (h:L4 W X R S O G1 G2 G3 G4 qx o1 o2 o3 (.slice none 0 0) j1 j2 j3 0 u1 u2 u3 [] x1 x2 x3 x4 w) (g:w.grownBy w2 none) (ho:w2.ownsRow W.heap.size 27 1 v2 1 [v]):L4 W X R S O G1 G2 G3 G4 qx o1 o2 o3 v2 j1 j2 j3 1 u1 u2 u3 [v] x1 x2 x3 x4 (w2.setCell ⟨O,3,none⟩ v2):=by
 have h2:=h.quiet g
 have g2:=grown_set w2 O 3 v2
 exact⟨below_grown h2.low (Nat.le_refl _) g2 (fun x e=>by injection e with e;rw[←e];exact h.bo),h2.lx.setOther (loc_ne h2.lx h2.lo (by decide)) _ _,h2.lr.setOther (loc_ne h2.lr h2.lo (by decide)) _ _,h2.ls.setOther h.ne _ _,h2.lo.set 3 v2,h.bx,h.br,h.bs,h.bo,h.ne,h2.r1.setOther (loc_ne h2.r1 h2.lo (by decide)) _ _,h.b1,h2.l1.kept g2 (Or.inr (row_loc h2.l1 h2.lo (by decide))),h2.r2.setOther (loc_ne h2.r2 h2.lo (by decide)) _ _,h.b2,h2.l2.kept g2 (Or.inr (row_loc h2.l2 h2.lo (by decide))),h2.r3.setOther (loc_ne h2.r3 h2.lo (by decide)) _ _,h.b3,h2.l3.kept g2 (Or.inr (row_loc h2.l3 h2.lo (by decide))),h2.r4.setOther (loc_ne h2.r4 h2.lo (by decide)) _ _,h.b4,ho.kept g2 (Or.inr (row_loc ho h2.lo (by decide)))⟩
end Go.Proofs.YtobgbmfpicmpcaaGreatDoor

/- The law's lent: a query whose lists are handed in each with two places of spare room, which have marks. -/
namespace Go.Proofs.YtobgbmfpicmpcaaGreatDoor
open Go Go.RowKit
def lS:List Value:=[.string ⟨#[111,119,110]⟩,.string ⟨#[]⟩,.string ⟨#[]⟩,.int .i64 77,.int .i64 0]
def lC:List Value:=[.int .i64 77,.string ⟨#[]⟩,.string ⟨#[]⟩,.int .i64 0,.string ⟨#[]⟩,.string ⟨#[]⟩,.int .i64 0]
def lI:List Value:=[.string ⟨#[111,119,110]⟩,.string ⟨#[77]⟩]
def lP:List Value:=[.string ⟨#[111,119,110]⟩,.int .i64 77]
theorem cells_one {l:List PSpot}:∀v∈spotCells l,v.oneCell'=true:=by
 intro v hv
 simp only[spotCells,List.mem_flatMap] at hv
 obtain⟨x,_,hv⟩:=hv
 simp only[List.mem_cons,List.not_mem_nil,or_false] at hv
 rcases hv with rfl|rfl|rfl|rfl|rfl<;>rfl
theorem cells_one2 {l:List PCond}:∀v∈condCells l,v.oneCell'=true:=by
 intro v hv
 simp only[condCells,List.mem_flatMap] at hv
 obtain⟨x,_,hv⟩:=hv
 simp only[List.mem_cons,List.not_mem_nil,or_false] at hv
 rcases hv with rfl|rfl|rfl|rfl|rfl|rfl|rfl<;>rfl
theorem cells_one3 {l:List PItem}:∀v∈itemCells l,v.oneCell'=true:=by
 intro v hv
 simp only[itemCells,List.mem_flatMap] at hv
 obtain⟨x,_,hv⟩:=hv
 simp only[List.mem_cons,List.not_mem_nil,or_false] at hv
 rcases hv with rfl|rfl<;>rfl
theorem cells_one4 {l:List PPair}:∀v∈pairCells l,v.oneCell'=true:=by
 intro v hv
 simp only[pairCells,List.mem_flatMap] at hv
 obtain⟨x,_,hv⟩:=hv
 simp only[List.mem_cons,List.not_mem_nil,or_false] at hv
 rcases hv with rfl|rfl<;>rfl
theorem sees_src {w w2:World} {k n cap:Nat} {ao:Option Addr} {xs:List Value} (h:Sees w k (.slice ao n cap) n xs) (hb:Below w.heap.size w w2):0<n→∃gg oo,ao=some ⟨gg,oo,none⟩∧∀j v,xs[j]?=some v→w2.cell? ⟨gg,oo+j,none⟩=some v:=by
 intro hn
 obtain⟨_,ao',cap',e,_,hs⟩:=h.below hb
 injection e with e1 e2 e3
 subst e1
 exact hs hn
structure L0 (W:World) (X R S O:Nat) (qx:Array Value) (w:World):Prop where
 low:Below W.heap.size W w
 lx:Loc w X qx 29
 lr:Loc w R zq 29
 ls:Loc w S #[.slice none 0 0,.slice none 0 0,.slice none 0 0,.slice none 0 0] 39
 lo:Loc w O #[.slice none 0 0,.slice none 0 0,.slice none 0 0,.slice none 0 0] 39
theorem L0.made {W:World} {X R S O:Nat} {qx:Array Value} {w:World} (h:L0 W X R S O qx w) (ob:Obj) (d:Array Value):L0 W X R S O qx ((w.alloc ob).setRow w.heap.size d):=
 ⟨below_made h.low h.low.size ob d,h.lx.made ob d,h.lr.made ob d,h.ls.made ob d,h.lo.made ob d⟩
structure Lends (W:World) (q:PQuery) (n1 n2 n3 n4:Nat) (G1 G2 G3 G4:Nat) (o1 o2 o3 o4:Value) (w:World):Prop where
 low:Below W.heap.size W w
 r1:Loc w G1 (spotCells q.spots++(lS++lS)).toArray 85
 l1:w.ownsRow W.heap.size 22 1 o1 1 [.slice (some ⟨G1,0,none⟩) (n1+2) (n1+2)]
 b1:W.heap.size≤G1
 r2:Loc w G2 (condCells q.conds++(lC++lC)).toArray 87
 l2:w.ownsRow W.heap.size 23 1 o2 1 [.slice (some ⟨G2,0,none⟩) (n2+2) (n2+2)]
 b2:W.heap.size≤G2
 r3:Loc w G3 (itemCells q.items++(lI++lI)).toArray 89
 l3:w.ownsRow W.heap.size 24 1 o3 1 [.slice (some ⟨G3,0,none⟩) (n3+2) (n3+2)]
 b3:W.heap.size≤G3
 r4:Loc w G4 (pairCells q.pairs++(lP++lP)).toArray 91
 l4:w.ownsRow W.heap.size 27 1 o4 1 [.slice (some ⟨G4,0,none⟩) (n4+2) (n4+2)]
 b4:W.heap.size≤G4
variable {W w w2:World} {q:PQuery} {n1 n2 n3 n4 G1 G2 G3 G4:Nat} {o1 o2 o3 o4:Value}
theorem Lends.quiet (h:Lends W q n1 n2 n3 n4 G1 G2 G3 G4 o1 o2 o3 o4 w) (g:w.grownBy w2 none):Lends W q n1 n2 n3 n4 G1 G2 G3 G4 o1 o2 o3 o4 w2:=
 ⟨below_grown h.low (Nat.le_refl _) g (fun x e=>by cases e),h.r1.grown g (by simp),kept_none h.l1 g,h.b1,h.r2.grown g (by simp),kept_none h.l2 g,h.b2,h.r3.grown g (by simp),kept_none h.l3 g,h.b3,h.r4.grown g (by simp),kept_none h.l4 g,h.b4⟩
theorem Lends.byQ {b:Nat} {c:Array Value} (h:Lends W q n1 n2 n3 n4 G1 G2 G3 G4 o1 o2 o3 o4 w) (hl:Loc w b c 29) (hb:W.heap.size≤b) (g:w.grownBy w2 (some b)):Lends W q n1 n2 n3 n4 G1 G2 G3 G4 o1 o2 o3 o4 w2:=
 ⟨below_grown h.low (Nat.le_refl _) g (fun x e=>by injection e with e;rw[←e];exact hb),h.r1.grown g (some_ne (loc_ne h.r1 hl (by decide))),h.l1.kept g (Or.inr (row_loc h.l1 hl (by decide))),h.b1,h.r2.grown g (some_ne (loc_ne h.r2 hl (by decide))),h.l2.kept g (Or.inr (row_loc h.l2 hl (by decide))),h.b2,h.r3.grown g (some_ne (loc_ne h.r3 hl (by decide))),h.l3.kept g (Or.inr (row_loc h.l3 hl (by decide))),h.b3,h.r4.grown g (some_ne (loc_ne h.r4 hl (by decide))),h.l4.kept g (Or.inr (row_loc h.l4 hl (by decide))),h.b4⟩
theorem Lends.byO {b:Nat} {c:Array Value} (h:Lends W q n1 n2 n3 n4 G1 G2 G3 G4 o1 o2 o3 o4 w) (hl:Loc w b c 39) (hb:W.heap.size≤b) (g:w.grownBy w2 (some b)):Lends W q n1 n2 n3 n4 G1 G2 G3 G4 o1 o2 o3 o4 w2:=
 ⟨below_grown h.low (Nat.le_refl _) g (fun x e=>by injection e with e;rw[←e];exact hb),h.r1.grown g (some_ne (loc_ne h.r1 hl (by decide))),h.l1.kept g (Or.inr (row_loc h.l1 hl (by decide))),h.b1,h.r2.grown g (some_ne (loc_ne h.r2 hl (by decide))),h.l2.kept g (Or.inr (row_loc h.l2 hl (by decide))),h.b2,h.r3.grown g (some_ne (loc_ne h.r3 hl (by decide))),h.l3.kept g (Or.inr (row_loc h.l3 hl (by decide))),h.b3,h.r4.grown g (some_ne (loc_ne h.r4 hl (by decide))),h.l4.kept g (Or.inr (row_loc h.l4 hl (by decide))),h.b4⟩
structure L5 (W:World) (q:PQuery) (n1 n2 n3 n4 G1 G2 G3 G4:Nat) (o1 o2 o3 o4:Value) (X R S O Y:Nat) (qx cr cs cy:Array Value) (w:World):Prop where
 le:Lends W q n1 n2 n3 n4 G1 G2 G3 G4 o1 o2 o3 o4 w
 lx:Loc w X qx 29
 lr:Loc w R cr 29
 ls:Loc w S cs 39
 lo:Loc w O #[o1,o2,o3,o4] 39
 ly:Loc w Y cy 29
 bd:W.heap.size≤R∧W.heap.size≤S∧W.heap.size≤Y∧S≠O∧Y≠X∧Y≠R
variable {X R S O Y:Nat} {qx cr cs cy:Array Value}
theorem L5.setY (h:L5 W q n1 n2 n3 n4 G1 G2 G3 G4 o1 o2 o3 o4 X R S O Y qx cr cs cy w) (j:Nat) (v:Value):L5 W q n1 n2 n3 n4 G1 G2 G3 G4 o1 o2 o3 o4 X R S O Y qx cr cs (cy.setIfInBounds j v) (w.setCell ⟨Y,j,none⟩ v):=
 ⟨h.le.byQ h.ly h.bd.2.2.1 (grown_set w Y j v),h.lx.setOther h.bd.2.2.2.2.1.symm j v,h.lr.setOther h.bd.2.2.2.2.2.symm j v,h.ls.setOther (loc_ne h.ls h.ly (by decide)) j v,h.lo.setOther (loc_ne h.lo h.ly (by decide)) j v,h.ly.set j v,h.bd⟩
theorem L5.drew (h:L5 W q n1 n2 n3 n4 G1 G2 G3 G4 o1 o2 o3 o4 X R S O Y qx cr cs cy w):L5 W q n1 n2 n3 n4 G1 G2 G3 G4 o1 o2 o3 o4 X R S O Y qx cr cs cy w.drew:=
 ⟨h.le.quiet (grown_drew w 1 none),h.lx.drew 1,h.lr.drew 1,h.ls.drew 1,h.lo.drew 1,h.ly.drew 1,h.bd⟩
theorem L5.retR (h:L5 W q n1 n2 n3 n4 G1 G2 G3 G4 o1 o2 o3 o4 X R S O Y qx cr cs cy w) (hc:cy.size=cr.size) (hx:X≠R):L5 W q n1 n2 n3 n4 G1 G2 G3 G4 o1 o2 o3 o4 X R S O Y qx cy cs cy (w.setCells R 0 cy.toList):=by
 have g:=grown_setMany R cy.toList 0 w
 exact⟨h.le.byQ h.lr h.bd.1 g,h.lx.grown g (some_ne hx),h.lr.setAll hc,h.ls.grown g (some_ne (loc_ne h.ls h.lr (by decide))),h.lo.grown g (some_ne (loc_ne h.lo h.lr (by decide))),h.ly.grown g (some_ne h.bd.2.2.2.2.2),h.bd⟩
theorem L5.retS (h:L5 W q n1 n2 n3 n4 G1 G2 G3 G4 o1 o2 o3 o4 X R S O Y qx cr cs cy w) (hc:cs.size=4):L5 W q n1 n2 n3 n4 G1 G2 G3 G4 o1 o2 o3 o4 X R S O Y qx cr #[o1,o2,o3,o4] cy (w.setCells S 0 [o1,o2,o3,o4]):=by
 have g:=grown_setMany S [o1,o2,o3,o4] 0 w
 exact⟨h.le.byO h.ls h.bd.2.1 g,h.lx.grown g (some_ne (loc_ne h.lx h.ls (by decide))),h.lr.grown g (some_ne (loc_ne h.lr h.ls (by decide))),h.ls.setAll (new:=#[o1,o2,o3,o4]) (by rw[hc];rfl),h.lo.grown g (some_ne h.bd.2.2.2.1.symm),h.ly.grown g (some_ne (loc_ne h.ly h.ls (by decide))),h.bd⟩
theorem step_store_mid {P:Program} {ops:Array Oper} {o:Oper} {a:Act} {w:World} {K:Act→World→Prop} {Q:Exit→Act→World→Prop} {E:Prop} (hg:o.guard=none) (ty:TypeId) (x y:Operand) (ho:o.op=.store ty x y)
  (b f:Nat) (cells:Array Value) (hx:a.eval x=.pointer (some ⟨b,f,none⟩)) (hy:a.eval y=.agg cells) (ht:w.there b f cells.size) (hi:(P.info? ty).map (·.size)=some cells.size) (h1:cells.all (·.oneCell')=true)
  (h:K (a.put o.dst undef) (w.setCells b f cells.toList)):if Region.wanted o (yielded ops a.tmps)=true then Oper.wp P o a w K Q else E:=by
 rw[if_pos (by simp[Region.wanted,hg])]
 exact wp_store_mid ty x y ho b f cells hx hy ht hi h1 h
theorem Tryz.sizeOwned:(Tryz.prog.info? 39).map (·.size)=some 4:=by kernel_rfl
theorem retLent {fn:Func} {tmps:Array Value} {w:World} {A B c d:Nat} {ca cb:Array Value} (hr:fn.results=#[.cell c 29,.cell d 39]) (hc:tmps[c]?.getD undef=.pointer (some ⟨A,0,none⟩)) (hd:tmps[d]?.getD undef=.pointer (some ⟨B,0,none⟩)) (hA:Loc w A ca 29) (hB:Loc w B cb 39) (sa:ca.size=17) (sb:cb.size=4):
  (results fn tmps).run Tryz.prog w=.ok (.tuple #[.agg ca,.agg cb]) w:=by
 have h1:=run_loadVar_mid (P:=Tryz.prog) w A 0 29 ca.toList _ hA.range Tryz.underlying29 rfl (by rw[Tryz.sizeQuery];simp[sa])
 have h2:=run_loadVar_mid (P:=Tryz.prog) w B 0 39 cb.toList _ hB.range Tryz.underlying39 rfl (by rw[Tryz.sizeOwned];simp[sb])
 unfold results
 rw[hr]
 simp[hc,hd,h1,h2,asAddr]
end Go.Proofs.YtobgbmfpicmpcaaGreatDoor

