/- Which numbers are among a list: Index, Contains, EndsAt; mayAtAll, rightToRemove. -/
import Derived.Test.YtobgbmfpicmpcaaGreatDoorC27
import Derived.Test.YtobgbmfpicmpcaaGreatDoorC14
import Derived.Lib.SliceRun
import Derived.Test.YtobgbmfpicmpcaaGreatDoorC25
import Derived.Lib.Hide
set_option maxRecDepth 100000
set_option maxHeartbeats 8000000
namespace Go.Proofs.YtobgbmfpicmpcaaGreatDoor
open Go.Lib (hid)
section
open Go.RowKit Go.Maps
def kI (a:Int):List Value:=[.int .i64 a]
def cW (l:List Int) (n:Int):Bool:=l.contains n
def xZ (l:List Int) (n i:Int):Prop:=decide (0≤i)=cW l n
theorem JI {W:World} {l:List Int} {n:Int} {aop:Option Addr} {cap:Nat} (hp:bO W 1 (.slice aop l.length cap) l.length (l.flatMap kI)) (hn:l.length≤1000000):
  Calls Tryz.prog 340 #[.slice aop l.length cap,.int .i64 n] W fun e W'=>(∃i:Int,e=.returned (.int .i64 i)∧-1≤i∧i≤1000000∧xZ l n i)∧Below W.heap.size W W':=by
 have HP:=hid hp
 clear hp
 go_enter Tryz.func340,Tryz.ntmps340
 go_wp2_with fail
 go_loopg [8] l.length (fun c iv w=>∃k:Nat,iv=.int .i64 (k:Int)∧k+c=l.length∧(l.take k).contains n=false∧Below W.heap.size W w)
 case atStart=>exact⟨0,rfl,by omega,by simp,Below.refl _ _⟩
 case round=>
  obtain⟨k,rfl,hk,hall,hb⟩:=hrel
  have HALL:=hid hall
  have HB:=hid hb
  clear hall hb
  by_cases hlt:k<l.length
  ·obtain⟨g,oo,rfl,hcell⟩:=bY (l:=l) kI (fun _=>rfl) (HP.out.below HB.out) hlt
   obtain⟨y,hy⟩:∃y,l[k]=y:=⟨_,rfl⟩
   have HY:=hid hy
   rw[hy] at hcell
   clear hy
   have p0:wr.cell? ⟨g,oo+k,none⟩=some (.int .i64 y):=by have:=hcell 0 (by decide);simpa [kI] using this
   have hki:(k:Int)<(l.length:Int):=by omega
   clear hcell
   by_cases he:n=y
   ·have HE:Hid (xZ l n k):=hid (by unfold xZ cW;rw[he,←HY.out];simp)
    clear HALL HY
    subst he
    go_wp2_with fail
    go_ret
    exact⟨⟨k,rfl,by omega,by omega,HE.out⟩,HB.out⟩
   ·have heb:(n==y)=false:=by simpa using he
    have HNE:=hid he
    clear he
    go_wp2_with fail
    go_roundg (gk - 1)
    case rel=>
     refine⟨k+1,by simp,by omega,?_,HB.out⟩
     have:=HALL.out
     rw[List.take_add_one,List.getElem?_eq_getElem hlt,HY.out]
     have h2:=HNE.out
     simp at this⊢
     exact⟨this,h2⟩
    case measure=>omega
  ·have hki:¬(k:Int)<(l.length:Int):=by omega
   have HE:Hid (xZ l n (-1)):=hid (by have:=HALL.out;rw[List.take_of_length_le (by omega)] at this;unfold xZ cW;rw[this];rfl)
   go_wp2_with fail
   go_ret
   exact⟨⟨-1,rfl,by omega,by omega,HE.out⟩,HB.out⟩
theorem qw {W:World} {l:List Int} {n:Int} {aop:Option Addr} {cap:Nat} (hp:bO W 1 (.slice aop l.length cap) l.length (l.flatMap kI)) (hn:l.length≤1000000):
  Calls Tryz.prog 304 #[.slice aop l.length cap,.int .i64 n] W fun e W'=>e=.returned (.bool (cW l n))∧Below W.heap.size W W':=by
 have HP:=hid hp
 have HN:=hid hn
 clear hp hn
 go_enter Tryz.func304,Tryz.ntmps304
 go_wp2_with fail
 refine(JI HP.out HN.out).mono ?_
 rintro e W' ⟨⟨i,rfl,h1,h2,h3⟩,hb⟩
 have HE:=hid h3
 have HB:=hid hb
 clear h3 hb
 go_wp2_with fail
 go_ret
 exact⟨by rw[←show _=_ from HE.out];simp,HB.out⟩
def eN (l:List Int) (x:aJ):Bool:=cW l x.src || cW l x.dst
theorem Cj {W:World} {l:List Int} {x:aJ} {aop:Option Addr} {cap:Nat} (hp:bO W 1 (.slice aop l.length cap) l.length (l.flatMap kI)) (hn:l.length≤1000000):
  Calls Tryz.prog 300 #[.agg #[.string x.type,.int .i64 x.src,.int .i64 x.dst],.slice aop l.length cap] W fun e W'=>e=.returned (.bool (eN l x))∧Below W.heap.size W W':=by
 obtain⟨ty,src,dst⟩:=x
 have HB1:=hid ((Below.refl W.heap.size W).alloc (Nat.le_refl _) (.cells #[.string ty,.int .i64 src,.int .i64 dst] 142))
 have HX1:=hid (Loc.new W #[.string ty,.int .i64 src,.int .i64 dst] 142)
 have HP:=hid hp
 have HN:=hid hn
 clear hp hn
 go_enter Tryz.func300,Tryz.ntmps300
 go_upto_region 1 with fail
 obtain⟨Y,hY⟩:∃Y,Y=W.heap.size:=⟨_,rfl⟩
 rw[←hY] at HX1⊢
 clear hY
 generalize W.alloc (.cells #[.string ty,.int .i64 src,.int .i64 dst] 142)=W1 at HB1 HX1⊢
 have x1:=HX1.out.at_ 1 (.int .i64 src) rfl
 go_wp2_with fail
 refine(qw (n:=src) (HP.out.below HB1.out) HN.out).mono ?_
 rintro e W2 ⟨rfl,hb⟩
 have HB2:=hid (HB1.out.trans (hb.mono HB1.out.size))
 have HX2:=hid (HX1.out.grown (af hb none) (by simp))
 clear hb x1 HB1 HX1
 have HE:Hid (eN l ⟨ty,src,dst⟩=(cW l src || cW l dst)):=hid rfl
 generalize cW l src=f1 at HE⊢
 have x2:=HX2.out.at_ 2 (.int .i64 dst) rfl
 cases f1 with
 | true=>
  go_wp2_with fail
  go_ret
  exact⟨by rw[HE.out];simp,HB2.out⟩
 | false=>
  go_wp2_with fail
  refine(qw (n:=dst) (HP.out.below HB2.out) HN.out).mono ?_
  rintro e W3 ⟨rfl,hb⟩
  have HB3:=hid (HB2.out.trans (hb.mono HB2.out.size))
  clear hb
  go_wp2_with fail
  go_ret
  exact⟨by rw[HE.out];simp,HB3.out⟩
end
section
open Go.RowKit Go.Maps
theorem Fe {W:World} {P:Nat} {l:List Int} {x:aq} {aop:Option Addr} {cap:Nat} (hc:W.cell? ⟨P,0,none⟩=some (.slice aop l.length cap)) (hp:bO W 1 (.slice aop l.length cap) l.length (l.flatMap kI)) (hn:l.length≤1000000):
  Calls Tryz.prog 303 #[.agg #[.int .i64 x.num,.string x.label,.map (some x.bZ)],.pointer (some ⟨P,0,none⟩)] W fun e W'=>e=.returned (.bool (cW l x.num))∧Below W.heap.size W W':=by
 obtain⟨num,wy,bZ,aW⟩:=x
 have HB1:=hid ((Below.refl W.heap.size W).alloc (Nat.le_refl _) (.cells #[.int .i64 num,.string wy,.map (some bZ)] 139))
 have HX1:=hid (Loc.new W #[.int .i64 num,.string wy,.map (some bZ)] 139)
 have HC:=hid ((HB1.out.cell (block_lt_of_cell hc)).trans hc)
 have HP:=hid hp
 have HN:=hid hn
 clear hp hn hc
 go_enter Tryz.func303,Tryz.ntmps303
 go_upto_region 1 with fail
 obtain⟨Y,hY⟩:∃Y,Y=W.heap.size:=⟨_,rfl⟩
 rw[←hY] at HX1⊢
 clear hY
 generalize W.alloc (.cells #[.int .i64 num,.string wy,.map (some bZ)] 139)=W1 at HB1 HX1 HC⊢
 have x0:=HX1.out.at_ 0 (.int .i64 num) rfl
 have c0:=HC.out
 go_wp2_with fail
 refine(qw (n:=num) (HP.out.below HB1.out) HN.out).mono ?_
 rintro e W2 ⟨rfl,hb⟩
 have HB2:=hid (HB1.out.trans (hb.mono HB1.out.size))
 clear hb x0 c0 HB1 HX1 HC
 go_wp2_with fail
 go_ret
 exact⟨rfl,HB2.out⟩
theorem E6 {W:World} {P:Nat} {l:List Int} {x:aJ} {aop:Option Addr} {cap:Nat} (hc:W.cell? ⟨P,0,none⟩=some (.slice aop l.length cap)) (hp:bO W 1 (.slice aop l.length cap) l.length (l.flatMap kI)) (hn:l.length≤1000000):
  Calls Tryz.prog 306 #[.agg #[.string x.type,.int .i64 x.src,.int .i64 x.dst],.pointer (some ⟨P,0,none⟩)] W fun e W'=>e=.returned (.bool (eN l x))∧Below W.heap.size W W':=by
 obtain⟨ty,src,dst⟩:=x
 have HB1:=hid ((Below.refl W.heap.size W).alloc (Nat.le_refl _) (.cells #[.string ty,.int .i64 src,.int .i64 dst] 142))
 have HX1:=hid (Loc.new W #[.string ty,.int .i64 src,.int .i64 dst] 142)
 have HC:=hid ((HB1.out.cell (block_lt_of_cell hc)).trans hc)
 have HP:=hid hp
 have HN:=hid hn
 clear hp hn hc
 go_enter Tryz.func306,Tryz.ntmps306
 go_upto_region 1 with fail
 obtain⟨Y,hY⟩:∃Y,Y=W.heap.size:=⟨_,rfl⟩
 rw[←hY] at HX1⊢
 clear hY
 generalize W.alloc (.cells #[.string ty,.int .i64 src,.int .i64 dst] 142)=W1 at HB1 HX1 HC⊢
 have x0:=HX1.out.at_ 0 (.string ty) rfl
 have x1:=HX1.out.at_ 1 (.int .i64 src) rfl
 have x2:=HX1.out.at_ 2 (.int .i64 dst) rfl
 have c0:=HC.out
 go_wp2_with fail
 refine(Cj (x:=⟨ty,src,dst⟩) (HP.out.below HB1.out) HN.out).mono ?_
 rintro e W2 ⟨rfl,hb⟩
 have HB2:=hid (HB1.out.trans (hb.mono HB1.out.size))
 clear hb x0 x1 x2 c0 HB1 HX1 HC
 go_wp2_with fail
 go_ret
 exact⟨rfl,HB2.out⟩
def iX {α:Type} (p:α→Bool) (l:List α) (i:Int):Prop:=(i=-1∧l.all (fun x=>!(p x))=true)∨∃k:Nat,i=(k:Int)∧∃h:k<l.length,p l[k]=true∧(l.take k).all (fun x=>!(p x))=true
theorem E4 {W:World} {P:Nat} {l:List Int} {aop ao:Option Addr} {cap cp:Nat} {ns:List aq} (hs:bO W 3 (.slice ao ns.length cp) ns.length (ns.flatMap eD)) (hl:ns.length≤1000000) (hc:W.cell? ⟨P,0,none⟩=some (.slice aop l.length cap)) (hp:bO W 1 (.slice aop l.length cap) l.length (l.flatMap kI)) (hn:l.length≤1000000):
  Calls Tryz.prog 339 #[.slice ao ns.length cp,.func (.func 303) #[] #[.pointer (some ⟨P,0,none⟩)]] W fun e W'=>(∃i:Int,e=.returned (.int .i64 i)∧iX (fun x:aq=>cW l x.num) ns i)∧Below W.heap.size W W':=by
 have HS:=hid hs
 have HC:=hid hc
 have HP:=hid hp
 have HN:=hid hn
 clear hs hc hp hn
 go_enter Tryz.func339,Tryz.ntmps339
 go_wp2_with fail
 go_loopg [8] ns.length (fun c iv w=>∃k:Nat,iv=.int .i64 (k:Int)∧k+c=ns.length∧(ns.take k).all (fun x=>!(cW l x.num))=true∧Below W.heap.size W w)
 case atStart=>exact⟨0,rfl,by omega,by simp,Below.refl _ _⟩
 case round=>
  obtain⟨k,rfl,hk,hall,hb⟩:=hrel
  have HALL:=hid hall
  have HB:=hid hb
  clear hall hb
  by_cases hlt:k<ns.length
  ·obtain⟨g,oo,rfl,hcell⟩:=bY (l:=ns) eD (fun _=>rfl) (HS.out.below HB.out) hlt
   obtain⟨y,hy⟩:∃y,ns[k]=y:=⟨_,rfl⟩
   have HY:=hid hy
   rw[hy] at hcell
   clear hy
   have p0:wr.cell? ⟨g,oo+k*3,none⟩=some (.int .i64 y.num):=hcell 0 (by decide)
   have p1:wr.cell? ⟨g,oo+k*3+1,none⟩=some (.string y.label):=hcell 1 (by decide)
   have p2:wr.cell? ⟨g,oo+k*3+2,none⟩=some (.map (some y.bZ)):=hcell 2 (by decide)
   have hki:(k:Int)<(ns.length:Int):=by omega
   clear hcell
   go_wp2_with fail
   refine(Fe (x:=y) ((HB.out.cell (block_lt_of_cell HC.out)).trans HC.out) (HP.out.below HB.out) HN.out).mono ?_
   rintro e W1 ⟨rfl,hb1⟩
   have HB1:=hid (HB.out.trans (hb1.mono HB.out.size))
   clear hb1 p0 p1 p2
   cases hf:cW l y.num with
   | true=>
    have HE:Hid (iX (fun x:aq=>cW l x.num) ns k):=hid (Or.inr ⟨k,rfl,hlt,by rw[HY.out];exact hf,HALL.out⟩)
    clear hf
    go_wp2_with fail
    go_ret
    exact⟨⟨k,rfl,HE.out⟩,HB1.out⟩
   | false=>
    have HF:=hid hf
    clear hf
    go_wp2_with fail
    go_roundg (gk - 1)
    case rel=>
     refine⟨k+1,by simp,by omega,?_,HB1.out⟩
     rw[List.take_add_one,List.getElem?_eq_getElem hlt,List.all_append,HALL.out,HY.out]
     simp[HF.out]
    case measure=>omega
  ·have hki:¬(k:Int)<(ns.length:Int):=by omega
   have HE:Hid (iX (fun x:aq=>cW l x.num) ns (-1)):=hid (by have:=HALL.out;rw[List.take_of_length_le (by omega)] at this;exact Or.inl ⟨rfl,this⟩)
   go_wp2_with fail
   go_ret
   exact⟨⟨-1,rfl,HE.out⟩,HB.out⟩
theorem FV {W:World} {P:Nat} {l:List Int} {aop ao:Option Addr} {cap cp:Nat} {es:List aJ} (hs:bO W 3 (.slice ao es.length cp) es.length (es.flatMap fL)) (hl:es.length≤1000000) (hc:W.cell? ⟨P,0,none⟩=some (.slice aop l.length cap)) (hp:bO W 1 (.slice aop l.length cap) l.length (l.flatMap kI)) (hn:l.length≤1000000):
  Calls Tryz.prog 341 #[.slice ao es.length cp,.func (.func 306) #[] #[.pointer (some ⟨P,0,none⟩)]] W fun e W'=>(∃i:Int,e=.returned (.int .i64 i)∧iX (eN l) es i)∧Below W.heap.size W W':=by
 have HS:=hid hs
 have HC:=hid hc
 have HP:=hid hp
 have HN:=hid hn
 clear hs hc hp hn
 go_enter Tryz.func341,Tryz.ntmps341
 go_wp2_with fail
 go_loopg [8] es.length (fun c iv w=>∃k:Nat,iv=.int .i64 (k:Int)∧k+c=es.length∧(es.take k).all (fun x=>!(eN l x))=true∧Below W.heap.size W w)
 case atStart=>exact⟨0,rfl,by omega,by simp,Below.refl _ _⟩
 case round=>
  obtain⟨k,rfl,hk,hall,hb⟩:=hrel
  have HALL:=hid hall
  have HB:=hid hb
  clear hall hb
  by_cases hlt:k<es.length
  ·obtain⟨g,oo,rfl,hcell⟩:=bY (l:=es) fL (fun _=>rfl) (HS.out.below HB.out) hlt
   obtain⟨y,hy⟩:∃y,es[k]=y:=⟨_,rfl⟩
   have HY:=hid hy
   rw[hy] at hcell
   clear hy
   have p0:wr.cell? ⟨g,oo+k*3,none⟩=some (.string y.type):=hcell 0 (by decide)
   have p1:wr.cell? ⟨g,oo+k*3+1,none⟩=some (.int .i64 y.src):=hcell 1 (by decide)
   have p2:wr.cell? ⟨g,oo+k*3+2,none⟩=some (.int .i64 y.dst):=hcell 2 (by decide)
   have hki:(k:Int)<(es.length:Int):=by omega
   clear hcell
   go_wp2_with fail
   refine(E6 (x:=y) ((HB.out.cell (block_lt_of_cell HC.out)).trans HC.out) (HP.out.below HB.out) HN.out).mono ?_
   rintro e W1 ⟨rfl,hb1⟩
   have HB1:=hid (HB.out.trans (hb1.mono HB.out.size))
   clear hb1 p0 p1 p2
   cases hf:eN l y with
   | true=>
    have HE:Hid (iX (eN l) es k):=hid (Or.inr ⟨k,rfl,hlt,by rw[HY.out];exact hf,HALL.out⟩)
    clear hf
    go_wp2_with fail
    go_ret
    exact⟨⟨k,rfl,HE.out⟩,HB1.out⟩
   | false=>
    have HF:=hid hf
    clear hf
    go_wp2_with fail
    go_roundg (gk - 1)
    case rel=>
     refine⟨k+1,by simp,by omega,?_,HB1.out⟩
     rw[List.take_add_one,List.getElem?_eq_getElem hlt,List.all_append,HALL.out,HY.out]
     simp[HF.out]
    case measure=>omega
  ·have hki:¬(k:Int)<(es.length:Int):=by omega
   have HE:Hid (iX (eN l) es (-1)):=hid (by have:=HALL.out;rw[List.take_of_length_le (by omega)] at this;exact Or.inl ⟨rfl,this⟩)
   go_wp2_with fail
   go_ret
   exact⟨⟨-1,rfl,HE.out⟩,HB.out⟩
end
section
open Go.RowKit Go.Maps
theorem nJ {P:Program} (w:World) (t e ty:TypeId) (z:Value) (ht:P.underlying t=some (.slice e)) (hv:∀w,(zeroValue e).run P w=.ok z w) (h1:∀i,i<z.cells.size→(z.cells[i]!).oneCell'=true) (b o n c:Nat) (hn:0<n) (hz:0<z.cells.size)
  (hc:∀j,j<n*z.cells.size→(w.cell? ⟨b,o+j,none⟩).isSome=true) (hf:∀j,j<n*z.cells.size→w.frozen? ⟨b,o+j,none⟩=false):
  (Builtin.clear_ #[t] ty #[.slice (some ⟨b,o,none⟩) n c]).run P w=.ok (.tuple #[]) (w.setCells b o (Builtin.zeroCells z.cells n).toList):=by
 have hlen:(Builtin.zeroCells z.cells n).toList.length=n*z.cells.size:=by simp[Builtin.zeroCells]
 have hone:∀v∈(Builtin.zeroCells z.cells n).toList,v.oneCell'=true:=by
  intro v hv'
  simp only[Builtin.zeroCells,Array.toList_map,List.mem_map] at hv'
  obtain⟨i,_,rfl⟩:=hv'
  exact h1 _ (Nat.mod_lt _ hz)
 have hst:=run_storeCells_cells (P:=P) b o (Builtin.zeroCells z.cells n).toList 0 w (by rw[hlen];simpa using hc) (by rw[hlen];simpa using hf) hone
 simp only[Nat.add_zero] at hst
 obtain⟨m,rfl⟩:∃m,n=m+1:=⟨n - 1,by omega⟩
 simp[Builtin.clear_,run_underlying ht,hv,hst]
structure qy {α:Type} (f:α→List Value) (cs:Array Value) (ns kept:List α) (j:Nat):Prop where
 size:ns.length*3≤cs.size
 lo:∀q,q<kept.length*3→cs[q]?=(kept.flatMap f)[q]?
 hi:∀t (ht:t<ns.length),j≤t→∀q,q<3→cs[t*3+q]?=(f ns[t])[q]?
 le:kept.length≤j
variable {α:Type} {f:α→List Value} {cs:Array Value} {ns kept:List α} {j:Nat}
theorem qy.skip (h:qy f cs ns kept j):qy f cs ns kept (j+1):=⟨h.size,h.lo,fun t ht hj=>h.hi t ht (by omega),Nat.le_succ_of_le h.le⟩
theorem qy.put (h:qy f cs ns kept j) (hk:∀a,(f a).length=3) {x:α} {a b c:Value} (hx:f x=[a,b,c]) (hj:j<ns.length):
  qy f (((cs.setIfInBounds (kept.length*3) a).setIfInBounds (kept.length*3+1) b).setIfInBounds (kept.length*3+2) c) ns (kept++[x]) (j+1):=by
 have hs:=h.size
 have hl:=h.le
 have hfl:(kept.flatMap f).length=kept.length*3:=by
  clear h hs hl hj
  induction kept with
  | nil=>rfl
  | cons y r ih=>rw[List.flatMap_cons,List.length_append,ih,hk,List.length_cons];omega
 refine⟨by simpa using hs,?_,?_,by simp;omega⟩
 ·intro q hq
  simp only[List.length_append,List.length_cons,List.length_nil] at hq
  rw[List.flatMap_append]
  simp only[List.flatMap_cons,List.flatMap_nil,List.append_nil,hx]
  simp only[Array.getElem?_setIfInBounds,Array.size_setIfInBounds]
  by_cases h0:q<kept.length*3
  ·rw[if_neg (by omega),if_neg (by omega),if_neg (by omega),List.getElem?_append_left (by omega)]
   exact h.lo q h0
  ·rw[List.getElem?_append_right (by omega),hfl]
   by_cases h2:q=kept.length*3+2
   ·subst h2;rw[if_pos rfl,if_pos (by omega)];simp
   ·by_cases h1:q=kept.length*3+1
    ·subst h1;rw[if_neg (by omega),if_pos rfl,if_pos (by omega)];simp
    ·have e:q=kept.length*3:=by omega
     subst e;rw[if_neg (by omega),if_neg (by omega),if_pos rfl,if_pos (by omega)];simp
 ·intro t ht htj q hq
  simp only[Array.getElem?_setIfInBounds]
  rw[if_neg (by omega),if_neg (by omega),if_neg (by omega)]
  exact h.hi t ht (by omega) q hq
theorem qy.row (h:qy f cs ns kept j) (hk:∀a,(f a).length=3) (r:List Value):(cs.toList.take (kept.length*3)++r).take (kept.length*3)=kept.flatMap f:=by
 have hs:=h.size
 have hfl:(kept.flatMap f).length=kept.length*3:=by
  clear h hs
  induction kept with
  | nil=>rfl
  | cons y r ih=>rw[List.flatMap_cons,List.length_append,ih,hk,List.length_cons];omega
 by_cases hn:kept.length*3≤cs.size
 ·apply List.ext_getElem?
  intro q
  by_cases hq:q<kept.length*3
  ·rw[List.getElem?_take_of_lt hq,List.getElem?_append_left (by simp;omega),List.getElem?_take_of_lt hq,←h.lo q hq]
   simp
  ·rw[List.getElem?_eq_none (by simp;omega),List.getElem?_eq_none (by omega)]
 ·have h1:=h.lo cs.size (by omega)
  rw[Array.getElem?_eq_none (Nat.le_refl _),List.getElem?_eq_getElem (by omega)] at h1
  cases h1
end
section
open Go.RowKit Go.Maps
theorem Fi (w:World):(zeroValue 139).run Tryz.prog w=.ok (.agg #[.int .i64 0,.string ⟨#[]⟩,.map none]) w:=by kernel_rfl
theorem filter_all {α:Type} {p:α→Bool} {l:List α} (h:l.all (fun x=>!(p x))=true):l.filter (fun x=>!(p x))=l:=List.filter_eq_self.2 (fun x hx=>List.all_eq_true.1 h x hx)
theorem FQ {W:World} {P g cp:Nat} {l:List Int} {aop:Option Addr} {cap:Nat} {ns:List aq} {cs0:Array Value} {k0:Nat} (hg:Loc W g cs0 139) (hrow:qy eD cs0 ns (ns.take k0) k0) (hcap:ns.length≤cp∧cp≤maxLen∧cs0.size=cp*3) (hl:ns.length≤1000000)
  (hk0:k0<ns.length) (hdel:cW l ns[k0].num=true) (hall:(ns.take k0).all (fun x=>!(cW l x.num))=true)
  (hst:∀w,Kept (fun b=>b=g) W w→w.cell? ⟨P,0,none⟩=some (.slice aop l.length cap)∧bO w 1 (.slice aop l.length cap) l.length (l.flatMap kI)) (hn:l.length≤1000000)
  (hidx:Calls Tryz.prog 339 #[.slice (some ⟨g,0,none⟩) ns.length cp,.func (.func 303) #[] #[.pointer (some ⟨P,0,none⟩)]] W fun e W'=>e=.returned (.int .i64 k0)∧Below W.heap.size W W'):
  Calls Tryz.prog 302 #[.slice (some ⟨g,0,none⟩) ns.length cp,.func (.func 303) #[] #[.pointer (some ⟨P,0,none⟩)]] W fun e W'=>∃kept:List aq,kept=ns.filter (fun x=>!(cW l x.num))∧e=.returned (.slice (some ⟨g,0,none⟩) kept.length cp)∧W'.ownsRow 0 139 3 (.slice (some ⟨g,0,none⟩) kept.length cp) kept.length (kept.flatMap eD)∧Kept (fun b=>b=g) W W':=by
 obtain⟨hc1,hc2,hc3⟩:=hcap
 have HC2:=hid hc2
 have HC3:=hid hc3
 have HG:=hid hg
 have HROW:=hid hrow
 have HST:=hid hst
 have HN:=hid hn
 have HIDX:=hid hidx
 have HDEL:=hid hdel
 have HALL:=hid hall
 clear hg hrow hst hn hidx hdel hall hc2 hc3
 go_enter Tryz.func302,Tryz.ntmps302
 go_wp2_with fail
 refine HIDX.out.mono ?_
 rintro e W1 ⟨rfl,hb⟩
 have HK1:=hid ((Kept.refl (fun b=>b=g) W).below hb)
 have HG1:=hid (HG.out.grown (af hb none) (by simp))
 clear hb HG
 have hk1:¬((k0:Int)=-1):=by omega
 go_wp2_with fail
 clear hk1
 go_loopg [5,6] (ns.length - (k0+1)) (fun c iv jv w=>∃(j:Nat) (kept:List aq) (cs:Array Value),iv=.int .i64 (kept.length:Int)∧jv=.int .i64 (j:Int)∧j+c=ns.length∧kept=(ns.take j).filter (fun x=>!(cW l x.num))∧kept.length<j∧qy eD cs ns kept j∧cs.size=cp*3∧Loc w g cs 139∧Kept (fun b=>b=g) W w)
 case atStart=>
  have hlen:(ns.take k0).length=k0:=by rw[List.length_take];omega
  refine⟨k0+1,ns.take k0,cs0,by rw[hlen],by simp,by omega,?_,by omega,HROW.out.skip,HC3.out,HG1.out,HK1.out⟩
  rw[List.take_add_one,List.getElem?_eq_getElem hk0,List.filter_append,filter_all HALL.out]
  simp[HDEL.out]
 case round=>
  obtain⟨j,kept,cs,rfl,rfl,hj,hkept,hlt0,hrow,hcs,hg,hk⟩:=hrel
  have HKEPT:=hid hkept
  have HROWJ:=hid hrow
  have HCS:=hid hcs
  have HG:=hid hg
  have HK:=hid hk
  clear hkept hrow hcs hg hk HG1 HK1 HROW
  by_cases hlt:j<ns.length
  ·obtain⟨y,hy⟩:∃y,ns[j]=y:=⟨_,rfl⟩
   have HY:=hid hy
   have hcell:=HROWJ.out.hi j hlt (Nat.le_refl _)
   rw[hy] at hcell
   clear hy
   have p0:wr.cell? ⟨g,j*3,none⟩=some (.int .i64 y.num):=(HG.out.cell _).trans (hcell 0 (by decide))
   have p1:wr.cell? ⟨g,j*3+1,none⟩=some (.string y.label):=(HG.out.cell _).trans (hcell 1 (by decide))
   have p2:wr.cell? ⟨g,j*3+2,none⟩=some (.map (some y.bZ)):=(HG.out.cell _).trans (hcell 2 (by decide))
   have hji:(j:Int)<(ns.length:Int):=by omega
   clear hcell
   go_upto_region 8 with fail
   have HX:=hid (Loc.new wr #[.int .i64 y.num,.string y.label,.map (some y.bZ)] 139)
   have HG2:=hid (HG.out.alloc (.cells #[.int .i64 y.num,.string y.label,.map (some y.bZ)] 139))
   have HK2:=hid (HK.out.then (ar wr (.cells #[.int .i64 y.num,.string y.label,.map (some y.bZ)] 139) none) (by simp))
   have hne:g≠wr.heap.size:=Nat.ne_of_lt HG.out.lt
   obtain⟨Z,hZ⟩:∃Z,Z=wr.heap.size:=⟨_,rfl⟩
   rw[←hZ] at HX hne⊢
   have HNE:=hid hne
   clear hZ p0 p1 p2 HG HK hne
   generalize wr.alloc (.cells #[.int .i64 y.num,.string y.label,.map (some y.bZ)] 139)=W2 at HX HG2 HK2⊢
   have z0:=HX.out.at_ 0 (.int .i64 y.num) rfl
   have z1:=HX.out.at_ 1 (.string y.label) rfl
   have z2:=HX.out.at_ 2 (.map (some y.bZ)) rfl
   go_wp2_with fail
   refine(Fe (x:=y) (HST.out _ HK2.out).1 (HST.out _ HK2.out).2 HN.out).mono ?_
   rintro e W3 ⟨rfl,hb⟩
   have HX3:=hid (HX.out.grown (af hb none) (by simp))
   have HG3:=hid (HG2.out.grown (af hb none) (by simp))
   have HK3:=hid (HK2.out.below hb)
   clear hb z0 z1 z2 HX HG2 HK2
   cases hf:cW l y.num with
   | true=>
    have HF:=hid hf
    clear hf
    go_wp2_with fail
    go_roundg (gk - 1)
    case rel=>
     refine⟨j+1,kept,cs,rfl,by simp,by omega,?_,by omega,HROWJ.out.skip,HCS.out,HG3.out,HK3.out⟩
     rw[List.take_add_one,List.getElem?_eq_getElem hlt,List.filter_append,←HKEPT.out,HY.out]
     simp[HF.out]
    case measure=>omega
   | false=>
    have HF:=hid hf
    clear hf
    have z0:=HX3.out.at_ 0 (.int .i64 y.num) rfl
    have z1:=HX3.out.at_ 1 (.string y.label) rfl
    have z2:=HX3.out.at_ 2 (.map (some y.bZ)) rfl
    have hsz:=HROWJ.out.size
    have q0:W3.cell? ⟨g,kept.length*3,none⟩=some cs[kept.length*3]:=(HG3.out.cell _).trans (Array.getElem?_eq_getElem (by omega))
    have q1:W3.cell? ⟨g,kept.length*3+1,none⟩=some cs[kept.length*3+1]:=(HG3.out.cell _).trans (Array.getElem?_eq_getElem (by omega))
    have q2:W3.cell? ⟨g,kept.length*3+2,none⟩=some cs[kept.length*3+2]:=(HG3.out.cell _).trans (Array.getElem?_eq_getElem (by omega))
    generalize cs[kept.length*3]=e0 at q0
    generalize cs[kept.length*3+1]=e1 at q1
    generalize cs[kept.length*3+2]=e2 at q2
    have f0:=HG3.out.free (kept.length*3)
    have f1:=HG3.out.free (kept.length*3+1)
    have f2:=HG3.out.free (kept.length*3+2)
    have hki:(kept.length:Int)<(ns.length:Int):=by omega
    clear hsz
    go_wp2_with fail
    go_roundg (gk - 1)
    case rel=>
     refine⟨j+1,kept++[y],_,by simp,by simp,by omega,?_,by simp;omega,HROWJ.out.put (fun _=>rfl) (x:=y) rfl hlt,by simpa using HCS.out,((HG3.out.set _ _).set _ _).set _ _,((HK3.out.then (aC _ _ _ _) ?_).then (aC _ _ _ _) ?_).then (aC _ _ _ _) ?_⟩
     ·rw[List.take_add_one,List.getElem?_eq_getElem hlt,List.filter_append,←HKEPT.out,HY.out]
      simp[HF.out]
     all_goals (intro b hb;injection hb with hb;exact Or.inl hb.symm)
    case measure=>omega
  ·have hji:¬(j:Int)<(ns.length:Int):=by omega
   have hik:(kept.length:Int)≤(ns.length:Int):=by omega
   have hi0:(0:Int)≤(kept.length:Int):=by omega
   have hnc:(ns.length:Int)≤(cp:Int):=by omega
   have hcp:cp≤maxLen:=HC2.out
   obtain⟨zs,hzl,hclr⟩:∃zs:List Value,zs.length=(ns.length - kept.length)*3∧∀ty,(Builtin.clear_ #[123] ty #[.slice (some ⟨g,kept.length*3,none⟩) (ns.length - kept.length) (cp - kept.length)]).run Tryz.prog wr=.ok (.tuple #[]) (wr.setCells g (kept.length*3) zs):=by
    have hsz:=HROWJ.out.size
    refine⟨(Builtin.zeroCells #[.int .i64 0,.string ⟨#[]⟩,.map none] (ns.length - kept.length)).toList,by simp[Builtin.zeroCells],fun ty=>?_⟩
    refine nJ wr _ _ ty (.agg #[.int .i64 0,.string ⟨#[]⟩,.map none]) Tryz.underlying123 Fi ?_ g _ _ _ (by omega) (by decide) ?_ ?_
    ·intro i hi
     have hi3:i<3:=hi
     match i,hi3 with
     | 0,_=>rfl
     | 1,_=>rfl
     | 2,_=>rfl
    ·intro q hq
     have hq3:q<(ns.length - kept.length)*3:=hq
     rw[HG.out.cell,Array.getElem?_eq_getElem (by omega)];rfl
    ·intro q _
     exact HG.out.free _
   have HZL:=hid hzl
   clear hzl
   go_wp2_with fail
   go_ret
   have hsz:=HROWJ.out.size
   have hzl:=HZL.out
   have hcs:=HCS.out
   have he:ns.filter (fun x=>!(cW l x.num))=kept:=by rw[HKEPT.out,List.take_of_length_le (by omega)]
   rw[he]
   refine⟨rfl,⟨?_,Or.inr ⟨g,cp,_,rfl,Nat.zero_le _,Loc.setMany zs (kept.length*3) wr cs HG.out (by omega),by omega,hcp,?_,?_⟩⟩,HK.out.then (aS g zs _ wr) (fun b hb=>Or.inl (by injection hb with hb;exact hb.symm))⟩
   ·rw[←HROWJ.out.row (fun _=>rfl) [],List.append_nil,List.take_take,Nat.min_self,List.length_take];simp only[Array.length_toList];omega
   ·simp only[List.size_toArray,List.length_append,List.length_take,List.length_drop,Array.length_toList];omega
   ·rw[List.append_assoc];exact HROWJ.out.row (fun _=>rfl) _
end
section
open Go.RowKit Go.Maps
theorem EV (w:World):(zeroValue 142).run Tryz.prog w=.ok (.agg #[.string ⟨#[]⟩,.int .i64 0,.int .i64 0]) w:=by kernel_rfl
theorem GJ {W:World} {P g cp:Nat} {l:List Int} {aop:Option Addr} {cap:Nat} {ns:List aJ} {cs0:Array Value} {k0:Nat} (hg:Loc W g cs0 142) (hrow:qy fL cs0 ns (ns.take k0) k0) (hcap:ns.length≤cp∧cp≤maxLen∧cs0.size=cp*3) (hl:ns.length≤1000000)
  (hk0:k0<ns.length) (hdel:eN l ns[k0]=true) (hall:(ns.take k0).all (fun x=>!(eN l x))=true)
  (hst:∀w,Kept (fun b=>b=g) W w→w.cell? ⟨P,0,none⟩=some (.slice aop l.length cap)∧bO w 1 (.slice aop l.length cap) l.length (l.flatMap kI)) (hn:l.length≤1000000)
  (hidx:Calls Tryz.prog 341 #[.slice (some ⟨g,0,none⟩) ns.length cp,.func (.func 306) #[] #[.pointer (some ⟨P,0,none⟩)]] W fun e W'=>e=.returned (.int .i64 k0)∧Below W.heap.size W W'):
  Calls Tryz.prog 305 #[.slice (some ⟨g,0,none⟩) ns.length cp,.func (.func 306) #[] #[.pointer (some ⟨P,0,none⟩)]] W fun e W'=>∃kept:List aJ,kept=ns.filter (fun x=>!(eN l x))∧e=.returned (.slice (some ⟨g,0,none⟩) kept.length cp)∧W'.ownsRow 0 142 3 (.slice (some ⟨g,0,none⟩) kept.length cp) kept.length (kept.flatMap fL)∧Kept (fun b=>b=g) W W':=by
 obtain⟨hc1,hc2,hc3⟩:=hcap
 have HC2:=hid hc2
 have HC3:=hid hc3
 have HG:=hid hg
 have HROW:=hid hrow
 have HST:=hid hst
 have HN:=hid hn
 have HIDX:=hid hidx
 have HDEL:=hid hdel
 have HALL:=hid hall
 clear hg hrow hst hn hidx hdel hall hc2 hc3
 go_enter Tryz.func305,Tryz.ntmps305
 go_wp2_with fail
 refine HIDX.out.mono ?_
 rintro e W1 ⟨rfl,hb⟩
 have HK1:=hid ((Kept.refl (fun b=>b=g) W).below hb)
 have HG1:=hid (HG.out.grown (af hb none) (by simp))
 clear hb HG
 have hk1:¬((k0:Int)=-1):=by omega
 go_wp2_with fail
 clear hk1
 go_loopg [5,6] (ns.length - (k0+1)) (fun c iv jv w=>∃(j:Nat) (kept:List aJ) (cs:Array Value),iv=.int .i64 (kept.length:Int)∧jv=.int .i64 (j:Int)∧j+c=ns.length∧kept=(ns.take j).filter (fun x=>!(eN l x))∧kept.length<j∧qy fL cs ns kept j∧cs.size=cp*3∧Loc w g cs 142∧Kept (fun b=>b=g) W w)
 case atStart=>
  have hlen:(ns.take k0).length=k0:=by rw[List.length_take];omega
  refine⟨k0+1,ns.take k0,cs0,by rw[hlen],by simp,by omega,?_,by omega,HROW.out.skip,HC3.out,HG1.out,HK1.out⟩
  rw[List.take_add_one,List.getElem?_eq_getElem hk0,List.filter_append,filter_all HALL.out]
  simp[HDEL.out]
 case round=>
  obtain⟨j,kept,cs,rfl,rfl,hj,hkept,hlt0,hrow,hcs,hg,hk⟩:=hrel
  have HKEPT:=hid hkept
  have HROWJ:=hid hrow
  have HCS:=hid hcs
  have HG:=hid hg
  have HK:=hid hk
  clear hkept hrow hcs hg hk HG1 HK1 HROW
  by_cases hlt:j<ns.length
  ·obtain⟨y,hy⟩:∃y,ns[j]=y:=⟨_,rfl⟩
   have HY:=hid hy
   have hcell:=HROWJ.out.hi j hlt (Nat.le_refl _)
   rw[hy] at hcell
   clear hy
   have p0:wr.cell? ⟨g,j*3,none⟩=some (.string y.type):=(HG.out.cell _).trans (hcell 0 (by decide))
   have p1:wr.cell? ⟨g,j*3+1,none⟩=some (.int .i64 y.src):=(HG.out.cell _).trans (hcell 1 (by decide))
   have p2:wr.cell? ⟨g,j*3+2,none⟩=some (.int .i64 y.dst):=(HG.out.cell _).trans (hcell 2 (by decide))
   have hji:(j:Int)<(ns.length:Int):=by omega
   clear hcell
   go_upto_region 8 with fail
   have HX:=hid (Loc.new wr #[.string y.type,.int .i64 y.src,.int .i64 y.dst] 142)
   have HG2:=hid (HG.out.alloc (.cells #[.string y.type,.int .i64 y.src,.int .i64 y.dst] 142))
   have HK2:=hid (HK.out.then (ar wr (.cells #[.string y.type,.int .i64 y.src,.int .i64 y.dst] 142) none) (by simp))
   have hne:g≠wr.heap.size:=Nat.ne_of_lt HG.out.lt
   obtain⟨Z,hZ⟩:∃Z,Z=wr.heap.size:=⟨_,rfl⟩
   rw[←hZ] at HX hne⊢
   have HNE:=hid hne
   clear hZ p0 p1 p2 HG HK hne
   generalize wr.alloc (.cells #[.string y.type,.int .i64 y.src,.int .i64 y.dst] 142)=W2 at HX HG2 HK2⊢
   have z0:=HX.out.at_ 0 (.string y.type) rfl
   have z1:=HX.out.at_ 1 (.int .i64 y.src) rfl
   have z2:=HX.out.at_ 2 (.int .i64 y.dst) rfl
   go_wp2_with fail
   refine(E6 (x:=y) (HST.out _ HK2.out).1 (HST.out _ HK2.out).2 HN.out).mono ?_
   rintro e W3 ⟨rfl,hb⟩
   have HX3:=hid (HX.out.grown (af hb none) (by simp))
   have HG3:=hid (HG2.out.grown (af hb none) (by simp))
   have HK3:=hid (HK2.out.below hb)
   clear hb z0 z1 z2 HX HG2 HK2
   cases hf:eN l y with
   | true=>
    have HF:=hid hf
    clear hf
    go_wp2_with fail
    go_roundg (gk - 1)
    case rel=>
     refine⟨j+1,kept,cs,rfl,by simp,by omega,?_,by omega,HROWJ.out.skip,HCS.out,HG3.out,HK3.out⟩
     rw[List.take_add_one,List.getElem?_eq_getElem hlt,List.filter_append,←HKEPT.out,HY.out]
     simp[HF.out]
    case measure=>omega
   | false=>
    have HF:=hid hf
    clear hf
    have z0:=HX3.out.at_ 0 (.string y.type) rfl
    have z1:=HX3.out.at_ 1 (.int .i64 y.src) rfl
    have z2:=HX3.out.at_ 2 (.int .i64 y.dst) rfl
    have hsz:=HROWJ.out.size
    have q0:W3.cell? ⟨g,kept.length*3,none⟩=some cs[kept.length*3]:=(HG3.out.cell _).trans (Array.getElem?_eq_getElem (by omega))
    have q1:W3.cell? ⟨g,kept.length*3+1,none⟩=some cs[kept.length*3+1]:=(HG3.out.cell _).trans (Array.getElem?_eq_getElem (by omega))
    have q2:W3.cell? ⟨g,kept.length*3+2,none⟩=some cs[kept.length*3+2]:=(HG3.out.cell _).trans (Array.getElem?_eq_getElem (by omega))
    generalize cs[kept.length*3]=e0 at q0
    generalize cs[kept.length*3+1]=e1 at q1
    generalize cs[kept.length*3+2]=e2 at q2
    have f0:=HG3.out.free (kept.length*3)
    have f1:=HG3.out.free (kept.length*3+1)
    have f2:=HG3.out.free (kept.length*3+2)
    have hki:(kept.length:Int)<(ns.length:Int):=by omega
    clear hsz
    go_wp2_with fail
    go_roundg (gk - 1)
    case rel=>
     refine⟨j+1,kept++[y],_,by simp,by simp,by omega,?_,by simp;omega,HROWJ.out.put (fun _=>rfl) (x:=y) rfl hlt,by simpa using HCS.out,((HG3.out.set _ _).set _ _).set _ _,((HK3.out.then (aC _ _ _ _) ?_).then (aC _ _ _ _) ?_).then (aC _ _ _ _) ?_⟩
     ·rw[List.take_add_one,List.getElem?_eq_getElem hlt,List.filter_append,←HKEPT.out,HY.out]
      simp[HF.out]
     all_goals (intro b hb;injection hb with hb;exact Or.inl hb.symm)
    case measure=>omega
  ·have hji:¬(j:Int)<(ns.length:Int):=by omega
   have hik:(kept.length:Int)≤(ns.length:Int):=by omega
   have hi0:(0:Int)≤(kept.length:Int):=by omega
   have hnc:(ns.length:Int)≤(cp:Int):=by omega
   have hcp:cp≤maxLen:=HC2.out
   obtain⟨zs,hzl,hclr⟩:∃zs:List Value,zs.length=(ns.length - kept.length)*3∧∀ty,(Builtin.clear_ #[124] ty #[.slice (some ⟨g,kept.length*3,none⟩) (ns.length - kept.length) (cp - kept.length)]).run Tryz.prog wr=.ok (.tuple #[]) (wr.setCells g (kept.length*3) zs):=by
    have hsz:=HROWJ.out.size
    refine⟨(Builtin.zeroCells #[.string ⟨#[]⟩,.int .i64 0,.int .i64 0] (ns.length - kept.length)).toList,by simp[Builtin.zeroCells],fun ty=>?_⟩
    refine nJ wr _ _ ty (.agg #[.string ⟨#[]⟩,.int .i64 0,.int .i64 0]) Tryz.underlying124 EV ?_ g _ _ _ (by omega) (by decide) ?_ ?_
    ·intro i hi
     have hi3:i<3:=hi
     match i,hi3 with
     | 0,_=>rfl
     | 1,_=>rfl
     | 2,_=>rfl
    ·intro q hq
     have hq3:q<(ns.length - kept.length)*3:=hq
     rw[HG.out.cell,Array.getElem?_eq_getElem (by omega)];rfl
    ·intro q _
     exact HG.out.free _
   have HZL:=hid hzl
   clear hzl
   go_wp2_with fail
   go_ret
   have hsz:=HROWJ.out.size
   have hzl:=HZL.out
   have hcs:=HCS.out
   have he:ns.filter (fun x=>!(eN l x))=kept:=by rw[HKEPT.out,List.take_of_length_le (by omega)]
   rw[he]
   refine⟨rfl,⟨?_,Or.inr ⟨g,cp,_,rfl,Nat.zero_le _,Loc.setMany zs (kept.length*3) wr cs HG.out (by omega),by omega,hcp,?_,?_⟩⟩,HK.out.then (aS g zs _ wr) (fun b hb=>Or.inl (by injection hb with hb;exact hb.symm))⟩
   ·rw[←HROWJ.out.row (fun _=>rfl) [],List.append_nil,List.take_take,Nat.min_self,List.length_take];simp only[Array.length_toList];omega
   ·simp only[List.size_toArray,List.length_append,List.length_take,List.length_drop,Array.length_toList];omega
   ·rw[List.append_assoc];exact HROWJ.out.row (fun _=>rfl) _
end
section
open Go.RowKit Go.Maps
theorem wB {W:World} {P n cp:Nat} {ao:Option Addr}
  (hidx:Calls Tryz.prog 339 #[.slice ao n cp,.func (.func 303) #[] #[.pointer (some ⟨P,0,none⟩)]] W fun e W'=>e=.returned (.int .i64 (-1))∧Below W.heap.size W W'):
  Calls Tryz.prog 302 #[.slice ao n cp,.func (.func 303) #[] #[.pointer (some ⟨P,0,none⟩)]] W fun e W'=>e=.returned (.slice ao n cp)∧Below W.heap.size W W':=by
 have HIDX:=hid hidx
 clear hidx
 go_enter Tryz.func302,Tryz.ntmps302
 go_wp2_with fail
 refine HIDX.out.mono ?_
 rintro e W1 ⟨rfl,hb⟩
 have HB:=hid hb
 clear hb
 go_wp2_with fail
 go_ret
 exact⟨rfl,HB.out⟩
theorem wI {W:World} {P n cp:Nat} {ao:Option Addr}
  (hidx:Calls Tryz.prog 341 #[.slice ao n cp,.func (.func 306) #[] #[.pointer (some ⟨P,0,none⟩)]] W fun e W'=>e=.returned (.int .i64 (-1))∧Below W.heap.size W W'):
  Calls Tryz.prog 305 #[.slice ao n cp,.func (.func 306) #[] #[.pointer (some ⟨P,0,none⟩)]] W fun e W'=>e=.returned (.slice ao n cp)∧Below W.heap.size W W':=by
 have HIDX:=hid hidx
 clear hidx
 go_enter Tryz.func305,Tryz.ntmps305
 go_wp2_with fail
 refine HIDX.out.mono ?_
 rintro e W1 ⟨rfl,hb⟩
 have HB:=hid hb
 clear hb
 go_wp2_with fail
 go_ret
 exact⟨rfl,HB.out⟩
end
end Go.Proofs.YtobgbmfpicmpcaaGreatDoor
