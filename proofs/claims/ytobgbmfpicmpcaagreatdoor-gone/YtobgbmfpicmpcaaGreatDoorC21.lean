/- Contracts of Go's library, laid at this program's own numbers by the shelf's one command and its plain mode. -/
import Derived.Shelf.LaysM
import Derived.Shelf.LaysC
import Derived.Shelf.Small.Bits
import Derived.Shelf.Small.Wraps
import Derived.Test.YtobgbmfpicmpcaaGreatDoorProg
import Derived.Test.YtobgbmfpicmpcaaGreatDoorC05
import Derived.Deep.QuietTactic
import Derived.BigQuiet
import Derived.Lib.QuietBelow
import Derived.Test.YtobgbmfpicmpcaaGreatDoorC02
import Derived.Lib.Hide
set_option maxRecDepth 100000
set_option maxHeartbeats 8000000
namespace Go.Proofs.YtobgbmfpicmpcaaGreatDoor
open Go.Lib (hid)
end Go.Proofs.YtobgbmfpicmpcaaGreatDoor
namespace Go.Proofs
open Go.Shelf
def Tryz.lays122_ren : Go.Shelf.Ren := ⟨fun | 122 => 254 | 215 => 292 | n => n, fun | 3 => 3 | 4 => 4 | n => n, fun | n => n⟩
theorem Tryz.lays122 : Go.Proofs.Lays.n122 Tryz.prog Tryz.lays122_ren := {
  mixed := by kernel_rfl
  f122 := Tryz.func254.trans (congrArg some (by kernel_rfl))
  f215 := Tryz.func292.trans (congrArg some (by kernel_rfl))
  t3 := Tryz.underlying3
  a3 := Tryz.isAgg3
  z3 := Tryz.sizeOf3
  v3 := Tryz.zeroValue3
  t4 := Tryz.underlying4
  a4 := Tryz.isAgg4
  z4 := Tryz.sizeOf4
  v4 := Tryz.zeroValue4 }
open Go.RowKit in
theorem Tryz.cmp_Compare_int (x y : Int) (w : World) :
    Calls Tryz.prog 254 #[.int .i64 x, .int .i64 y] w fun e w' => e = .returned (.int .i64 (Lib.compareInt x y)) ∧ w' = w := Any.cmp_Compare_int Tryz.lays122 x y w
end Go.Proofs
namespace Go.Proofs.YtobgbmfpicmpcaaGreatDoor
open Go.Lib (hid)
section
open Go.RowKit Go.Maps
def dm:Option Int→Array Value
 | none=>#[.bool false,.int .i64 0]
 | some n=>#[.bool true,.int .i64 n]
structure aq where
 num:Int
 label:ByteArray
 bZ:Nat
 aW:ByteArray→Option Int
structure aJ where
 type:ByteArray
 src:Int
 dst:Int
def eD (x:aq):List Value:=[.int .i64 x.num,.string x.label,.map (some x.bZ)]
def fL (x:aJ):List Value:=[.string x.type,.int .i64 x.src,.int .i64 x.dst]
theorem vS (n:Int) (W:World):Calls Tryz.prog 187 #[.int .i64 n] W fun e W'=>e=.returned (.agg (dm (some n)))∧Below W.heap.size W W':=by
 have HB:=hid ((Below.refl W.heap.size W).alloc (Nat.le_refl _) (.cells #[.bool true,.int .i64 n] 208))
 go_enter Tryz.func187,Tryz.ntmps187
 go_wp2_with fail
 refine bodyPost_ret (v:=.agg #[.bool true,.int .i64 n]) ?_ rfl ⟨rfl,HB.out⟩
 simp[results,Tryz.results187,go_sem]
def fT:Option Int→Option Int→Int
 | some a,some b=>Lib.compareInt a b
 | some _,none=>1
 | none,some _=>-1
 | none,none=>0
theorem FX (a b:Option Int) (W:World):Calls Tryz.prog 193 #[.agg (dm a),.agg (dm b)] W fun e W'=>e=.returned (.int .i64 (fT a b))∧Below W.heap.size W W':=by
 have HB1:=hid ((Below.refl W.heap.size W).alloc (Nat.le_refl _) (.cells (dm a) 208))
 have HB2:=hid (HB1.out.alloc HB1.out.size (.cells (dm b) 208))
 cases a<;>cases b<;>unfold dm at HB2⊢
 all_goals
  go_enter Tryz.func193,Tryz.ntmps193
  go_wp2_with (go_at_call 254;refine(Tryz.cmp_Compare_int _ _ _).mono ?_;rintro e w' ⟨rfl,hw⟩;obtain rfl:=hw.symm)
  go_ret
  exact⟨rfl,HB2.out⟩
theorem Gc (x:aq) (n:Int) (W:World):Calls Tryz.prog 256 #[.agg #[.int .i64 x.num,.string x.label,.map (some x.bZ)],.int .i64 n] W fun e W'=>e=.returned (.int .i64 (Lib.compareInt x.num n))∧Below W.heap.size W W':=by
 have HB1:=hid ((Below.refl W.heap.size W).alloc (Nat.le_refl _) (.cells #[.int .i64 x.num,.string x.label,.map (some x.bZ)] 139))
 go_enter Tryz.func256,Tryz.ntmps256
 go_wp2_with (go_at_call 254;refine(Tryz.cmp_Compare_int _ _ _).mono ?_;rintro e w' ⟨rfl,hw⟩;obtain rfl:=hw.symm)
 go_ret
 exact⟨rfl,HB1.out⟩
end
section
open Go.RowKit Go.Maps
theorem G9 {W:World} {ao:Option Addr} {cap:Nat} {l:List aq} {n:Int} (hl:l.length≤1000000) (hs:l.Pairwise (fun a b=>a.num<b.num)) (h:bO W 3 (.slice ao l.length cap) l.length (l.flatMap eD)):
  Calls Tryz.prog 255 #[.slice ao l.length cap,.int .i64 n,.func (.func 256) #[] #[]] W fun e W'=>Below W.heap.size W W'∧∃i:Nat,i≤l.length∧(∀t (ht:t<l.length),t<i→l[t].num<n)∧(∀t (ht:t<l.length),i≤t→n≤l[t].num)∧e=.returned (.tuple #[.int .i64 i,.bool (l[i]?.any (fun x=>x.num==n))]):=by
 have HS:=hid h
 have HP:=hid hs
 clear h hs
 go_enter Tryz.func255,Tryz.ntmps255
 go_wp2_with fail
 go_loopg [9,10] l.length (fun m iv jv w=>∃i j:Nat,iv=.int .i64 (i:Int)∧jv=.int .i64 (j:Int)∧i≤j∧j≤l.length∧j - i=m∧(∀t (ht:t<l.length),t<i→l[t].num<n)∧(∀t (ht:t<l.length),j≤t→n≤l[t].num)∧Below W.heap.size W w)
 case atStart=>exact⟨0,l.length,rfl,rfl,by omega,Nat.le_refl _,by omega,fun t _ h=>absurd h (by omega),fun t ht h=>absurd h (by omega),Below.refl _ _⟩
 case round=>
  obtain⟨i,j,rfl,rfl,hij,hj,hm,h1,h2,hb⟩:=hrel
  have H1:=hid h1
  have H2:=hid h2
  have HB:=hid hb
  clear h1 h2 hb
  by_cases hlt:i<j
  ·have hiji:(i:Int)<(j:Int):=by omega
   obtain⟨k,hk,hik,hkj⟩:∃k:Nat,((i:Int)+(j:Int)) / 2=(k:Int)∧i≤k∧k<j:=⟨(i+j) / 2,by omega,by omega,by omega⟩
   have hkl:k<l.length:=by omega
   go_upto_region 5 with fail
   obtain⟨g,o,rfl,hcell⟩:=bY (l:=l) eD (fun _=>rfl) (HS.out.below HB.out) hkl
   obtain⟨y,hy⟩:∃y,l[k]=y:=⟨_,rfl⟩
   have HY:=hid hy
   rw[hy] at hcell
   have p0:wr.cell? ⟨g,o+k*3,none⟩=some (.int .i64 y.num):=hcell 0 (by decide)
   have p1:wr.cell? ⟨g,o+k*3+1,none⟩=some (.string y.label):=hcell 1 (by decide)
   have p2:wr.cell? ⟨g,o+k*3+2,none⟩=some (.map (some y.bZ)):=hcell 2 (by decide)
   have hki:(k:Int)<(l.length:Int):=by omega
   clear hcell hy hk
   go_wp2_with fail
   refine(Gc y n wr).mono ?_
   rintro e W1 ⟨rfl,hb1⟩
   have HB1:=hid (HB.out.trans (hb1.mono HB.out.size))
   clear hb1 p0 p1 p2
   have HMONO:Hid (∀t u (ht:t<l.length) (hu:u<l.length),t<u→l[t].num<l[u].num):=hid (fun t u ht hu htu=>List.pairwise_iff_getElem.1 HP.out t u ht hu htu)
   by_cases hlo:y.num<n
   ·have hc:Lib.compareInt y.num n=-1:=by unfold Lib.compareInt;rw[if_pos hlo]
    rw[hc]
    clear hc
    have HLO:=hid hlo
    clear hlo
    go_wp2_with fail
    go_roundg (j - (k+1))
    case rel=>
     refine⟨k+1,j,by simp,rfl,by omega,by omega,rfl,?_,H2.out,HB1.out⟩
     intro t ht htk
     by_cases e:t=k
     ·subst e;rw[HY.out];exact HLO.out
     ·have:=HMONO.out t k ht hkl (by omega)
      rw[HY.out] at this
      have:=HLO.out
      omega
    case measure=>omega
   ·have hc:¬Lib.compareInt y.num n<0:=by unfold Lib.compareInt;rw[if_neg hlo];split<;>omega
    have HLO:=hid hlo
    clear hlo
    go_wp2_with fail
    go_roundg (k - i)
    case rel=>
     refine⟨i,k,rfl,rfl,by omega,by omega,rfl,H1.out,?_,HB1.out⟩
     intro t ht htk
     by_cases e:t=k
     ·subst e;rw[HY.out];have:=HLO.out;omega
     ·have:=HMONO.out k t hkl ht (by omega)
      rw[HY.out] at this
      have:=HLO.out
      omega
    case measure=>omega
  ·have hiji:¬(i:Int)<(j:Int):=by omega
   obtain rfl:i=j:=by omega
   by_cases hin:i<l.length
   ·obtain⟨g,o,rfl,hcell⟩:=bY (l:=l) eD (fun _=>rfl) (HS.out.below HB.out) hin
    obtain⟨y,hy⟩:∃y,l[i]=y:=⟨_,rfl⟩
    have HY:Hid (l[i]?=some y):=hid (by rw[List.getElem?_eq_getElem hin,hy])
    rw[hy] at hcell
    have p0:wr.cell? ⟨g,o+i*3,none⟩=some (.int .i64 y.num):=hcell 0 (by decide)
    have p1:wr.cell? ⟨g,o+i*3+1,none⟩=some (.string y.label):=hcell 1 (by decide)
    have p2:wr.cell? ⟨g,o+i*3+2,none⟩=some (.map (some y.bZ)):=hcell 2 (by decide)
    have hki:(i:Int)<(l.length:Int):=by omega
    clear hcell hy
    go_wp2_with fail
    refine(Gc y n wr).mono ?_
    rintro e W1 ⟨rfl,hb1⟩
    have HB1:=hid (HB.out.trans (hb1.mono HB.out.size))
    clear hb1 p0 p1 p2
    have HC:Hid ((Lib.compareInt y.num n==0)=(y.num==n)):=hid (by
     unfold Lib.compareInt
     by_cases h1:y.num<n
     ·rw[if_pos h1];simp;omega
     ·rw[if_neg h1]
      by_cases h2:y.num > n
      ·rw[if_pos h2];simp;omega
      ·rw[if_neg h2];simp;omega)
    go_wp2_with fail
    refine bodyPost_ret (v:=.tuple #[.int .i64 i,.bool (Lib.compareInt y.num n==0)]) ?_ rfl ⟨HB1.out,i,by omega,H1.out,H2.out,by rw[HY.out,HC.out];rfl⟩
    simp[results,Tryz.results255,go_sem]
   ·have hki:¬(i:Int)<(l.length:Int):=by omega
    have HY:Hid (l[i]?=none):=hid (by rw[List.getElem?_eq_none (by omega)])
    go_wp2_with fail
    refine bodyPost_ret (v:=.tuple #[.int .i64 i,.bool false]) ?_ rfl ⟨HB.out,i,by omega,H1.out,H2.out,by rw[HY.out];rfl⟩
    simp[results,Tryz.results255,go_sem]
end
section
open Go.RowKit Go.Maps
theorem nN:Keyed Tryz.prog 9:=string_keyed Tryz.underlying9
theorem oY {s:ByteArray} (h:s.size≤maxLen):keyOf Tryz.prog 9 (.string s)=some (.string s.data.toList):=by
 simp[keyOf,mapKey,Tryz.underlying9,h]
theorem mv (w:World):(zeroValue 3).run Tryz.prog w=.ok (.int .i64 0) w:=by kernel_rfl
def bF (W:World) (b n:Nat) (f:ByteArray→Option Int):Prop:=∃D:DataW Unit,W.ownsMap Tryz.prog 9 (plainElem Tryz.prog 3) b n D∧
 ∀s:ByteArray,s.size≤maxLen→Maps.has D (.string s.data.toList)=(f s).isSome∧D.atKey (.string s.data.toList) (.lit (.int .i64 0))=.lit (.int .i64 ((f s).getD 0))
theorem bF.kept {W w:World} {b n:Nat} {f:ByteArray→Option Int} {row:Option Nat} (h:bF W b n f) (hg:W.grownBy w row) (hne:some b≠row):bF w b n f:=by
 obtain⟨D,ho,hS⟩:=h
 exact⟨D,ho.kept hg hne,hS⟩
theorem bF.lt {W:World} {b n:Nat} {f:ByteArray→Option Int} (h:bF W b n f):b<W.heap.size:=by
 obtain⟨D,ho,_⟩:=h
 exact ho.lt
structure et (b o:Nat) (ns:List aq) (es:List aJ) (m:Nat) (W:World):Prop where
 cn:∃ao cap,W.cell? ⟨b,o,none⟩=some (.slice ao ns.length cap)∧bO W 3 (.slice ao ns.length cap) ns.length (ns.flatMap eD)
 ce:∃ao cap,W.cell? ⟨b,o+1,none⟩=some (.slice ao es.length cap)∧bO W 3 (.slice ao es.length cap) es.length (es.flatMap fL)
 gh:ns.Pairwise (fun a b=>a.num<b.num)
 rF:ns.length≤1000000∧es.length≤1000000
 aW:∀x∈ns,bF W x.bZ m x.aW
theorem et.below {b o m:Nat} {ns:List aq} {es:List aJ} {W w:World} (h:et b o ns es m W) (hb:Below W.heap.size W w):et b o ns es m w:=by
 obtain⟨an,kn,c1,s1⟩:=h.cn
 obtain⟨ae,ke,c2,s2⟩:=h.ce
 exact⟨⟨an,kn,(hb.cell (block_lt_of_cell c1)).trans c1,s1.below hb⟩,⟨ae,ke,(hb.cell (block_lt_of_cell c2)).trans c2,s2.below hb⟩,h.gh,h.rF,fun x hx=>(h.aW x hx).kept (af hb none) (by simp)⟩
def nodeAt (l:List aq) (n:Int):Option aq:=l.find? (fun x=>x.num==n)
def tE:Option aq→Value
 | some x=>.tuple #[.agg #[.int .i64 x.num,.string x.label,.map (some x.bZ)],.bool true]
 | none=>.tuple #[.agg #[.int .i64 0,.string ⟨#[]⟩,.map none],.bool false]
theorem DV {l:List aq} {n:Int} {i:Nat} (h1:∀t (ht:t<l.length),t<i→l[t].num<n) (h2:∀t (ht:t<l.length),i≤t→n≤l[t].num) (hs:l.Pairwise (fun a b=>a.num<b.num)):
  nodeAt l n=if l[i]?.any (fun x=>x.num==n) then l[i]? else none:=by
 unfold nodeAt
 have hlow:(l.take i).find? (fun x=>x.num==n)=none:=by
  rw[List.find?_eq_none]
  intro x hx
  obtain⟨t,ht,rfl⟩:=List.getElem_of_mem hx
  simp only[List.getElem_take,List.length_take] at ht⊢
  have:=h1 t (by omega) (by omega)
  simp
  omega
 by_cases hi:i<l.length
 ·rw[List.getElem?_eq_getElem hi]
  cases hp:(l[i].num==n) with
  | true=>rw[uG hi hlow hp];simp[hp]
  | false=>
   simp only[Option.any_some,hp,Bool.false_eq_true,if_false]
   rw[List.find?_eq_none]
   intro x hx
   obtain⟨t,ht,rfl⟩:=List.getElem_of_mem hx
   have hne:l[i].num≠n:=by simpa using hp
   simp
   by_cases hti:t<i
   ·have:=h1 t ht hti;omega
   ·have:=h2 i hi (Nat.le_refl _)
    by_cases e:t=i
    ·subst e;exact hne
    ·have:=List.pairwise_iff_getElem.1 hs i t hi ht (by omega)
     omega
 ·rw[List.getElem?_eq_none (by omega)]
  rw[List.take_of_length_le (by omega)] at hlow
  simpa using hlow
theorem vD {W:World} {b o m:Nat} {ns:List aq} {es:List aJ} {n:Int} (h:et b o ns es m W):
  Calls Tryz.prog 196 #[.pointer (some ⟨b,o,none⟩),.int .i64 n] W fun e W'=>e=.returned (tE (nodeAt ns n))∧Below W.heap.size W W':=by
 obtain⟨ao,cap,hc,hsee⟩:=h.cn
 have HB1:=hid ((Below.refl W.heap.size W).alloc (Nat.le_refl _) (.cells #[.int .i64 0,.string ⟨#[]⟩,.map none] 139))
 have HX1:=hid (Loc.new W #[.int .i64 0,.string ⟨#[]⟩,.map none] 139)
 have H:=hid (h.below HB1.out)
 have HS:=hid (hsee.below HB1.out)
 have c0:(W.alloc (.cells #[.int .i64 0,.string ⟨#[]⟩,.map none] 139)).cell? ⟨b,o,none⟩=some (.slice ao ns.length cap):=(HB1.out.cell (block_lt_of_cell hc)).trans hc
 clear hc hsee h
 go_enter Tryz.func196,Tryz.ntmps196
 go_upto_region 1 with fail
 obtain⟨X,hX⟩:∃X,X=W.heap.size:=⟨_,rfl⟩
 have HN:=hid (Nat.le_of_eq hX.symm)
 rw[←hX] at HX1⊢
 clear hX
 generalize W.alloc (.cells #[.int .i64 0,.string ⟨#[]⟩,.map none] 139)=W1 at HB1 HX1 H HS c0⊢
 go_wp2_with fail
 refine(G9 H.out.rF.1 H.out.gh HS.out).mono ?_
 rintro e W2 ⟨hb,i,hi,h1,h2,rfl⟩
 have HB2:=hid (HB1.out.trans (hb.mono HB1.out.size))
 have HX2:=hid (HX1.out.grown (af hb none) (by simp))
 have HF:=hid (DV h1 h2 H.out.gh)
 have c2:W2.cell? ⟨b,o,none⟩=some (.slice ao ns.length cap):=(hb.cell (block_lt_of_cell c0)).trans c0
 have HS2:=hid (HS.out.below hb)
 have hfew:=H.out.rF.1
 clear h1 h2 hb HB1 HX1 HS H c0
 have x0:=HX2.out.at_ 0 (.int .i64 0) rfl
 have x1:=HX2.out.at_ 1 (.string ⟨#[]⟩) rfl
 have x2:=HX2.out.at_ 2 (.map none) rfl
 have fx0:=HX2.out.free 0
 have fx1:=HX2.out.free 1
 have fx2:=HX2.out.free 2
 by_cases hin:i<ns.length
 ·obtain⟨y,hy⟩:∃y,ns[i]=y:=⟨_,rfl⟩
  have hy':ns[i]?=some y:=by rw[List.getElem?_eq_getElem hin,hy]
  rw[hy'] at HF⊢
  simp only[Option.any_some] at HF⊢
  obtain⟨g,oo,rfl,hcell⟩:=bY (l:=ns) eD (fun _=>rfl) HS2.out hin
  rw[hy] at hcell
  have p0:W2.cell? ⟨g,oo+i*3,none⟩=some (.int .i64 y.num):=hcell 0 (by decide)
  have p1:W2.cell? ⟨g,oo+i*3+1,none⟩=some (.string y.label):=hcell 1 (by decide)
  have p2:W2.cell? ⟨g,oo+i*3+2,none⟩=some (.map (some y.bZ)):=hcell 2 (by decide)
  have hki:(i:Int)<(ns.length:Int):=by omega
  clear hcell hy hy'
  obtain⟨fnd,hfnd⟩:∃f,(y.num==n)=f:=⟨_,rfl⟩
  simp only[hfnd] at HF⊢
  clear hfnd
  cases fnd with
  | true=>
   go_wp2_with fail
   have HX3:=hid (((HX2.out.set 0 (.int .i64 y.num)).set 1 (.string y.label)).set 2 (.map (some y.bZ)))
   have HB3:=hid (((HB2.out.setCell (p:=⟨X,0,none⟩) HN.out (.int .i64 y.num)).setCell (p:=⟨X,1,none⟩) HN.out (.string y.label)).setCell (p:=⟨X,2,none⟩) HN.out (.map (some y.bZ)))
   clear x0 x1 x2 fx0 fx1 fx2 c2 HX2 HB2
   generalize ((W2.setCell ⟨X,0,none⟩ (.int .i64 y.num)).setCell ⟨X,1,none⟩ (.string y.label)).setCell ⟨X,2,none⟩ (.map (some y.bZ))=W3 at HX3 HB3⊢
   have x0:=HX3.out.at_ 0 (.int .i64 y.num) rfl
   have x1:=HX3.out.at_ 1 (.string y.label) rfl
   have x2:=HX3.out.at_ 2 (.map (some y.bZ)) rfl
   refine bodyPost_ret (v:=.tuple #[.agg #[.int .i64 y.num,.string y.label,.map (some y.bZ)],.bool true]) ?_ rfl ⟨by rw[HF.out];rfl,HB3.out⟩
   simp[results,Tryz.results196,go_sem,x0,x1,x2]
  | false=>
   go_wp2_with fail
   have HX3:=hid (((HX2.out.set 0 (.int .i64 0)).set 1 (.string ⟨#[]⟩)).set 2 (.map none))
   have HB3:=hid (((HB2.out.setCell (p:=⟨X,0,none⟩) HN.out (.int .i64 0)).setCell (p:=⟨X,1,none⟩) HN.out (.string ⟨#[]⟩)).setCell (p:=⟨X,2,none⟩) HN.out (.map none))
   clear x0 x1 x2 fx0 fx1 fx2 c2 HX2 HB2
   generalize ((W2.setCell ⟨X,0,none⟩ (.int .i64 0)).setCell ⟨X,1,none⟩ (.string ⟨#[]⟩)).setCell ⟨X,2,none⟩ (.map none)=W3 at HX3 HB3⊢
   have x0:=HX3.out.at_ 0 (.int .i64 0) rfl
   have x1:=HX3.out.at_ 1 (.string ⟨#[]⟩) rfl
   have x2:=HX3.out.at_ 2 (.map none) rfl
   refine bodyPost_ret (v:=.tuple #[.agg #[.int .i64 0,.string ⟨#[]⟩,.map none],.bool false]) ?_ rfl ⟨by rw[HF.out];rfl,HB3.out⟩
   simp[results,Tryz.results196,go_sem,x0,x1,x2]
 ·have hy':ns[i]?=none:=by rw[List.getElem?_eq_none (by omega)]
  rw[hy'] at HF⊢
  simp only[Option.any_none] at HF⊢
  go_wp2_with fail
  have HX3:=hid (((HX2.out.set 0 (.int .i64 0)).set 1 (.string ⟨#[]⟩)).set 2 (.map none))
  have HB3:=hid (((HB2.out.setCell (p:=⟨X,0,none⟩) HN.out (.int .i64 0)).setCell (p:=⟨X,1,none⟩) HN.out (.string ⟨#[]⟩)).setCell (p:=⟨X,2,none⟩) HN.out (.map none))
  clear x0 x1 x2 fx0 fx1 fx2 c2 HX2 HB2
  generalize ((W2.setCell ⟨X,0,none⟩ (.int .i64 0)).setCell ⟨X,1,none⟩ (.string ⟨#[]⟩)).setCell ⟨X,2,none⟩ (.map none)=W3 at HX3 HB3⊢
  have x0:=HX3.out.at_ 0 (.int .i64 0) rfl
  have x1:=HX3.out.at_ 1 (.string ⟨#[]⟩) rfl
  have x2:=HX3.out.at_ 2 (.map none) rfl
  refine bodyPost_ret (v:=.tuple #[.agg #[.int .i64 0,.string ⟨#[]⟩,.map none],.bool false]) ?_ rfl ⟨by rw[HF.out];rfl,HB3.out⟩
  simp[results,Tryz.results196,go_sem,x0,x1,x2]
end
section
open Go.RowKit Go.Maps
def valueOf (ns:List aq) (n:Int) (k:ByteArray):Option Int:=(nodeAt ns n).bind (fun x=>x.aW k)
theorem mm {ns:List aq} {n:Int} {x:aq} (h:nodeAt ns n=some x):x∈ns:=List.mem_of_find?_eq_some h
theorem gM (f:Option Int):dm f=#[.bool f.isSome,.int .i64 (f.getD 0)]:=by cases f<;>rfl
theorem Gl {W:World} {b o m:Nat} {ns:List aq} {es:List aJ} {n:Int} {k:ByteArray} (h:et b o ns es m W) (hk:k.size≤maxLen):
  Calls Tryz.prog 188 #[.pointer (some ⟨b,o,none⟩),.int .i64 n,.string k] W fun e W'=>e=.returned (.agg (dm (valueOf ns n k)))∧Below W.heap.size W W':=by
 have HB1:=hid ((Below.refl W.heap.size W).alloc (Nat.le_refl _) (.cells #[.bool false,.int .i64 0] 208))
 have HX1:=hid (Loc.new W #[.bool false,.int .i64 0] 208)
 have H:=hid (h.below HB1.out)
 have HK:=hid hk
 clear h hk
 go_enter Tryz.func188,Tryz.ntmps188
 go_upto_region 1 with fail
 obtain⟨X,hX⟩:∃X,X=W.heap.size:=⟨_,rfl⟩
 have HN:=hid (Nat.le_of_eq hX.symm)
 rw[←hX] at HX1⊢
 clear hX
 generalize W.alloc (.cells #[.bool false,.int .i64 0] 208)=W1 at HB1 HX1 H⊢
 go_wp2_with fail
 refine(vD (n:=n) H.out).mono ?_
 rintro e W2 ⟨rfl,hb⟩
 have HB2:=hid (HB1.out.trans (hb.mono HB1.out.size))
 have HX2:=hid (HX1.out.grown (af hb none) (by simp))
 have H2:=hid (H.out.below hb)
 clear hb HB1 HX1 H
 cases hn:nodeAt ns n with
 | none=>
  have HV:Hid (valueOf ns n k=none):=hid (by unfold valueOf;rw[hn];rfl)
  clear hn
  unfold tE
  have HX3:=hid (HX2.out.alloc (.cells #[.int .i64 0,.string ⟨#[]⟩,.map none] 139))
  have HB3:=hid (HB2.out.alloc HB2.out.size (.cells #[.int .i64 0,.string ⟨#[]⟩,.map none] 139))
  clear HX2 HB2 H2
  go_upto_region 2 with fail
  obtain⟨Y,hY⟩:∃Y,Y=W2.heap.size:=⟨_,rfl⟩
  have HY3:=hid (Loc.new W2 #[.int .i64 0,.string ⟨#[]⟩,.map none] 139)
  rw[←hY] at HY3⊢
  clear hY
  generalize W2.alloc (.cells #[.int .i64 0,.string ⟨#[]⟩,.map none] 139)=W3 at HX3 HB3 HY3⊢
  have hnil:=Maps.look_nil (w:=W3) true nN Tryz.underlying137 (mv W3) (oY HK.out)
  have y2:=HY3.out.at_ 2 (.map none) rfl
  have x0:=HX3.out.at_ 0 (.bool false) rfl
  have x1:=HX3.out.at_ 1 (.int .i64 0) rfl
  have fx0:=HX3.out.free 0
  have fx1:=HX3.out.free 1
  go_wp2_with fail
  have HX4:=hid ((HX3.out.set 0 (.bool false)).set 1 (.int .i64 0))
  have HB4:=hid ((HB3.out.setCell (p:=⟨X,0,none⟩) HN.out (.bool false)).setCell (p:=⟨X,1,none⟩) HN.out (.int .i64 0))
  clear x0 x1 fx0 fx1 y2 HX3 HB3 HY3
  generalize (W3.setCell ⟨X,0,none⟩ (.bool false)).setCell ⟨X,1,none⟩ (.int .i64 0)=W4 at HX4 HB4⊢
  have x0:=HX4.out.at_ 0 (.bool false) rfl
  have x1:=HX4.out.at_ 1 (.int .i64 0) rfl
  refine bodyPost_ret (v:=.agg #[.bool false,.int .i64 0]) ?_ rfl ⟨by rw[HV.out];rfl,HB4.out⟩
  simp[results,Tryz.results188,go_sem,x0,x1]
 | some x=>
  obtain⟨D,hown,hD⟩:=H2.out.aW x (mm hn)
  have HO:=hid (hown.alloc (.cells #[.int .i64 x.num,.string x.label,.map (some x.bZ)] 139))
  have HD:=hid (hD k HK.out)
  have HV:Hid (valueOf ns n k=x.aW k):=hid (by unfold valueOf;rw[hn];rfl)
  clear hn hown hD
  unfold tE
  have HX3:=hid (HX2.out.alloc (.cells #[.int .i64 x.num,.string x.label,.map (some x.bZ)] 139))
  have HB3:=hid (HB2.out.alloc HB2.out.size (.cells #[.int .i64 x.num,.string x.label,.map (some x.bZ)] 139))
  clear HX2 HB2 H2
  go_upto_region 2 with fail
  obtain⟨Y,hY⟩:∃Y,Y=W2.heap.size:=⟨_,rfl⟩
  have HY3:=hid (Loc.new W2 #[.int .i64 x.num,.string x.label,.map (some x.bZ)] 139)
  rw[←hY] at HY3⊢
  clear hY
  generalize W2.alloc (.cells #[.int .i64 x.num,.string x.label,.map (some x.bZ)] 139)=W3 at HX3 HB3 HY3 HO⊢
  have y2:=HY3.out.at_ 2 (.map (some x.bZ)) rfl
  have x0:=HX3.out.at_ 0 (.bool false) rfl
  have x1:=HX3.out.at_ 1 (.int .i64 0) rfl
  have fx0:=HX3.out.free 0
  have fx1:=HX3.out.free 1
  go_wp2_with (at_lookup;refine wpList_lookup_own_ok_int _ rfl _ _ 137 rfl 9 3 .i64 nN Tryz.underlying137 Tryz.underlying3 (mv _) x.bZ m D rfl HO.out _ _ rfl (oY HK.out) ?_;intro c hat _;obtain rfl:c=(x.aW k).getD 0:=by {have e:=hat.symm.trans HD.out.2;injection e with e;injection e};rw[HD.out.1];clear hat)
  have HX4:=hid ((HX3.out.set 0 (.bool (x.aW k).isSome)).set 1 (.int .i64 ((x.aW k).getD 0)))
  have HB4:=hid ((HB3.out.setCell (p:=⟨X,0,none⟩) HN.out (.bool (x.aW k).isSome)).setCell (p:=⟨X,1,none⟩) HN.out (.int .i64 ((x.aW k).getD 0)))
  clear x0 x1 fx0 fx1 y2 HX3 HB3 HY3
  generalize (W3.setCell ⟨X,0,none⟩ (.bool (x.aW k).isSome)).setCell ⟨X,1,none⟩ (.int .i64 ((x.aW k).getD 0))=W4 at HX4 HB4⊢
  have x0:=HX4.out.at_ 0 (.bool (x.aW k).isSome) rfl
  have x1:=HX4.out.at_ 1 (.int .i64 ((x.aW k).getD 0)) rfl
  refine bodyPost_ret (v:=.agg #[.bool (x.aW k).isSome,.int .i64 ((x.aW k).getD 0)]) ?_ rfl ⟨by rw[HV.out,gM],HB4.out⟩
  simp[results,Tryz.results188,go_sem,x0,x1]
def eH (ns:List aq) (t:gj) (n:Int):Option Int:=if t.name.toList.isEmpty then some t.val else valueOf ns n t.key
theorem wa {W:World} {b o m:Nat} {ns:List aq} {es:List aJ} {n:Int} {t:gj} (h:et b o ns es m W) (hk:t.key.size≤maxLen):
  Calls Tryz.prog 264 #[.pointer (some ⟨b,o,none⟩),.agg #[.string t.name,.string t.key,.int .i64 t.val],.int .i64 n] W fun e W'=>e=.returned (.agg (dm (eH ns t n)))∧Below W.heap.size W W':=by
 obtain⟨nm,key,vl⟩:=t
 have HB0:=hid ((Below.refl W.heap.size W).alloc (Nat.le_refl _) (.cells #[.string nm,.string key,.int .i64 vl] 26))
 have HT0:=hid (Loc.new W #[.string nm,.string key,.int .i64 vl] 26)
 have HB1:=hid (HB0.out.alloc HB0.out.size (.cells #[.bool false,.int .i64 0] 208))
 have HT1:=hid (HT0.out.alloc (.cells #[.bool false,.int .i64 0] 208))
 have HX1:=hid (Loc.new (W.alloc (.cells #[.string nm,.string key,.int .i64 vl] 26)) #[.bool false,.int .i64 0] 208)
 have H:=hid ((h.below HB0.out).below ((Below.refl _ _).alloc (Nat.le_refl _) (.cells #[.bool false,.int .i64 0] 208)))
 have HK:=hid hk
 clear h hk HB0 HT0
 go_enter Tryz.func264,Tryz.ntmps264
 go_upto_region 1 with fail
 obtain⟨Y,hY⟩:∃Y,Y=W.heap.size:=⟨_,rfl⟩
 have e1:(W.alloc (.cells #[.string nm,.string key,.int .i64 vl] 26)).heap.size=Y+1:=by rw[hY];simp
 rw[e1] at HX1
 have HN:Hid (W.heap.size≤Y+1):=hid (by omega)
 rw[←hY] at HT1⊢
 clear hY e1
 generalize (W.alloc (.cells #[.string nm,.string key,.int .i64 vl] 26)).alloc (.cells #[.bool false,.int .i64 0] 208)=W1 at HB1 HT1 HX1 H⊢
 have t0:=HT1.out.at_ 0 (.string nm) rfl
 have t1:=HT1.out.at_ 1 (.string key) rfl
 have t2:=HT1.out.at_ 2 (.int .i64 vl) rfl
 cases he:nm.toList.isEmpty with
 | true=>
  have HV:Hid (eH ns ⟨nm,key,vl⟩ n=some vl):=hid (by unfold eH;rw[if_pos he])
  go_wp2_with fail
  refine(vS vl W1).mono ?_
  rintro e W2 ⟨rfl,hb⟩
  have HB2:=hid (HB1.out.trans (hb.mono HB1.out.size))
  have HX2:=hid (HX1.out.grown (af hb none) (by simp))
  clear hb HB1 HX1 HT1 H t0 t1 t2
  unfold dm
  have x0:W2.cell? ⟨Y+1,0,none⟩=some (.bool false):=(HX2.out.cell 0).trans rfl
  have x1:W2.cell? ⟨Y+1,1,none⟩=some (.int .i64 0):=(HX2.out.cell 1).trans rfl
  have fx0:=HX2.out.free 0
  have fx1:=HX2.out.free 1
  go_wp2_with fail
  have HX4:=hid ((HX2.out.set 0 (.bool true)).set 1 (.int .i64 vl))
  have HB4:=hid ((HB2.out.setCell (p:=⟨Y+1,0,none⟩) HN.out (.bool true)).setCell (p:=⟨Y+1,1,none⟩) HN.out (.int .i64 vl))
  clear x0 x1 fx0 fx1 HX2 HB2
  generalize (W2.setCell ⟨Y+1,0,none⟩ (.bool true)).setCell ⟨Y+1,1,none⟩ (.int .i64 vl)=W4 at HX4 HB4⊢
  have x0:W4.cell? ⟨Y+1,0,none⟩=some (.bool true):=(HX4.out.cell 0).trans rfl
  have x1:W4.cell? ⟨Y+1,1,none⟩=some (.int .i64 vl):=(HX4.out.cell 1).trans rfl
  refine bodyPost_ret (v:=.agg #[.bool true,.int .i64 vl]) ?_ rfl ⟨by rw[HV.out];rfl,HB4.out⟩
  simp[results,Tryz.results264,go_sem,x0,x1]
 | false=>
  have HV:Hid (eH ns ⟨nm,key,vl⟩ n=valueOf ns n key):=hid (by unfold eH;rw[if_neg (by simp[he])])
  go_wp2_with fail
  refine(Gl (n:=n) H.out HK.out).mono ?_
  rintro e W2 ⟨rfl,hb⟩
  have HB2:=hid (HB1.out.trans (hb.mono HB1.out.size))
  have HX2:=hid (HX1.out.grown (af hb none) (by simp))
  clear hb HB1 HX1 HT1 H t0 t1 t2
  rw[gM]
  generalize valueOf ns n key=r at HV⊢
  have x0:W2.cell? ⟨Y+1,0,none⟩=some (.bool false):=(HX2.out.cell 0).trans rfl
  have x1:W2.cell? ⟨Y+1,1,none⟩=some (.int .i64 0):=(HX2.out.cell 1).trans rfl
  have fx0:=HX2.out.free 0
  have fx1:=HX2.out.free 1
  go_wp2_with fail
  have HX4:=hid ((HX2.out.set 0 (.bool r.isSome)).set 1 (.int .i64 (r.getD 0)))
  have HB4:=hid ((HB2.out.setCell (p:=⟨Y+1,0,none⟩) HN.out (.bool r.isSome)).setCell (p:=⟨Y+1,1,none⟩) HN.out (.int .i64 (r.getD 0)))
  clear x0 x1 fx0 fx1 HX2 HB2
  generalize (W2.setCell ⟨Y+1,0,none⟩ (.bool r.isSome)).setCell ⟨Y+1,1,none⟩ (.int .i64 (r.getD 0))=W4 at HX4 HB4⊢
  have x0:W4.cell? ⟨Y+1,0,none⟩=some (.bool r.isSome):=(HX4.out.cell 0).trans rfl
  have x1:W4.cell? ⟨Y+1,1,none⟩=some (.int .i64 (r.getD 0)):=(HX4.out.cell 1).trans rfl
  refine bodyPost_ret (v:=.agg #[.bool r.isSome,.int .i64 (r.getD 0)]) ?_ rfl ⟨by rw[HV.out,gM],HB4.out⟩
  simp[results,Tryz.results264,go_sem,x0,x1]
def mB (op:Int) (a b:Option Int):Bool:=
 if op==7 then !a.isSome else if op==8 then a.isSome else if !a.isSome || !b.isSome then false
 else if op==1 then fT a b==0 else if op==2 then fT a b != 0 else if op==3 then decide (fT a b<0)
 else if op==4 then decide (fT a b≤0) else if op==5 then decide (fT a b > 0) else decide (fT a b≥0)
theorem JW (op:Int) (a b:Option Int) (W:World):
  Calls Tryz.prog 330 #[.int .i64 op,.agg (dm a),.agg (dm b)] W fun e W'=>e=.returned (.bool (mB op a b))∧Below W.heap.size W W':=by
 have HB1:=hid ((Below.refl W.heap.size W).alloc (Nat.le_refl _) (.cells (dm a) 208))
 have HB2:=hid (HB1.out.alloc HB1.out.size (.cells (dm b) 208))
 cases a with
 | none=>
  cases b<;>unfold dm at HB2⊢
  all_goals
   go_enter Tryz.func330,Tryz.ntmps330
   go_wp2_with fail
   all_goals (go_ret;exact⟨by simp[mB, *],HB2.out⟩)
 | some x=>
  cases b with
  | none=>
   unfold dm at HB2⊢
   go_enter Tryz.func330,Tryz.ntmps330
   go_wp2_with fail
   all_goals (go_ret;exact⟨by simp[mB, *],HB2.out⟩)
  | some y=>
   unfold dm at HB2⊢
   go_enter Tryz.func330,Tryz.ntmps330
   go_wp2_with (go_at_call 193;refine(FX (some x) (some y) _).mono ?_;rintro e w' ⟨rfl,hb⟩;have HB3:=hid (HB2.out.trans (hb.mono HB2.out.size));clear hb)
   all_goals (go_ret;first|exact⟨by simp[mB, *],HB3.out⟩|exact⟨by simp[mB, *],HB2.out⟩)
end
section
open Go.RowKit Go.Maps Go.Sort
theorem bF.look {W:World} {b n:Nat} {f:ByteArray→Option Int} (h:bF W b n f) {s:ByteArray} (hs:s.size≤maxLen):
  (Instr.lookup 137 (.map (some b)) (.string s) false).run Tryz.prog W=.ok (.int .i64 ((f s).getD 0)) W:=by
 obtain⟨D,ho,hD⟩:=h
 obtain⟨c,hrun,hat,_⟩:=ho.lookup_int nN Tryz.underlying137 Tryz.underlying3 (mv W) (oY hs)
 have e:=hat.symm.trans (hD s hs).2
 obtain rfl:c=(f s).getD 0:=by {injection e with e;injection e}
 exact hrun
def kD (ns:List aq) (f:ByteArray→Option Int) (c:bP):Bool:=mB c.op (eH ns c.a ((f c.a.name).getD 0)) (eH ns c.b ((f c.b.name).getD 0))
def wu (c:bP):Prop:=c.a.name.size≤maxLen∧c.a.key.size≤maxLen∧c.b.name.size≤maxLen∧c.b.key.size≤maxLen
theorem Eg {W:World} {b o m mb B:Nat} {ns:List aq} {es:List aJ} {f:ByteArray→Option Int} {ao:Option Addr} {cap:Nat} {l:List bP} (h:et b o ns es m W) (hb:bF W B mb f) (hl:l.length≤1000) (hok:∀c∈l,wu c)
  (hs:bO W 7 (.slice ao l.length cap) l.length (l.flatMap kk)):
  Calls Tryz.prog 285 #[.pointer (some ⟨b,o,none⟩),.slice ao l.length cap,.map (some B)] W fun e W'=>e=.returned (.bool (l.all (kD ns f)))∧Below W.heap.size W W':=by
 have H:=hid h
 have HP:=hid hb
 have HS:=hid hs
 have HK:=hid hok
 clear h hb hs hok
 go_enter Tryz.func285,Tryz.ntmps285
 go_wp2_with fail
 go_loopg [11] l.length (fun n iv w=>∃k:Nat,iv=.int .i64 (k:Int)∧k+n=l.length∧(l.take k).all (kD ns f)=true∧Below W.heap.size W w)
 case atStart=>exact⟨0,rfl,by omega,by simp,Below.refl _ _⟩
 case round=>
  obtain⟨k,rfl,hk,hall,hbw⟩:=hrel
  have HA:=hid hall
  have HB:=hid hbw
  clear hall hbw
  by_cases hlt:k<l.length
  ·obtain⟨g,oo,rfl,hcell⟩:=bY (l:=l) kk (fun _=>rfl) (HS.out.below HB.out) hlt
   obtain⟨y,hy⟩:∃y,l[k]=y:=⟨_,rfl⟩
   have HY:=hid hy
   have HYK:=hid (HK.out y (by rw[←hy];exact List.getElem_mem hlt))
   rw[hy] at hcell
   clear hy
   obtain⟨op,⟨an,ak,av⟩,⟨bn,bk,bv⟩⟩:=y
   have p0:wr.cell? ⟨g,oo+k*7,none⟩=some (.int .i64 op):=hcell 0 (by decide)
   have p1:wr.cell? ⟨g,oo+k*7+1,none⟩=some (.string an):=hcell 1 (by decide)
   have p2:wr.cell? ⟨g,oo+k*7+2,none⟩=some (.string ak):=hcell 2 (by decide)
   have p3:wr.cell? ⟨g,oo+k*7+3,none⟩=some (.int .i64 av):=hcell 3 (by decide)
   have p4:wr.cell? ⟨g,oo+k*7+4,none⟩=some (.string bn):=hcell 4 (by decide)
   have p5:wr.cell? ⟨g,oo+k*7+5,none⟩=some (.string bk):=hcell 5 (by decide)
   have p6:wr.cell? ⟨g,oo+k*7+6,none⟩=some (.int .i64 bv):=hcell 6 (by decide)
   have hki:(k:Int)<(l.length:Int):=by omega
   clear hcell
   go_upto_region 4 with fail
   have HC:=hid (Loc.new wr #[.int .i64 op,.string an,.string ak,.int .i64 av,.string bn,.string bk,.int .i64 bv] 87)
   have HB1:=hid (HB.out.alloc HB.out.size (.cells #[.int .i64 op,.string an,.string ak,.int .i64 av,.string bn,.string bk,.int .i64 bv] 87))
   clear p0 p1 p2 p3 p4 p5 p6 HB
   obtain⟨Y,hY⟩:∃Y,Y=wr.heap.size:=⟨_,rfl⟩
   rw[←hY] at HC⊢
   clear hY
   generalize wr.alloc (.cells #[.int .i64 op,.string an,.string ak,.int .i64 av,.string bn,.string bk,.int .i64 bv] 87)=W1 at HC HB1⊢
   have c0:=cell_regrown ((HC.out.cell 0).trans rfl:W1.cell? ⟨Y,0,none⟩=some (.int .i64 op))
   have c1:=cell_regrown ((HC.out.cell 1).trans rfl:W1.cell? ⟨Y,1,none⟩=some (.string an))
   have c2:=cell_regrown ((HC.out.cell 2).trans rfl:W1.cell? ⟨Y,2,none⟩=some (.string ak))
   have c3:=cell_regrown ((HC.out.cell 3).trans rfl:W1.cell? ⟨Y,3,none⟩=some (.int .i64 av))
   have c4:=cell_regrown ((HC.out.cell 4).trans rfl:W1.cell? ⟨Y,4,none⟩=some (.string bn))
   have c5:=cell_regrown ((HC.out.cell 5).trans rfl:W1.cell? ⟨Y,5,none⟩=some (.string bk))
   have c6:=cell_regrown ((HC.out.cell 6).trans rfl:W1.cell? ⟨Y,6,none⟩=some (.int .i64 bv))
   have HBR:=hid (fun d os=>HB1.out.trans ((below_regrown W1 d os).mono HB1.out.size))
   have la:∀d os,(Instr.lookup 137 (.map (some B)) (.string an) false).run Tryz.prog (grow (redrawn W1 d) os)=.ok (.int .i64 ((f an).getD 0)) (grow (redrawn W1 d) os):=fun d os=>(HP.out.kept (af (HBR.out d os) none) (by simp)).look HYK.out.1
   have lb:∀d os,(Instr.lookup 137 (.map (some B)) (.string bn) false).run Tryz.prog (grow (redrawn W1 d) os)=.ok (.int .i64 ((f bn).getD 0)) (grow (redrawn W1 d) os):=fun d os=>(HP.out.kept (af (HBR.out d os) none) (by simp)).look HYK.out.2.2.1
   have HE:Hid (kD ns f l[k]=mB op (eH ns ⟨an,ak,av⟩ ((f an).getD 0)) (eH ns ⟨bn,bk,bv⟩ ((f bn).getD 0))):=hid (by rw[HY.out];rfl)
   have cA:∀d os,Calls Tryz.prog 264 #[.pointer (some ⟨b,o,none⟩),.agg #[.string an,.string ak,.int .i64 av],.int .i64 ((f an).getD 0)] (grow (redrawn W1 d) os) fun e w''=>e=.returned (.agg (dm (eH ns ⟨an,ak,av⟩ ((f an).getD 0))))∧∃p:Regrown,w''=grow (redrawn W1 p.d) p.os:=
    fun d os=>Calls.regrown_of (wa (t:=⟨an,ak,av⟩) (H.out.below (HBR.out d os)) HYK.out.2.1)
   have cB:∀d os,Calls Tryz.prog 264 #[.pointer (some ⟨b,o,none⟩),.agg #[.string bn,.string bk,.int .i64 bv],.int .i64 ((f bn).getD 0)] (grow (redrawn W1 d) os) fun e w''=>e=.returned (.agg (dm (eH ns ⟨bn,bk,bv⟩ ((f bn).getD 0))))∧∃p:Regrown,w''=grow (redrawn W1 p.d) p.os:=
    fun d os=>Calls.regrown_of (wa (t:=⟨bn,bk,bv⟩) (H.out.below (HBR.out d os)) HYK.out.2.2.2)
   have HCA:=hid cA
   have HCB:=hid cB
   clear cA cB
   generalize eH ns ⟨an,ak,av⟩ ((f an).getD 0)=ta at HE HCA
   generalize eH ns ⟨bn,bk,bv⟩ ((f bn).getD 0)=tb at HE HCB
   have HCH:Hid (∀d os,Calls Tryz.prog 330 #[.int .i64 op,.agg (dm ta),.agg (dm tb)] (grow (redrawn W1 d) os) fun e w''=>e=.returned (.bool (mB op ta tb))∧∃p:Regrown,w''=grow (redrawn W1 p.d) p.os):=
    hid fun d os=>Calls.regrown_of (JW op ta tb _)
   generalize (f an).getD 0=ia at la HCA
   generalize (f bn).getD 0=ib at lb HCB
   refine wp_region_quiet_below (by kernel_rfl) (by kernel_rfl) ?_
   iterate 10 (quiet_step (fail))
   quiet_step (exact HCA.out _ _)
   iterate 8 (quiet_step (fail))
   quiet_step (exact HCB.out _ _)
   quiet_step (exact HCH.out _ _)
   quiet_step (fail)
   refine wpQuiet_nil ?_
   intro W2 hw
   have HB2:Hid (Below W.heap.size W W2):=hid (by obtain⟨⟨dq,osq⟩,rfl⟩:=hw;exact HBR.out dq osq)
   clear hw la lb c0 c1 c2 c3 c4 c5 c6 HCA HCB HCH HBR HB1 HC
   generalize mB op ta tb=r at HE⊢
   cases r with
   | true=>
    go_wp2_with fail
    go_roundg (gk - 1)
    case rel=>
     refine⟨k+1,by simp,by omega,?_,HB2.out⟩
     rw[List.take_add_one,List.getElem?_eq_getElem hlt,List.all_append,HA.out]
     simp[HE.out]
    case measure=>omega
   | false=>
    have HR:Hid (l.all (kD ns f)=false):=hid (by rw[List.all_eq_false];exact⟨l[k],List.getElem_mem hlt,by rw[HE.out];simp⟩)
    go_wp2_with fail
    go_ret
    exact⟨by rw[HR.out];rfl,HB2.out⟩
  ·have hki:¬(k:Int)<(l.length:Int):=by omega
   have HR:Hid (l.all (kD ns f)=true):=hid (by have:=HA.out;rwa [List.take_of_length_le (by omega)] at this)
   go_wp2_with fail
   go_ret
   exact⟨by rw[HR.out];rfl,HB.out⟩
end
section
open Go.RowKit Go.Maps
theorem xL {W:World} {b n:Nat} {S:aI→Bool} {nm:ByteArray} {r:aI} (h:bm W b n S) (hr:D5 r):
  Calls Tryz.prog 141 #[.agg #[.string nm,.map (some b)],nf r] W fun e W'=>e=.returned (.bool (S r))∧Below W.heap.size W W':=by
 obtain⟨D,ho,hS⟩:=h
 obtain⟨v,a,c⟩:=r
 unfold nf
 have hs:=hS _ hr
 go_enter Tryz.func141,Tryz.ntmps141
 go_wp2_with (at_lookup;refine wpList_lookup_own_unit _ rfl _ _ 116 rfl 224 273 Ie Tryz.underlying116 (ID _) b n D rfl ((ho.alloc _).alloc _) _ _ rfl (FR hr) ?_;rw[hs])
 go_ret
 refine⟨rfl,?_⟩
 have b1:=(Below.refl W.heap.size W).alloc (Nat.le_refl _) (Obj.cells #[Value.string nm,Value.map (some b)] 118)
 have b2:=b1.alloc b1.size (Obj.cells #[Value.int .i64 v,Value.string a,Value.string c] 224)
 exact b2.alloc b2.size _
end
end Go.Proofs.YtobgbmfpicmpcaaGreatDoor
