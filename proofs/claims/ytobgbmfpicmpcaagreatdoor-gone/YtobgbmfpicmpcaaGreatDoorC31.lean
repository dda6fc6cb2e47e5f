/- Contracts of Go's library, laid at this program's own numbers by the shelf's one command and its plain mode. -/
import Derived.Shelf.SlGeneric
import Derived.Shelf.SlSortCmp.WholeK
import Derived.Test.YtobgbmfpicmpcaaGreatDoorProg
import Derived.Test.YtobgbmfpicmpcaaGreatDoorC30
import Derived.Test.YtobgbmfpicmpcaaGreatDoorC05
import Derived.Shelf.SlSortCmp.QuietGrown
import Derived.Lib.SmallJoins
import Derived.Lib.Hide
set_option maxRecDepth 100000
set_option maxHeartbeats 8000000
namespace Go.Proofs.YtobgbmfpicmpcaaGreatDoor
open Go.Lib (hid)
end Go.Proofs.YtobgbmfpicmpcaaGreatDoor
namespace Go.Proofs
open Go.Shelf
def Tryz.sortLine_ren : Go.Shelf.Ren := ⟨fun | 6 => 136 | 15 => 192 | 14 => 191 | 28 => 252 | 29 => 253 | 20 => 244 | 21 => 245 | 22 => 246 | 23 => 247 | 24 => 248 | 25 => 249 | 26 => 250 | 27 => 251 | 46 => 287 | 47 => 288 | 48 => 289 | 49 => 290 | 50 => 291 | 57 => 331 | n => n, fun | 22 => 205 | 24 => 210 | 25 => 218 | 3 => 3 | 39 => 204 | 0 => 0 | 53 => 327 | 55 => 278 | 4 => 4 | 46 => 321 | 45 => 320 | 50 => 154 | 5 => 5 | 9 => 9 | 66 => 363 | 70 => 367 | 76 => 395 | 77 => 396 | n => n, fun | n => n⟩
theorem Tryz.sortLine : Go.Proofs.SlLaysF0.n6 Tryz.prog Tryz.sortLine_ren := {
  mixed := by kernel_rfl
  f6 := ⟨Tryz.f136.name, by decide, Tryz.func136.trans (congrArg some (by kernel_rfl))⟩
  f14 := ⟨Tryz.f191.name, by decide, Tryz.func191.trans (congrArg some (by kernel_rfl))⟩
  f15 := Tryz.func192.trans (congrArg some (by kernel_rfl))
  f20 := ⟨Tryz.f244.name, by decide, Tryz.func244.trans (congrArg some (by kernel_rfl))⟩
  f21 := ⟨Tryz.f245.name, by decide, Tryz.func245.trans (congrArg some (by kernel_rfl))⟩
  f22 := ⟨Tryz.f246.name, by decide, Tryz.func246.trans (congrArg some (by kernel_rfl))⟩
  f23 := ⟨Tryz.f247.name, by decide, Tryz.func247.trans (congrArg some (by kernel_rfl))⟩
  f24 := ⟨Tryz.f248.name, by decide, Tryz.func248.trans (congrArg some (by kernel_rfl))⟩
  f25 := ⟨Tryz.f249.name, by decide, Tryz.func249.trans (congrArg some (by kernel_rfl))⟩
  f26 := ⟨Tryz.f250.name, by decide, Tryz.func250.trans (congrArg some (by kernel_rfl))⟩
  f27 := ⟨Tryz.f251.name, by decide, Tryz.func251.trans (congrArg some (by kernel_rfl))⟩
  f28 := Tryz.func252.trans (congrArg some (by kernel_rfl))
  f29 := Tryz.func253.trans (congrArg some (by kernel_rfl))
  f46 := ⟨Tryz.f287.name, by decide, Tryz.func287.trans (congrArg some (by kernel_rfl))⟩
  f47 := Tryz.func288.trans (congrArg some (by kernel_rfl))
  f48 := Tryz.func289.trans (congrArg some (by kernel_rfl))
  f49 := ⟨Tryz.f290.name, by decide, Tryz.func290.trans (congrArg some (by kernel_rfl))⟩
  f50 := ⟨Tryz.f291.name, by decide, Tryz.func291.trans (congrArg some (by kernel_rfl))⟩
  f57 := ⟨Tryz.f331.name, by decide, Tryz.func331.trans (congrArg some (by kernel_rfl))⟩
  t0 := Tryz.underlying0
  a0 := Tryz.isAgg0
  z0 := Tryz.sizeOf0
  v0 := Tryz.zeroValue0
  t3 := Tryz.underlying3
  a3 := Tryz.isAgg3
  z3 := Tryz.sizeOf3
  v3 := Tryz.zeroValue3
  t4 := Tryz.underlying4
  a4 := Tryz.isAgg4
  z4 := Tryz.sizeOf4
  v4 := Tryz.zeroValue4
  t5 := Tryz.underlying5
  a5 := Tryz.isAgg5
  z5 := Tryz.sizeOf5
  v5 := Tryz.zeroValue5
  t9 := Tryz.underlying9
  a9 := Tryz.isAgg9
  z9 := Tryz.sizeOf9
  v9 := Tryz.zeroValue9
  t22 := Tryz.underlying205
  a22 := Tryz.isAgg205
  z22 := Tryz.sizeOf205
  v22 := Tryz.zeroValue205
  t25 := Tryz.underlying218
  a25 := Tryz.isAgg218
  z25 := Tryz.sizeOf218
  v25 := Tryz.zeroValue218
  t39 := Tryz.underlying204
  a39 := Tryz.isAgg204
  z39 := Tryz.sizeOf204
  v39 := Tryz.zeroValue204
  t45 := Tryz.underlying320
  a45 := Tryz.isAgg320
  z45 := Tryz.sizeOf320
  v45 := Tryz.zeroValue320
  t46 := Tryz.underlying321
  a46 := Tryz.isAgg321
  z46 := Tryz.sizeOf321
  v46 := Tryz.zeroValue321
  t50 := Tryz.underlying154
  a50 := Tryz.isAgg154
  z50 := Tryz.sizeOf154
  v50 := Tryz.zeroValue154
  t53 := Tryz.underlying327
  a53 := Tryz.isAgg327
  z53 := Tryz.sizeOf327
  v53 := Tryz.zeroValue327
  t55 := Tryz.underlying278
  a55 := Tryz.isAgg278
  z55 := Tryz.sizeOf278
  v55 := Tryz.zeroValue278
  t66 := Tryz.underlying363
  a66 := Tryz.isAgg363
  z66 := Tryz.sizeOf363
  v66 := Tryz.zeroValue363
  t70 := Tryz.underlying367
  a70 := Tryz.isAgg367
  z70 := Tryz.sizeOf367
  v70 := Tryz.zeroValue367
  t76 := Tryz.underlying395
  a76 := Tryz.isAgg395
  z76 := Tryz.sizeOf395
  v76 := Tryz.zeroValue395
  t77 := Tryz.underlying396
  a77 := Tryz.isAgg396
  z77 := Tryz.sizeOf396
  v77 := Tryz.zeroValue396 }
end Go.Proofs
namespace Go.Proofs.YtobgbmfpicmpcaaGreatDoor
open Go.Lib (hid)
section
open Go.RowKit Go.Maps Go.Sort
structure fV {α:Type} (f:α→α→Int):Prop where
 kJ:∀a b,f b a=-(f a b)
 trans:∀a b c,f a b≤0→f b c≤0→f a c≤0
def DF {α:Type} (f g:α→α→Int) (a b:α):Int:=if f a b=0 then g a b else f a b
theorem fV.both {α:Type} {f g:α→α→Int} (hf:fV f) (hg:fV g):fV (DF f g):=by
 refine⟨fun a b=>?_,fun a b c h1 h2=>?_⟩
 ·unfold DF
  rw[hf.kJ a b,hg.kJ a b]
  by_cases h:f a b=0
  ·simp[h]
  ·rw[if_neg (by omega),if_neg h]
 ·unfold DF at h1 h2⊢
  have f1:f a b≤0:=by
   by_cases h:f a b=0
   ·omega
   ·rwa [if_neg h] at h1
  have f2:f b c≤0:=by
   by_cases h:f b c=0
   ·omega
   ·rwa [if_neg h] at h2
  have f3:=hf.trans a b c f1 f2
  by_cases h:f a c=0
  ·have h4:f c a≤0:=by rw[hf.kJ a c];omega
   have h5:=hf.trans b c a f2 h4
   rw[hf.kJ a b] at h5
   have h6:=hf.trans c a b h4 f1
   rw[hf.kJ b c] at h6
   rw[if_pos (by omega)] at h1 h2
   rw[if_pos h]
   exact hg.trans a b c h1 h2
  ·rw[if_neg h];exact f3
theorem fV.zero {α:Type}:fV (fun _ _:α=>(0:Int)):=⟨fun _ _=>rfl,fun _ _ _ _ _=>Int.le_refl 0⟩
theorem fV.neg {α:Type} {f:α→α→Int} (hf:fV f):fV (fun a b=>-(f a b)):=by
 refine⟨fun a b=>by rw[hf.kJ a b],fun a b c h1 h2=>?_⟩
 have h3:=hf.trans c b a (by rw[hf.kJ b c];omega) (by rw[hf.kJ a b];omega)
 rw[hf.kJ a c] at h3
 omega
theorem fV.on {α β:Type} {f:β→β→Int} (hf:fV f) (k:α→β):fV (fun a b=>f (k a) (k b)):=⟨fun _ _=>hf.kJ _ _,fun _ _ _ h1 h2=>hf.trans _ _ _ h1 h2⟩
theorem wi:fV fT:=by
 have hi:∀a b:Int,Lib.compareInt a b=if a<b then -1 else if b<a then 1 else 0:=fun a b=>by
  unfold Lib.compareInt
  rfl
 refine⟨fun a b=>?_,fun a b c h1 h2=>?_⟩
 ·cases a<;>cases b<;>simp only[fT,hi]<;>first|rfl|(split<;>split<;>first|rfl|omega)
 ·cases a<;>cases b<;>cases c<;>simp only[fT,hi] at h1 h2⊢<;>first|omega|(split at h1<;>split at h2<;>split<;>first|omega|(split<;>omega))
theorem IG {a b:Option Int} (h:fT a b=0):a=b:=by
 cases a<;>cases b<;>simp[fT,Lib.compareInt] at h⊢
 split at h
 ·cases h
 ·split at h
  ·cases h
  ·omega
abbrev L6:={l:bK // l.length=6}
theorem sx:∀(d k:Nat),k+d=6→fV (fun a b:L6=>cmpL (a.1.drop k) (b.1.drop k))
 | 0,k,h=>by
  have e:(fun a b:L6=>cmpL (a.1.drop k) (b.1.drop k))=fun _ _=>0:=by
   funext a b
   rw[List.drop_eq_nil_of_le (by have:=a.2;omega)]
   rfl
  rw[e]
  exact fV.zero
 | d+1,k,h=>by
  have e:(fun a b:L6=>cmpL (a.1.drop k) (b.1.drop k))=DF (fun a b:L6=>fT (gV a.1 k) (gV b.1 k)) (fun a b:L6=>cmpL (a.1.drop (k+1)) (b.1.drop (k+1))):=by
   funext a b
   rw[qa a.2 b.2 (by omega)]
   rfl
  rw[e]
  exact(wi.on (fun a:L6=>gV a.1 k)).both (sx d (k+1) (by omega))
theorem Ch:fV (fun a b:L6=>cmpL a.1 b.1):=by simpa using sx 6 0 rfl
theorem rE (order:Int) (down:Bool):fV (fun a b:L6=>kH order down a.1 b.1):=by
 by_cases h:0<order
 ·have e:(fun a b:L6=>kH order down a.1 b.1)=DF (fun a b:L6=>if down then -(fT (gV a.1 (order - 1).toNat) (gV b.1 (order - 1).toNat)) else fT (gV a.1 (order - 1).toNat) (gV b.1 (order - 1).toNat)) (fun a b:L6=>cmpL a.1 b.1):=by
   funext a b
   unfold kH DF
   rw[if_pos h]
  rw[e]
  refine fV.both ?_ Ch
  cases down with
  | true=>exact(wi.on (fun a:L6=>gV a.1 (order - 1).toNat)).neg
  | false=>exact wi.on (fun a:L6=>gV a.1 (order - 1).toNat)
 ·have e:(fun a b:L6=>kH order down a.1 b.1)=fun a b:L6=>cmpL a.1 b.1:=by
   funext a b
   unfold kH
   rw[if_neg h]
  rw[e]
  exact Ch
theorem rU:∀(d k:Nat) (a b:L6),k+d=6→cmpL (a.1.drop k) (b.1.drop k)=0→a.1.drop k=b.1.drop k
 | 0,k,a,b,h,_=>by rw[List.drop_eq_nil_of_le (by have:=a.2;omega),List.drop_eq_nil_of_le (by have:=b.2;omega)]
 | d+1,k,a,b,h,h0=>by
  rw[qa a.2 b.2 (by omega)] at h0
  by_cases hz:fT (gV a.1 k) (gV b.1 k)=0
  ·rw[if_pos hz] at h0
   have h1:=rU d (k+1) a b (by omega) h0
   have ha:k<a.1.length:=by have:=a.2;omega
   have hb:k<b.1.length:=by have:=b.2;omega
   rw[List.drop_eq_getElem_cons ha,List.drop_eq_getElem_cons hb,h1]
   have h2:=IG hz
   unfold gV at h2
   rw[List.getElem?_eq_getElem ha,List.getElem?_eq_getElem hb] at h2
   simp only[Option.getD_some] at h2
   rw[h2]
  ·rw[if_neg hz] at h0
   exact absurd h0 hz
theorem Cf {order:Int} {down:Bool} {a b:L6} (h:kH order down a.1 b.1=0):a=b:=by
 have hl:cmpL a.1 b.1=0:=by
  unfold kH at h
  by_cases ho:0<order
  ·rw[if_pos ho] at h
   simp only at h
   generalize (if down then -(fT (gV a.1 (order - 1).toNat) (gV b.1 (order - 1).toNat)) else fT (gV a.1 (order - 1).toNat) (gV b.1 (order - 1).toNat))=o at h
   by_cases h1:o=0
   ·rwa [if_pos h1] at h
   ·rw[if_neg h1] at h
    exact absurd h h1
  ·rwa [if_neg ho] at h
 exact Subtype.ext (by simpa using rU 6 0 a b rfl (by simpa using hl))
theorem fV.swo {α:Type} {f:α→α→Int} (hf:fV f):SWO (ltOf f):=by
 have hlt:∀x y,ltOf f x y=decide (f x y<0):=fun x y=>rfl
 refine⟨fun x=>?_,fun x y z h1 h2=>?_,fun x y z h1 h2=>?_⟩
 ·have:=hf.kJ x x
  rw[hlt]
  simp;omega
 ·rw[hlt] at*
  simp only[decide_eq_true_eq] at*
  have h3:=hf.trans x y z (by omega) (by omega)
  by_cases h:f x z=0
  ·have h4:=hf.trans z x y (by rw[hf.kJ x z];omega) (by omega)
   rw[hf.kJ y z] at h4
   omega
  ·omega
 ·rw[hlt] at*
  simp only[decide_eq_false_iff_not] at*
  have h3:=hf.trans z y x (by rw[hf.kJ y z];omega) (by rw[hf.kJ x y];omega)
  rw[hf.kJ x z] at h3
  omega
end
section
open Go.RowKit Go.Maps Go.Sort
theorem sq {α:Type} {f:α→α→Int} (hf:fV f) (he:∀a b,f a b=0→a=b):∀(xs ys:List α),xs.Perm ys→xs.Pairwise (fun a b=>ltOf f b a=false)→ys.Pairwise (fun a b=>ltOf f b a=false)→xs=ys
 | [],ys,hp,_,_=>by rw[List.nil_perm.1 hp]
 | x::r,[],hp,_,_=>by cases List.perm_nil.1 hp
 | x::r,y::s,hp,h1,h2=>by
  have hlt:∀a b,ltOf f a b=false→f b a≤0:=fun a b h=>by
   have h3:¬f a b<0:=by simpa [ltOf] using h
   rw[hf.kJ a b]
   omega
  have hxy:f x y≤0:=by
   rcases List.mem_cons.1 (hp.symm.subset List.mem_cons_self) with e|e
   ·rw[e]
    have:=hf.kJ x x
    omega
   ·exact hlt y x ((List.pairwise_cons.1 h1).1 y e)
  have hyx:f y x≤0:=by
   rcases List.mem_cons.1 (hp.subset List.mem_cons_self) with e|e
   ·rw[←e]
    have:=hf.kJ x x
    omega
   ·exact hlt x y ((List.pairwise_cons.1 h2).1 x e)
  have e:x=y:=he x y (by rw[hf.kJ x y] at hyx;omega)
  subst e
  rw[sq hf he r s ((List.perm_cons x).1 hp) (List.pairwise_cons.1 h1).2 (List.pairwise_cons.1 h2).2]
end
section
open Go.RowKit Go.Maps
def ix (skip bR:Int) (ls:List bK):List bK:=if bR<0 then ls.drop skip.toNat else (ls.drop skip.toNat).take bR.toNat
theorem vF:∀(ls:List bK) (k:Nat),(ls.flatMap fo).drop (k*12)=(ls.drop k).flatMap fo
 | [],k=>by simp
 | l::r,0=>by simp
 | l::r,k+1=>by
  rw[List.flatMap_cons,show (k+1)*12=(fo l).length+k*12 by simp[fo];omega,List.drop_length_add_append,List.drop_succ_cons,←vF r k]
theorem vK:∀(ls:List bK) (k:Nat),(ls.flatMap fo).take (k*12)=(ls.take k).flatMap fo
 | [],k=>by simp
 | l::r,0=>by simp
 | l::r,k+1=>by
  rw[List.flatMap_cons,show (k+1)*12=(fo l).length+k*12 by simp[fo];omega,List.take_length_add_append,List.take_succ_cons,List.flatMap_cons,←vK r k]
theorem Ds {w:World} {ao:Option Addr} {n cp k:Nat} {xs:List Value} (h:bO w 12 (.slice ao n cp) n xs) (hk:k≤n):bO w 12 (.slice (if cp=k then ao else Option.map (fun x=>x.add (k*12)) ao) (n - k) (cp - k)) (n - k) (xs.drop (k*12)):=by
 obtain⟨hl,ao',cap',e,hc,hx⟩:=h
 injection e with e1 _ e3
 subst e1 e3
 refine⟨by rw[List.length_drop,hl,Nat.sub_mul],_,_,rfl,by omega,fun hn=>?_⟩
 obtain⟨g,o,rfl,hcell⟩:=hx (by omega)
 rw[if_neg (by omega)]
 refine⟨g,o+k*12,by simp[Addr.add_mid],fun j u hj=>?_⟩
 rw[List.getElem?_drop] at hj
 rw[Nat.add_assoc]
 exact hcell _ u hj
theorem Dm {w:World} {ao:Option Addr} {n cp m:Nat} {xs:List Value} (h:bO w 12 (.slice ao n cp) n xs) (hm:m≤n):bO w 12 (.slice ao m cp) m (xs.take (m*12)):=by
 obtain⟨hl,ao',cap',e,hc,hx⟩:=h
 injection e with e1 _ e3
 subst e1 e3
 refine⟨by rw[List.length_take,hl];exact Nat.min_eq_left (Nat.mul_le_mul_right 12 hm),_,_,rfl,by omega,fun hn=>?_⟩
 obtain⟨g,o,rfl,hcell⟩:=hx (by omega)
 refine⟨g,o,rfl,fun j u hj=>?_⟩
 rw[List.getElem?_take] at hj
 split at hj
 ·exact hcell j u hj
 ·cases hj
theorem JU {W:World} {ao:Option Addr} {cp:Nat} {ls:List bK} {cs:Array Value} {skip bR:Int} (hs:bO W 12 (.slice ao ls.length cp) ls.length (ls.flatMap fo)) (hl:ls.length≤1000000) (h6:cs[6]?=some (.int .i64 skip)) (h7:cs[7]?=some (.int .i64 bR)) (hb:0≤skip∧skip≤1000000000∧-1≤bR∧bR≤1000000000):
  Calls Tryz.prog 140 #[.slice ao ls.length cp,.agg cs] W fun e W'=>(∃ap c,e=.returned (.slice ap (ix skip bR ls).length c)∧bO W' 12 (.slice ap (ix skip bR ls).length c) (ix skip bR ls).length ((ix skip bR ls).flatMap fo))∧Below W.heap.size W W':=by
 have HB1:=hid ((Below.refl W.heap.size W).alloc (Nat.le_refl _) (.cells cs 29))
 have HQ1:=hid (Loc.new W cs 29)
 have HS:=hid hs
 have HH6:=hid h6
 have HH7:=hid h7
 obtain⟨hb1,hb2,hb3,hb4⟩:=hb
 have hcap:ls.length≤cp:=by obtain⟨_,_,_,e,h,_⟩:=hs;injection e with _ _ e;omega
 clear hs h6 h7
 obtain⟨k,rfl⟩:∃k:Nat,skip=(k:Int):=⟨skip.toNat,by omega⟩
 go_enter Tryz.func140,Tryz.ntmps140
 go_upto_region 1 with fail
 obtain⟨Z,hZ⟩:∃Z,Z=W.heap.size:=⟨_,rfl⟩
 rw[←hZ] at HQ1⊢
 clear hZ
 generalize W.alloc (.cells cs 29)=W1 at HB1 HQ1⊢
 have c6:W1.cell? ⟨Z,6,none⟩=some (.int .i64 (k:Int)):=(HQ1.out.cell 6).trans HH6.out
 have c7:W1.cell? ⟨Z,7,none⟩=some (.int .i64 bR):=(HQ1.out.cell 7).trans HH7.out
 obtain⟨k',hk1,hk2,hk3⟩:∃k':Nat,min (k:Int) (ls.length:Int)=(k':Int)∧k'≤ls.length∧ls.drop k=ls.drop k':=by
  by_cases hk:k≤ls.length
  ·exact⟨k,by omega,hk,rfl⟩
  ·exact⟨ls.length,by omega,Nat.le_refl _,by rw[List.drop_eq_nil_of_le (by omega),List.drop_eq_nil_of_le (Nat.le_refl _)]⟩
 have hki:(k':Int)≤(ls.length:Int):=by omega
 have HDK:=hid hk3
 have HSD:=hid (Ds (HS.out.below HB1.out) hk2)
 rw[vF] at HSD
 clear hk3
 go_upto_region 2 with fail
 obtain⟨ap,hap⟩:∃ap,(if cp=k' then ao else Option.map (fun x=>x.add (k'*12)) ao)=ap:=⟨_,rfl⟩
 obtain⟨n2,hn2⟩:∃n2,ls.length - k'=n2:=⟨_,rfl⟩
 obtain⟨c2,hc2⟩:∃c2,cp - k'=c2:=⟨_,rfl⟩
 have hnc:n2≤c2:=by omega
 have hn3:n2≤1000000:=by omega
 have HN2:Hid ((ls.drop k).length=n2):=hid (by rw[HDK.out,List.length_drop];exact hn2)
 rw[hap,hn2,hc2] at HSD⊢
 rw[←HDK.out] at HSD
 clear hap hn2 hc2 c6 hk1 hki hk2 hcap
 by_cases hneg:bR<0
 ·have HE:Hid (ix (k:Int) bR ls=ls.drop k):=hid (by unfold ix;rw[if_pos hneg];rfl)
  go_wp2_with fail
  go_ret
  refine⟨⟨ap,c2,?_,?_⟩,HB1.out⟩
  ·rw[HE.out,HN2.out];rfl
  ·rw[HE.out,HN2.out];exact HSD.out
 ·obtain⟨m,rfl⟩:∃m:Nat,bR=(m:Int):=⟨bR.toNat,by omega⟩
  obtain⟨m',hm1,hm2,hm3⟩:∃m':Nat,min (m:Int) (n2:Int)=(m':Int)∧m'≤n2∧(ls.drop k).take m=(ls.drop k).take m':=by
   by_cases hm:m≤n2
   ·exact⟨m,by omega,hm,rfl⟩
   ·refine⟨n2,by omega,Nat.le_refl _,?_⟩
    rw[List.take_of_length_le (by have:=HN2.out;omega),List.take_of_length_le (by have:=HN2.out;omega)]
  have HE:Hid (ix (k:Int) (m:Int) ls=(ls.drop k).take m'):=hid (by unfold ix;rw[if_neg hneg,←hm3];rfl)
  have HST:=hid (Dm HSD.out hm2)
  rw[vK] at HST
  have HLM:Hid (((ls.drop k).take m').length=m'):=hid (by rw[List.length_take];have:=HN2.out;omega)
  have hmi:(m':Int)≤(n2:Int):=by omega
  have hmc:(m':Int)≤(c2:Int):=by omega
  clear hm3
  go_wp2_with fail
  go_ret
  refine⟨⟨ap,c2,?_,?_⟩,HB1.out⟩
  ·rw[HE.out,HLM.out];rfl
  ·rw[HE.out,HLM.out];exact HST.out
end
section
open Go.RowKit Go.Maps Go.Sort
instance:Inhabited L6:=⟨⟨fc,rfl⟩⟩
def e6 (x:L6):List Value:=fo x.1
theorem sR (x:L6):(e6 x).length=12:=rfl
theorem EO (d:Array L6):(flatK e6 12 d).toList=d.toList.flatMap e6:=by
 have hlen:(d.toList.flatMap e6).length=d.size*12:=by
  rw[List.length_flatMap]
  simp[sR,List.map_const',List.sum_replicate_nat]
 refine List.ext_getElem (by simp[hlen]) fun t h1 h2=>?_
 have ht:t<d.size*12:=by rw[hlen] at h2;exact h2
 have hq:t / 12<d.toList.length:=by simp;omega
 have h3:=om e6 sR d.toList (t / 12) hq (t % 12) (Nat.mod_lt _ (by decide))
 have e:t / 12*12+t % 12=t:=by omega
 rw[e,List.getElem?_eq_getElem h2] at h3
 have h4:(e6 d.toList[t / 12])[t % 12]?=some ((e6 d.toList[t / 12])[t % 12]'(by rw[sR];exact Nat.mod_lt _ (by decide))):=List.getElem?_eq_getElem _
 rw[h4] at h3
 injection h3 with h3
 rw[h3]
 have h5:=get_flatK e6 12 d t ht
 rw[getElem!_pos (flatK e6 12 d) t (by simpa using ht)] at h5
 rw[Array.getElem_toList,h5]
 have h6:d[t / 12]! = d.toList[t / 12]:=by rw[getElem!_pos d (t / 12) (by simpa using hq)];simp
 rw[h6,getElem!_pos _ (t % 12) (by rw[sR];exact Nat.mod_lt _ (by decide))]
theorem C2 {w:World} {g cap n:Nat} {d:Array L6} (h:w.ownsRow 0 210 12 (.slice (some ⟨g,0,none⟩) n cap) n (d.toList.flatMap e6)) (hn:n=d.size):HoldsK e6 12 w g 0 d:=by
 intro j hj
 have hj':j<d.size*12:=by simpa using hj
 rcases h.2 with ⟨hv,_⟩|⟨g',cap',cur,hv,_,hg,hnc,_,hs,ht⟩
 ·cases hv
 ·injection hv with h1 _ _
  injection h1 with h1
  injection h1 with h1 _
  subst h1
  have hl:Loc w g cur 210:=hg
  refine⟨?_,by rw[Nat.zero_add];exact hl.free j⟩
  rw[Nat.zero_add,hl.cell j]
  have h7:(cur.toList.take (n*12))[j]?=(d.toList.flatMap e6)[j]?:=by rw[ht]
  rw[List.getElem?_take,if_pos (by omega)] at h7
  rw[←EO] at h7
  simp only[Array.getElem?_toList] at h7
  rw[h7,Array.getElem?_eq_getElem hj,getElem!_pos _ j hj]
  rfl
end
section
open Go.RowKit Go.Maps Go.Sort
theorem ya (cur F:Array Value) (h:F.size≤cur.size):(putCells id 0 F cur).toList.take F.size=F.toList:=by
 refine List.ext_getElem (by simp[putCells];omega) fun t h1 h2=>?_
 have ht:t<F.size:=by simpa using h2
 rw[List.getElem_take,Array.getElem_toList]
 simp[putCells,ht]
theorem yF {w:World} {g m:Nat} {d:Array L6} {os:Array Obj} {cur:Array Value} {T:TypeId} (hg:w.heap[g]?=some (.cells cur T (0,0))):
  (sortWorldK e6 12 w g 0 m d os).heap[g]?=some (.cells (putCells id 0 (flatK e6 12 d) cur) T (0,0)):=by
 have hlt:g<w.heap.size:=lt_of_block hg
 have e:(sortWorldK e6 12 w g 0 m d os).heap=(w.heap.modify g (onCells (putCells id 0 (flatK e6 12 d))))++os:=rfl
 rw[e,Array.getElem?_append_left (by simpa using hlt),Array.getElem?_modify,if_pos rfl,hg]
 rfl
theorem qO {w:World} {g m:Nat} {d:Array L6} {os:Array Obj}:Kept (fun k=>k=g) w (sortWorldK e6 12 w g 0 m d os):=by
 have e:(sortWorldK e6 12 w g 0 m d os).heap=(w.heap.modify g (onCells (putCells id 0 (flatK e6 12 d))))++os:=rfl
 refine⟨rfl,rfl,rfl,by rw[e];simp,fun k hk hn=>?_⟩
 rw[e,Array.getElem?_append_left (by simpa using hk),Array.getElem?_modify,if_neg (fun h=>hn h.symm)]
theorem AV {w:World} {g m n cap:Nat} {d:Array L6} {os:Array Obj} {xs:List Value} (h:w.ownsRow 0 210 12 (.slice (some ⟨g,0,none⟩) n cap) n xs) (hd:d.size=n):(sortWorldK e6 12 w g 0 m d os).ownsRow 0 210 12 (.slice (some ⟨g,0,none⟩) n cap) n (d.toList.flatMap e6):=by
 have hF:(flatK e6 12 d).size=n*12:=by simp[hd]
 refine⟨by rw[←EO];simp[hd],?_⟩
 rcases h.2 with ⟨hv,_⟩|⟨g',cap',cur,hv,hb,hg,hnc,hm,hs,_⟩
 ·cases hv
 ·injection hv with h1 _ h3
  injection h1 with h1
  injection h1 with h1 _
  subst h1 h3
  refine Or.inr ⟨g,cap,_,rfl,hb,yF hg,hnc,hm,by simp[putCells,hs],?_⟩
  rw[←hF,ya cur _ (by rw[hF,hs];exact Nat.mul_le_mul_right 12 hnc),EO]
end
section
open Go.RowKit Go.Maps Go.Sort
def Grown (W w:World):Prop:=∃q os,w=grow (W.drewN q) os
theorem Grown.refl (W:World):Grown W W:=⟨0,#[],by simp[World.drewN]⟩
theorem Grown.trans {a b c:World} (h:Grown a b) (k:Grown b c):Grown a c:=by
 obtain⟨q,os,rfl⟩:=h
 obtain⟨q',os',rfl⟩:=k
 refine⟨q+q',os++os',?_⟩
 show grow (grow ((a.drewN q).drewN q') os) os'=_
 rw[grow_grow,World.drewN_drewN]
theorem Grown.alloc {W w:World} (h:Grown W w) (o:Obj):Grown W (w.alloc o):=h.trans ⟨0,#[o],by rw[alloc_eq_grow];simp[World.drewN]⟩
theorem Grown.below {W w:World} (h:Grown W w):Below W.heap.size W w:=by
 obtain⟨q,os,rfl⟩:=h
 exact(Joins.below_draws _ W q).trans (sy (W.drewN q) os)
theorem Grown.drew {W w:World} (h:Grown W w):Grown W w.drew:=h.trans ⟨1,#[],by simp[World.drewN]⟩
end
section
open Go.RowKit Go.Maps Go.Sort
theorem uP (a b:Option Int) (W:World):Calls Tryz.prog 193 #[.agg (dm a),.agg (dm b)] W fun e W'=>e=.returned (.int .i64 (fT a b))∧Grown W W':=by
 have HB1:=hid ((Grown.refl W).alloc (.cells (dm a) 208))
 have HB2:=hid (HB1.out.alloc (.cells (dm b) 208))
 cases a<;>cases b<;>unfold dm at HB2⊢
 all_goals
  go_enter Tryz.func193,Tryz.ntmps193
  go_wp2_with (go_at_call 254;refine(Tryz.cmp_Compare_int _ _ _).mono ?_;rintro e w' ⟨rfl,hw⟩;obtain rfl:=hw.symm)
  go_ret
  exact⟨rfl,HB2.out⟩
theorem qk {W:World} {X Y:Nat} {a b:bK} (ha:Loc W X (ee a) 210) (hb:Loc W Y (ee b) 210) (la:a.length=6) (lb:b.length=6):
  Calls Tryz.prog 194 #[.slice (some ⟨X,0,none⟩) 6 6,.slice (some ⟨Y,0,none⟩) 6 6,.func (.func 193) #[] #[]] W fun e W'=>e=.returned (.int .i64 (cmpL a b))∧Grown W W':=by
 have HA:=hid ha
 have HB:=hid hb
 have HLA:=hid la
 have HLB:=hid lb
 clear ha hb la lb
 go_enter Tryz.func194,Tryz.ntmps194
 go_wp2_with fail
 go_loopg [13] 6 (fun c iv w=>∃k:Nat,iv=.int .i64 (k:Int)∧k+c=6∧cmpL a b=cmpL (a.drop k) (b.drop k)∧Grown W w)
 case atStart=>exact⟨0,rfl,by omega,by simp,Grown.refl _⟩
 case round=>
  obtain⟨k,rfl,hk,hc,hbw⟩:=hrel
  have HC:=hid hc
  have HW:=hid hbw
  clear hc hbw
  by_cases hlt:k<6
  ·have hki:(k:Int)<6:=by omega
   have hka:=HA.out.grown (af HW.out.below none) (by simp)
   have hkb:=HB.out.grown (af HW.out.below none) (by simp)
   have HN:=hid (qa HLA.out HLB.out hlt)
   obtain⟨x,hx⟩:∃x,gV a k=x:=⟨_,rfl⟩
   obtain⟨y,hy⟩:∃y,gV b k=y:=⟨_,rfl⟩
   have x0:wr.cell? ⟨X,k*2,none⟩=some (.bool x.isSome):=(hka.cell (k*2)).trans ((gY hlt).1.trans (by rw[←hx];rfl))
   have x1:wr.cell? ⟨X,k*2+1,none⟩=some (.int .i64 (x.getD 0)):=(hka.cell (k*2+1)).trans ((gY hlt).2.trans (by rw[←hx];rfl))
   have y0:(wr.alloc (.cells #[.bool x.isSome,.int .i64 (x.getD 0)] 208)).cell? ⟨Y,k*2,none⟩=some (.bool y.isSome):=((hkb.alloc (.cells #[.bool x.isSome,.int .i64 (x.getD 0)] 208)).cell (k*2)).trans ((gY hlt).1.trans (by rw[←hy];rfl))
   have y1:(wr.alloc (.cells #[.bool x.isSome,.int .i64 (x.getD 0)] 208)).cell? ⟨Y,k*2+1,none⟩=some (.int .i64 (y.getD 0)):=((hkb.alloc (.cells #[.bool x.isSome,.int .i64 (x.getD 0)] 208)).cell (k*2+1)).trans ((gY hlt).2.trans (by rw[←hy];rfl))
   rw[hx,hy] at HN
   have HW1:=hid (HW.out.alloc (.cells #[.bool x.isSome,.int .i64 (x.getD 0)] 208))
   have HW2:=hid (HW1.out.alloc (.cells #[.bool y.isSome,.int .i64 (y.getD 0)] 208))
   have HCC:=hid (fun w=>uP x y w)
   rw[gM,gM] at HCC
   clear hka hkb hx hy
   go_wp2_with fail
   refine(HCC.out _).mono ?_
   rintro e W3 ⟨rfl,hb3⟩
   have HW3:=hid (HW2.out.trans hb3)
   clear hb3 x0 x1 y0 y1
   have hcb:=sH x y
   by_cases hz:fT x y=0
   ·have HE:Hid (cmpL a b=cmpL (a.drop (k+1)) (b.drop (k+1))):=hid (by rw[HC.out,HN.out,if_pos hz])
    rw[hz]
    clear hz hcb
    go_wp2_with fail
    go_roundg (gk - 1)
    case rel=>exact⟨k+1,by simp,by omega,HE.out,HW3.out⟩
    case measure=>omega
   ·have HE:Hid (cmpL a b=fT x y):=hid (by rw[HC.out,HN.out,if_neg hz])
    have hzb:(fT x y != 0)=true:=by simpa using hz
    generalize fT x y=c at HE hcb hzb⊢
    clear hz
    obtain⟨hc1,hc2⟩:=hcb
    go_wp2_with fail
    go_ret
    exact⟨by rw[HE.out];rfl,HW3.out⟩
  ·have hki:¬(k:Int)<6:=by omega
   have HE:Hid (cmpL a b=0):=hid (by rw[HC.out,List.drop_eq_nil_of_le (by have:=HLA.out;omega)];rfl)
   go_wp2_with fail
   go_ret
   exact⟨by rw[HE.out];rfl,HW.out⟩
end
section
open Go.RowKit Go.Maps Go.Sort
theorem Dv {W:World} {a b:bK} {cs:Array Value} {order:Int} {down:Bool} (la:a.length=6) (lb:b.length=6) (h4:cs[4]?=some (.int .i64 order)) (h5:cs[5]?=some (.bool down)) (ho:0≤order∧order≤6):
  Calls Tryz.prog 138 #[.agg (ee a),.agg (ee b),.agg cs] W fun e W'=>e=.returned (.int .i64 (kH order down a b))∧Grown W W':=by
 have hb1:=(Grown.refl W).alloc (.cells (ee a) 210)
 have hb2:=hb1.alloc (.cells (ee b) 210)
 have HB3:=hid (hb2.alloc (.cells cs 29))
 have HX:=hid (((Loc.new W (ee a) 210).alloc (.cells (ee b) 210)).alloc (.cells cs 29))
 have HY:=hid ((Loc.new (W.alloc (.cells (ee a) 210)) (ee b) 210).alloc (.cells cs 29))
 have HQ:=hid (Loc.new ((W.alloc (.cells (ee a) 210)).alloc (.cells (ee b) 210)) cs 29)
 have HH4:=hid h4
 have HH5:=hid h5
 have HLA:=hid la
 have HLB:=hid lb
 clear hb1 hb2 h4 h5 la lb
 go_enter Tryz.func138,Tryz.ntmps138
 go_upto_region 1 with fail
 rw[World.size_alloc] at HY HQ
 rw[World.size_alloc] at HQ
 obtain⟨X,hX⟩:∃X,X=W.heap.size:=⟨_,rfl⟩
 obtain⟨Y,hY⟩:∃Y,Y=W.heap.size+1:=⟨_,rfl⟩
 obtain⟨Z,hZ⟩:∃Z,Z=W.heap.size+1+1:=⟨_,rfl⟩
 rw[←hZ] at HQ⊢
 rw[←hY] at HY⊢
 rw[←hX] at HX⊢
 clear hX hY hZ
 generalize ((W.alloc (.cells (ee a) 210)).alloc (.cells (ee b) 210)).alloc (.cells cs 29)=W3 at HB3 HX HY HQ⊢
 have q4:W3.cell? ⟨Z,4,none⟩=some (.int .i64 order):=(HQ.out.cell 4).trans HH4.out
 by_cases hpos:0<order
 ·obtain⟨n,rfl⟩:∃n:Nat,order=(n:Int)+1:=⟨(order - 1).toNat,by omega⟩
  have hn6:n<6:=by omega
  have hni:(n:Int)<6:=by omega
  have hwr:IntKind.i64.wrap (n:Int)=(n:Int):=by simp[IntKind.wrap,IntKind.bits,IntKind.signed];omega
  obtain⟨x,hx⟩:∃x,gV a n=x:=⟨_,rfl⟩
  obtain⟨y,hy⟩:∃y,gV b n=y:=⟨_,rfl⟩
  have HEQ:Hid (∀d,kH ((n:Int)+1) d a b=if (if d then -(fT x y) else fT x y)=0 then cmpL a b else (if d then -(fT x y) else fT x y)):=hid (by
   intro d
   unfold kH
   rw[if_pos hpos,show ((n:Int)+1 - 1).toNat=n by omega,hx,hy])
  have x0:=cell_grown (w:=W3) (a:=⟨X,n*2,none⟩) HX.out.lt ((HX.out.cell (n*2)).trans ((gY hn6).1.trans (by rw[←hx];rfl):(ee a)[n*2]?=some (.bool x.isSome)))
  have x1:=cell_grown (w:=W3) (a:=⟨X,n*2+1,none⟩) HX.out.lt ((HX.out.cell (n*2+1)).trans ((gY hn6).2.trans (by rw[←hx];rfl):(ee a)[n*2+1]?=some (.int .i64 (x.getD 0))))
  have y0:=cell_grown (w:=W3) (a:=⟨Y,n*2,none⟩) HY.out.lt ((HY.out.cell (n*2)).trans ((gY hn6).1.trans (by rw[←hy];rfl):(ee b)[n*2]?=some (.bool y.isSome)))
  have y1:=cell_grown (w:=W3) (a:=⟨Y,n*2+1,none⟩) HY.out.lt ((HY.out.cell (n*2+1)).trans ((gY hn6).2.trans (by rw[←hy];rfl):(ee b)[n*2+1]?=some (.int .i64 (y.getD 0))))
  have r4:=cell_grown (block_lt_of_cell q4) q4
  have HCV:=hid (fun w=>uP x y w)
  rw[gM,gM] at HCV
  have HC:Hid (∀d os,Calls Tryz.prog 193 #[.agg #[.bool x.isSome,.int .i64 (x.getD 0)],.agg #[.bool y.isSome,.int .i64 (y.getD 0)]] (grow (W3.drewN d) os) fun e w''=>e=.returned (.int .i64 (fT x y))∧∃p:GrownBy,w''=grow (W3.drewN p.n) p.os):=hid fun d os=>Calls.grown_of (HCV.out _)
  clear hx hy
  go_upto_region 2 with fail
  refine wp_region_quiet_grown (by kernel_rfl) (by kernel_rfl) ?_
  iterate 10 (quiet_step (fail))
  quiet_step (exact HC.out _ _)
  quiet_step (fail)
  refine wpQuiet_nil ?_
  intro W4 hw
  have hg4:Grown W3 W4:=(by obtain⟨⟨dq,osq⟩,rfl⟩:=hw;exact⟨dq,osq,rfl⟩)
  have hb4:=hg4.below
  have HB4:=hid (HB3.out.trans hg4)
  have HX4:=hid (HX.out.grown (af hb4 none) (by simp))
  have HY4:=hid (HY.out.grown (af hb4 none) (by simp))
  have HQ4:=hid (HQ.out.grown (af hb4 none) (by simp))
  clear hg4 hb4 hw x0 x1 y0 y1 r4 q4 hwr HC HCV HB3 HX HY HQ
  have q5:W4.cell? ⟨Z,5,none⟩=some (.bool down):=(HQ4.out.cell 5).trans HH5.out
  have HVB:=hid (sH x y)
  obtain⟨c,hc⟩:∃c,fT x y=c:=⟨_,rfl⟩
  rw[hc] at HEQ HVB⊢
  clear hc
  have hc1:=HVB.out.1
  have hc2:=HVB.out.2
  cases down with
  | true=>
   by_cases hz:c=0
   ·subst hz
    have HE:Hid (kH ((n:Int)+1) true a b=cmpL a b):=hid (by rw[HEQ.out];rfl)
    have HCF:Hid (∀d os,Calls Tryz.prog 194 #[.slice (some ⟨X,0,none⟩) 6 6,.slice (some ⟨Y,0,none⟩) 6 6,.func (.func 193) #[] #[]] (grow (W4.drewN d) os) fun e w''=>e=.returned (.int .i64 (cmpL a b))∧∃p:GrownBy,w''=grow (W4.drewN p.n) p.os):=hid fun d os=>Calls.grown_of (qk (HX4.out.grown (af (Grown.below (W:=W4) ⟨d,os,rfl⟩) none) (by simp)) (HY4.out.grown (af (Grown.below (W:=W4) ⟨d,os,rfl⟩) none) (by simp)) HLA.out HLB.out)
    go_upto_region 7 with fail
    refine wp_region_quiet_grown (by kernel_rfl) (by kernel_rfl) ?_
    iterate 2 (quiet_step (fail))
    quiet_step (exact HCF.out _ _)
    quiet_step (fail)
    refine wpQuiet_nil ?_
    intro W9 hw
    have HB9:Hid (Grown W W9):=hid (by obtain⟨⟨dq,osq⟩,rfl⟩:=hw;exact HB4.out.trans ⟨dq,osq,rfl⟩)
    clear hw
    go_wp2_with fail
    go_ret
    exact⟨by rw[HE.out];rfl,HB9.out⟩
   ·have hzb:(-c != 0)=true:=by simp;omega
    have HE:Hid (kH ((n:Int)+1) true a b=-c):=hid (by rw[HEQ.out];simp only[if_true];rw[if_neg (by omega)])
    go_wp2_with fail
    go_ret
    exact⟨by rw[HE.out];rfl,HB4.out⟩
  | false=>
   by_cases hz:c=0
   ·subst hz
    have HE:Hid (kH ((n:Int)+1) false a b=cmpL a b):=hid (by rw[HEQ.out];rfl)
    have HCF:Hid (∀d os,Calls Tryz.prog 194 #[.slice (some ⟨X,0,none⟩) 6 6,.slice (some ⟨Y,0,none⟩) 6 6,.func (.func 193) #[] #[]] (grow (W4.drewN d) os) fun e w''=>e=.returned (.int .i64 (cmpL a b))∧∃p:GrownBy,w''=grow (W4.drewN p.n) p.os):=hid fun d os=>Calls.grown_of (qk (HX4.out.grown (af (Grown.below (W:=W4) ⟨d,os,rfl⟩) none) (by simp)) (HY4.out.grown (af (Grown.below (W:=W4) ⟨d,os,rfl⟩) none) (by simp)) HLA.out HLB.out)
    go_upto_region 7 with fail
    refine wp_region_quiet_grown (by kernel_rfl) (by kernel_rfl) ?_
    iterate 2 (quiet_step (fail))
    quiet_step (exact HCF.out _ _)
    quiet_step (fail)
    refine wpQuiet_nil ?_
    intro W9 hw
    have HB9:Hid (Grown W W9):=hid (by obtain⟨⟨dq,osq⟩,rfl⟩:=hw;exact HB4.out.trans ⟨dq,osq,rfl⟩)
    clear hw
    go_wp2_with fail
    go_ret
    exact⟨by rw[HE.out];rfl,HB9.out⟩
   ·have hzb:(c != 0)=true:=by simp;omega
    have HE:Hid (kH ((n:Int)+1) false a b=c):=hid (by rw[HEQ.out];simp only[Bool.false_eq_true,if_false];rw[if_neg hz])
    go_wp2_with fail
    go_ret
    exact⟨by rw[HE.out];rfl,HB4.out⟩
 ·have HE:Hid (kH order down a b=cmpL a b):=hid (by unfold kH;rw[if_neg hpos])
  have HCF:Hid (∀d os,Calls Tryz.prog 194 #[.slice (some ⟨X,0,none⟩) 6 6,.slice (some ⟨Y,0,none⟩) 6 6,.func (.func 193) #[] #[]] (grow (W3.drewN d) os) fun e w''=>e=.returned (.int .i64 (cmpL a b))∧∃p:GrownBy,w''=grow (W3.drewN p.n) p.os):=hid fun d os=>Calls.grown_of (qk (HX.out.grown (af (Grown.below (W:=W3) ⟨d,os,rfl⟩) none) (by simp)) (HY.out.grown (af (Grown.below (W:=W3) ⟨d,os,rfl⟩) none) (by simp)) HLA.out HLB.out)
  go_upto_region 7 with fail
  refine wp_region_quiet_grown (by kernel_rfl) (by kernel_rfl) ?_
  iterate 2 (quiet_step (fail))
  quiet_step (exact HCF.out _ _)
  quiet_step (fail)
  refine wpQuiet_nil ?_
  intro W9 hw
  have HB9:Hid (Grown W W9):=hid (by obtain⟨⟨dq,osq⟩,rfl⟩:=hw;exact HB3.out.trans ⟨dq,osq,rfl⟩)
  clear hw
  go_wp2_with fail
  go_ret
  exact⟨by rw[HE.out];rfl,HB9.out⟩
theorem Iu {W:World} {a b:bK} {Q:Nat} {cs:Array Value} {order:Int} {down:Bool} (hq:Loc W Q cs 29) (hs:cs.size=17) (la:a.length=6) (lb:b.length=6) (h4:cs[4]?=some (.int .i64 order)) (h5:cs[5]?=some (.bool down)) (ho:0≤order∧order≤6):
  Calls Tryz.prog 137 #[.agg (ee a),.agg (ee b),.pointer (some ⟨Q,0,none⟩)] W fun e W'=>e=.returned (.int .i64 (kH order down a b))∧Grown W W':=by
 have hb1:=(Grown.refl W).alloc (.cells (ee a) 210)
 have HB2:=hid (hb1.alloc (.cells (ee b) 210))
 have HX:=hid ((Loc.new W (ee a) 210).alloc (.cells (ee b) 210))
 have HY:=hid (Loc.new (W.alloc (.cells (ee a) 210)) (ee b) 210)
 have HQ:=hid ((hq.alloc (.cells (ee a) 210)).alloc (.cells (ee b) 210))
 have HC:=hid (fun w:World=>Dv (W:=w) la lb h4 h5 ho)
 have HS:=hid hs
 clear hb1 hq hs la lb h4 h5 ho
 go_enter Tryz.func137,Tryz.ntmps137
 go_upto_region 1 with fail
 rw[World.size_alloc] at HY
 obtain⟨X,hX⟩:∃X,X=W.heap.size:=⟨_,rfl⟩
 obtain⟨Y,hY⟩:∃Y,Y=W.heap.size+1:=⟨_,rfl⟩
 rw[←hY] at HY⊢
 rw[←hX] at HX⊢
 clear hX hY
 generalize (W.alloc (.cells (ee a) 210)).alloc (.cells (ee b) 210)=W2 at HB2 HX HY HQ⊢
 refine wp_region_lit ?_
 refine wpList_load_mid rfl 210 _ rfl X 0 rfl (ee a).toList _ HX.out.range Tryz.underlying210 rfl (by rw[Tryz.hQ];rfl) ?_
 refine wpList_load_mid rfl 210 _ rfl Y 0 rfl (ee b).toList _ HY.out.range Tryz.underlying210 rfl (by rw[Tryz.hQ];rfl) ?_
 refine wpList_load_mid rfl 29 _ rfl Q 0 rfl cs.toList _ HQ.out.range Tryz.underlying29 rfl (by rw[Tryz.aX];simp[HS.out]) ?_
 simp only[Array.toArray_toList]
 go_wp2_with fail
 refine(HC.out _).mono ?_
 rintro e W3 ⟨rfl,hb3⟩
 have HB3:=hid (HB2.out.trans hb3)
 clear hb3
 go_wp2_with fail
 go_ret
 exact⟨rfl,HB3.out⟩
end
section
open Go.RowKit Go.Maps Go.Sort
theorem Tryz.JZ (args:Array Value) (w:World):(callFunc 137 args).run Tryz.prog w=.ok (.enter 137 args) w:=by go_simp
theorem KO {W:World} {g cap Q:Nat} {d:Array L6} {cs:Array Value} {order:Int} {down:Bool} (hr:W.ownsRow 0 210 12 (.slice (some ⟨g,0,none⟩) d.size cap) d.size (d.toList.flatMap e6)) (hq:Loc W Q cs 29) (hne:Q≠g) (hs:cs.size=17) (h4:cs[4]?=some (.int .i64 order)) (h5:cs[5]?=some (.bool down)) (ho:0≤order∧order≤6) (hsz:d.size≤1000000):
  Calls Tryz.prog 136 #[.slice (some ⟨g,0,none⟩) d.size cap,.func (.func 137) #[] #[.pointer (some ⟨Q,0,none⟩)]] W fun e W'=>e=.returned (.tuple #[])∧∃d':Array L6,d'.size=d.size∧d'.toList.Perm d.toList∧d'.toList.Pairwise (fun a b=>ltOf (fun a b:L6=>kH order down a.1 b.1) b a=false)∧W'.ownsRow 0 210 12 (.slice (some ⟨g,0,none⟩) d.size cap) d.size (d'.toList.flatMap e6)∧Kept (fun k=>k=g) W W':=by
 have hcl:CmpLays Tryz.prog 137 #[.pointer (some ⟨Q,0,none⟩)] e6 12 (fun a b:L6=>kH order down a.1 b.1) g 0 d.size W:=by
  intro m os dk _ x y
  have hq':Loc (sortWorldK e6 12 W g 0 m dk os) Q cs 29:=(qO.block Q hq.lt hne).trans hq
  exact Iu hq' hs x.2 y.2 h4 h5 ho
 have hlt:g<W.heap.size:=(hr.lt g rfl).2
 have hcon:=AnyQ.slices_SortFunc Tryz.sortLine 12 Tryz.isAgg210 Tryz.sizeOf210 e6 sR (fun x=>rZ x.1) (fun a b:L6=>kH order down a.1 b.1) (rE order down).swo 137 #[.pointer (some ⟨Q,0,none⟩)] g 0 cap d W Tryz.JZ hcl (C2 hr rfl) hlt (by omega)
 change Calls Tryz.prog 136 _ _ _ at hcon
 refine hcon.mono ?_
 rintro e W' ⟨rfl,d',n,os,hp,hst,rfl⟩
 have hsd:d'.size=d.size:=hp.1
 refine⟨rfl,d',hsd,?_,?_,AV hr hsd,qO⟩
 ·have h1:=hp.2.2
  have e1:d'.extract 0 d.size=d':=by rw[←hsd];simp
  have e2:d.extract 0 d.size=d:=by simp
  rwa [e1,e2] at h1
 ·refine List.pairwise_iff_getElem.2 fun i j hi hj hij=>?_
  have h1:=hst i j (Nat.zero_le _) hij (by rw[←hsd];simpa using hj)
  rw[getElem!_pos d' j (by simpa using hj),getElem!_pos d' i (by simpa using hi)] at h1
  simpa using h1
end
end Go.Proofs.YtobgbmfpicmpcaaGreatDoor
