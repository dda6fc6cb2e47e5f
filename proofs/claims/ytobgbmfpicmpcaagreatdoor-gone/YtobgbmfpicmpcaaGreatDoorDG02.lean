/- The queries of veilkeep, as plain functions of raw numbers; their texts. No program in this text. -/
import Derived.Test.YtobgbmfpicmpcaaGreatDoorC17
import Derived.Test.YtobgbmfpicmpcaaGreatDoorC38
import Derived.Shelf.SlIter.Nil
import Derived.Shelf.SlIter.Sorted
import Derived.Shelf.SortM.Plain
import Derived.Shelf.SortM.SortNone
import Derived.Test.YtobgbmfpicmpcaaGreatDoorProg
import Derived.Test.YtobgbmfpicmpcaaGreatDoorC21
import Derived.Test.YtobgbmfpicmpcaaGreatDoorC26
import Derived.Test.YtobgbmfpicmpcaaGreatDoorC31
import Derived.Test.YtobgbmfpicmpcaaGreatDoorC30
import Derived.Test.YtobgbmfpicmpcaaGreatDoorC28
import Derived.Test.YtobgbmfpicmpcaaGreatDoorC32
import Derived.Test.YtobgbmfpicmpcaaGreatDoorC29
import Derived.Test.YtobgbmfpicmpcaaGreatDoorC35
import Derived.Test.YtobgbmfpicmpcaaGreatDoorC37
import Derived.Test.YtobgbmfpicmpcaaGreatDoorC25
import Derived.Lib.Hide
set_option maxRecDepth 100000
set_option maxHeartbeats 8000000
namespace Go.Proofs.YtobgbmfpicmpcaaGreatDoor
open Go.Lib (hid)
def vB (i:Int):ByteArray:=if i=0 then ⟨#[97]⟩ else if i=1 then ⟨#[98]⟩ else ⟨#[99]⟩
def kB:ByteArray:=⟨#[107]⟩
def tB:ByteArray:=⟨#[84]⟩
def uB:ByteArray:=⟨#[85]⟩
def cz (i:Int) (l:ByteArray):aN:=⟨vB i,l,e0,0,0⟩
namespace Pure
theorem gr (a b:ByteArray):(a++b).data.toList=a.data.toList++b.data.toList:=by simp[ByteArray.data_append]
theorem MR (l:List UInt8):(⟨l.toArray⟩:ByteArray).data.toList=l:=by simp
theorem ad (i:Int):bN (vB i)=true:=by
 unfold vB
 split
 ·decide +kernel
 ·split<;>decide +kernel
theorem ft:bN kB=true:=by decide +kernel
theorem bc (i:Int) {l:ByteArray} (h:cD l=true):fU (cz i l):=⟨ad i,Or.inr h,Or.inl ⟨rfl,rfl,rfl⟩⟩
theorem F3:cD tB=true:=by decide +kernel
theorem fY:cD uB=true:=by decide +kernel
theorem p8:lO ⟨e0,e0⟩:=Or.inl ⟨rfl,rfl⟩
end Pure
end Go.Proofs.YtobgbmfpicmpcaaGreatDoor
namespace Go.Proofs
open Go.Shelf
def Tryz.kc : Go.Shelf.Ren := ⟨fun | 7 => 146 | 10 => 203 | n => n, fun | 23 => 137 | 26 => 9 | 3 => 3 | 28 => 231 | 0 => 0 | 27 => 230 | 33 => 42 | 4 => 4 | n => n, fun | n => n⟩
theorem Tryz.Mb : Go.Proofs.SlLaysZ.n7 Tryz.prog Tryz.kc := {
  mixed := by kernel_rfl
  f7 := ⟨Tryz.f146.name, by decide, Tryz.func146.trans (congrArg some (by kernel_rfl))⟩
  f10 := ⟨Tryz.f203.name, by decide, Tryz.func203.trans (congrArg some (by kernel_rfl))⟩
  t0 := Tryz.underlying0
  a0 := Tryz.isAgg0
  z0 := Tryz.sizeOf0
  v0 := Tryz.zeroValue0
  t4 := Tryz.underlying4
  a4 := Tryz.isAgg4
  z4 := Tryz.sizeOf4
  v4 := Tryz.zeroValue4
  t23 := Tryz.underlying137
  a23 := Tryz.isAgg137
  z23 := Tryz.sizeOf137
  v23 := Tryz.zeroValue137
  t26 := Tryz.underlying9
  a26 := Tryz.isAgg9
  z26 := Tryz.sizeOf9
  v26 := Tryz.zeroValue9
  t27 := Tryz.underlying230
  a27 := Tryz.isAgg230
  z27 := Tryz.sizeOf230
  v27 := Tryz.zeroValue230
  t28 := Tryz.underlying231
  a28 := Tryz.isAgg231
  z28 := Tryz.sizeOf231
  v28 := Tryz.zeroValue231
  t33 := Tryz.underlying42
  a33 := Tryz.isAgg42
  z33 := Tryz.sizeOf42
  v33 := Tryz.zeroValue42 }
def Tryz.ep : Go.Shelf.Ren := ⟨fun | 6 => 145 | 8 => 201 | 9 => 202 | 11 => 267 | 13 => 192 | 12 => 268 | 23 => 252 | 24 => 253 | 14 => 307 | 15 => 308 | 16 => 309 | 17 => 310 | 18 => 311 | 19 => 312 | 20 => 313 | 21 => 314 | 22 => 315 | 25 => 342 | 26 => 288 | 27 => 289 | 28 => 343 | 29 => 344 | 30 => 345 | 31 => 359 | n => n, fun | 26 => 9 | 28 => 231 | 24 => 56 | 0 => 0 | 3 => 3 | 37 => 204 | 48 => 327 | 50 => 278 | 4 => 4 | 40 => 321 | 39 => 320 | 45 => 154 | 5 => 5 | 9 => 9 | 51 => 363 | 55 => 367 | 57 => 395 | 58 => 396 | 33 => 42 | n => n, fun | n => n⟩
theorem Tryz.LU : Go.Proofs.SlLaysZ.n6 Tryz.prog Tryz.ep := {
  mixed := by kernel_rfl
  f6 := ⟨Tryz.f145.name, by decide, Tryz.func145.trans (congrArg some (by kernel_rfl))⟩
  f8 := ⟨Tryz.f201.name, by decide, Tryz.func201.trans (congrArg some (by kernel_rfl))⟩
  f11 := ⟨Tryz.f267.name, by decide, Tryz.func267.trans (congrArg some (by kernel_rfl))⟩
  t0 := Tryz.underlying0
  a0 := Tryz.isAgg0
  z0 := Tryz.sizeOf0
  v0 := Tryz.zeroValue0
  t24 := Tryz.underlying56
  a24 := Tryz.isAgg56
  z24 := Tryz.sizeOf56
  v24 := Tryz.zeroValue56
  t26 := Tryz.underlying9
  a26 := Tryz.isAgg9
  z26 := Tryz.sizeOf9
  v26 := Tryz.zeroValue9
  t28 := Tryz.underlying231
  a28 := Tryz.isAgg231
  z28 := Tryz.sizeOf231
  v28 := Tryz.zeroValue231
  i26 := by kernel_rfl }
def Tryz.tk : Go.Shelf.Ren := ⟨fun | 6 => 202 | 8 => 192 | 9 => 268 | 19 => 252 | 20 => 253 | 21 => 307 | 22 => 308 | 23 => 309 | 24 => 310 | 25 => 311 | 26 => 312 | 27 => 313 | 28 => 314 | 29 => 315 | 36 => 342 | 31 => 288 | 32 => 289 | 37 => 343 | 38 => 344 | 39 => 345 | 41 => 359 | n => n, fun | 27 => 56 | 29 => 9 | 3 => 3 | 32 => 204 | 26 => 56 | 0 => 0 | 44 => 327 | 46 => 278 | 4 => 4 | 36 => 321 | 35 => 320 | 41 => 154 | 5 => 5 | 9 => 9 | 53 => 363 | 57 => 367 | 63 => 395 | 64 => 396 | n => n, fun | n => n⟩
theorem Tryz.L9 : Go.Proofs.SlLaysM.n6 Tryz.prog Tryz.tk := {
  mixed := by kernel_rfl
  f6 := ⟨Tryz.f202.name, by decide, Tryz.func202.trans (congrArg some (by kernel_rfl))⟩
  f8 := Tryz.func192.trans (congrArg some (by kernel_rfl))
  f9 := ⟨Tryz.f268.name, by decide, Tryz.func268.trans (congrArg some (by kernel_rfl))⟩
  f19 := Tryz.func252.trans (congrArg some (by kernel_rfl))
  f20 := Tryz.func253.trans (congrArg some (by kernel_rfl))
  f21 := ⟨Tryz.f307.name, by decide, Tryz.func307.trans (congrArg some (by kernel_rfl))⟩
  f22 := ⟨Tryz.f308.name, by decide, Tryz.func308.trans (congrArg some (by kernel_rfl))⟩
  f23 := ⟨Tryz.f309.name, by decide, Tryz.func309.trans (congrArg some (by kernel_rfl))⟩
  f24 := ⟨Tryz.f310.name, by decide, Tryz.func310.trans (congrArg some (by kernel_rfl))⟩
  f25 := ⟨Tryz.f311.name, by decide, Tryz.func311.trans (congrArg some (by kernel_rfl))⟩
  f26 := ⟨Tryz.f312.name, by decide, Tryz.func312.trans (congrArg some (by kernel_rfl))⟩
  f27 := ⟨Tryz.f313.name, by decide, Tryz.func313.trans (congrArg some (by kernel_rfl))⟩
  f28 := ⟨Tryz.f314.name, by decide, Tryz.func314.trans (congrArg some (by kernel_rfl))⟩
  f29 := ⟨Tryz.f315.name, by decide, Tryz.func315.trans (congrArg some (by kernel_rfl))⟩
  f31 := Tryz.func288.trans (congrArg some (by kernel_rfl))
  f32 := Tryz.func289.trans (congrArg some (by kernel_rfl))
  f36 := ⟨Tryz.f342.name, by decide, Tryz.func342.trans (congrArg some (by kernel_rfl))⟩
  f37 := ⟨Tryz.f343.name, by decide, Tryz.func343.trans (congrArg some (by kernel_rfl))⟩
  f38 := ⟨Tryz.f344.name, by decide, Tryz.func344.trans (congrArg some (by kernel_rfl))⟩
  f39 := ⟨Tryz.f345.name, by decide, Tryz.func345.trans (congrArg some (by kernel_rfl))⟩
  f41 := ⟨Tryz.f359.name, by decide, Tryz.func359.trans (congrArg some (by kernel_rfl))⟩
  t0 := Tryz.underlying0
  a0 := Tryz.isAgg0
  z0 := Tryz.sizeOf0
  v0 := Tryz.zeroValue0
  t3 := Tryz.underlying3
  a3 := Tryz.isAgg3
  z3 := Tryz.sizeOf3
  v3 := Tryz.zeroValue3
  t4 := Tryz.underlying4
  a4 := Tryz.isAgg4
  z4 := Tryz.sizeOf4
  v4 := Tryz.zeroValue4
  t5 := Tryz.underlying5
  a5 := Tryz.isAgg5
  z5 := Tryz.sizeOf5
  v5 := Tryz.zeroValue5
  t9 := Tryz.underlying9
  a9 := Tryz.isAgg9
  z9 := Tryz.sizeOf9
  v9 := Tryz.zeroValue9
  t26 := Tryz.underlying56
  a26 := Tryz.isAgg56
  z26 := Tryz.sizeOf56
  v26 := Tryz.zeroValue56
  t27 := Tryz.underlying56
  a27 := Tryz.isAgg56
  z27 := Tryz.sizeOf56
  v27 := Tryz.zeroValue56
  t29 := Tryz.underlying9
  a29 := Tryz.isAgg9
  z29 := Tryz.sizeOf9
  v29 := Tryz.zeroValue9
  t32 := Tryz.underlying204
  a32 := Tryz.isAgg204
  z32 := Tryz.sizeOf204
  v32 := Tryz.zeroValue204
  t35 := Tryz.underlying320
  a35 := Tryz.isAgg320
  z35 := Tryz.sizeOf320
  v35 := Tryz.zeroValue320
  t36 := Tryz.underlying321
  a36 := Tryz.isAgg321
  z36 := Tryz.sizeOf321
  v36 := Tryz.zeroValue321
  t41 := Tryz.underlying154
  a41 := Tryz.isAgg154
  z41 := Tryz.sizeOf154
  v41 := Tryz.zeroValue154
  t44 := Tryz.underlying327
  a44 := Tryz.isAgg327
  z44 := Tryz.sizeOf327
  v44 := Tryz.zeroValue327
  t46 := Tryz.underlying278
  a46 := Tryz.isAgg278
  z46 := Tryz.sizeOf278
  v46 := Tryz.zeroValue278
  t53 := Tryz.underlying363
  a53 := Tryz.isAgg363
  z53 := Tryz.sizeOf363
  v53 := Tryz.zeroValue363
  t57 := Tryz.underlying367
  a57 := Tryz.isAgg367
  z57 := Tryz.sizeOf367
  v57 := Tryz.zeroValue367
  t63 := Tryz.underlying395
  a63 := Tryz.isAgg395
  z63 := Tryz.sizeOf395
  v63 := Tryz.zeroValue395
  t64 := Tryz.underlying396
  a64 := Tryz.isAgg396
  z64 := Tryz.sizeOf396
  v64 := Tryz.zeroValue396 }
end Go.Proofs
namespace Go.Proofs.YtobgbmfpicmpcaaGreatDoor
open Go.Lib (hid)
section
open Go.RowKit Go.Maps Go.Sort Go.Shelf
theorem Tryz.Mt (m:Nat):AnyZ.SortsIn Tryz.prog Tryz.ep Fence.wide m:=
 ⟨fun bZ off cap ss W hH hblk hsz=>callsIn_wide.2 (AnyM.slices_Sort_string Tryz.L9 bZ off cap ss W hH hblk hsz),fun p cap W=>callsIn_wide.2 (AnyM.slices_Sort_string_none Tryz.L9 p cap W)⟩
theorem Mk (mb:Option Nat) (W:World):Calls Tryz.prog 146 #[.map mb] W fun e w'=>e=.returned (.func (.func 203) #[] #[.pointer (some ⟨W.heap.size,0,none⟩)])∧w'=W.alloc (.cells #[.map mb] 137):=
 (callsIn_wide (n:=5)).1 (AnyZ.keys_in Tryz.Mb Fence.wide 5 trivial rfl mb W)
theorem F8 {H:Type} {b M nn:Nat} {D0:DataW H} {R:Value→Option (DataW H × List MemPlace)} {w:World} (hown:w.ownsMap Tryz.prog 9 R M nn D0) (hb:b<w.heap.size) (hm:w.cell? ⟨b,0,none⟩=some (.map (some M))) (hn:nn≤1000000):
  Calls Tryz.prog 145 #[.func (.func 203) #[] #[.pointer (some ⟨b,0,none⟩)]] w fun e w'=>∃(v:Value) (ss:List (List UInt8)),e=.returned v∧ss.Perm (strKeys D0)∧w'.ownsRow w.heap.size 9 1 v ss.length ((ss.mergeSort (fun x y=>decide (x≤y))).map encStr)∧Below w.heap.size w w':=by
 refine(callsIn_wide (n:=6)).1 ?_
 have hsz:=hown.size_le
 have hseq:SeqGives Fence.wide 3 Tryz.prog 203 #[.pointer (some ⟨b,0,none⟩)] encStr (fun ss=>ss.Perm (strKeys D0)) (Maps.size D0) w:=
  AnyZ.keys_gives (ρ:=Tryz.kc) {Tryz.Mb with} Fence.wide _ trivial rfl (by omega) b M nn D0 _ hb hm hown
 have cS:=AnyZ.sorted_in Tryz.LU Fence.wide 6 trivial trivial trivial trivial rfl (by omega) (Tryz.Mt _) (enters_of Tryz.func202 (by kernel_rfl) rfl) 203 #[.pointer (some ⟨b,0,none⟩)] trivial (enters_of Tryz.func203 (by kernel_rfl) rfl) _ _ (by unfold maxLen;omega) (by omega) _ hseq
 change CallsIn _ _ Tryz.prog 145 _ _ _ at cS
 refine cS.mono ?_
 rintro e w' ⟨v,ss,rfl,hS,hrow,hnil,hb⟩
 exact⟨v,ss,rfl,hS,hrow,hb⟩
end
section
open Go.RowKit Go.Maps Go.Sort
theorem oc {ns:List aq} {es:List aJ} {q:au} {a:Int}:(eK ns es q a).2=0∨eK ns es q a=([],6):=by
 unfold eK
 split
 ·exact Or.inl rfl
 ·exact Or.inr rfl
end
section
open Go.RowKit Go.Maps Go.Sort
def js (f:ByteArray→Option Int) (l:List (List UInt8)):Prop:=l.Nodup∧(∀x,x∈l↔x.length≤maxLen∧(f ⟨x.toArray⟩).isSome=true)∧l=l.mergeSort leB
theorem js.one {f:ByteArray→Option Int} {l l':List (List UInt8)} (h:js f l) (h':js f l'):l=l':=by
 rw[h.2.2,h'.2.2]
 exact mergeSort_of_perm ((List.perm_ext_iff_of_nodup h.1 h'.1).2 fun x=>by rw[h.2.1,h'.2.1])
theorem Lp {W:World} {b n:Nat} {f:ByteArray→Option Int} {D:DataW Unit} (ho:W.ownsMap Tryz.prog 9 (plainElem Tryz.prog 3) b n D) (hD:∀s:ByteArray,s.size≤maxLen→Maps.has D (.string s.data.toList)=(f s).isSome) {ss:List (List UInt8)} (hp:ss.Perm (strKeys D)):js f (ss.mergeSort leB):=by
 have hle:=strKeys_le ho Tryz.underlying9
 obtain⟨es,hes,hpw,_⟩:=ho.entries nN
 obtain⟨es',hes',hko⟩:=ho.keysOf
 obtain rfl:es=es':=by rw[hes] at hes';simpa using hes'
 subst hes
 have hk:∀p∈es,∃x,p.1=.string x:=fun p hp=>by obtain⟨v,hv⟩:=hko p hp;obtain⟨x,_,hx,_⟩:=Maps.keyOf_str Tryz.underlying9 hv;exact⟨x,hx⟩
 have hnd:(strKeys (.map es)).Nodup:=by
  show (es.map fun p=>strOf p.1).Nodup
  refine List.pairwise_map.2 (hpw.imp_of_mem fun {p q} hp' hq' hne e=>hne ?_)
  obtain⟨a,ha⟩:=hk p hp'
  obtain⟨b,hb⟩:=hk q hq'
  rw[ha,hb] at e⊢
  exact congrArg _ e
 have hmem:∀x,x∈strKeys (.map es)↔Maps.has (.map es) (.string x)=true:=fun x=>by
  rw[has_eq,List.any_eq_true]
  show x∈es.map (fun p=>strOf p.1)↔_
  rw[List.mem_map]
  constructor
  ·rintro ⟨p,hp',rfl⟩
   obtain⟨a,ha⟩:=hk p hp'
   exact⟨p,hp',by rw[ha];simp[Lit.sameKey,strOf]⟩
  ·rintro ⟨p,hp',hs⟩
   obtain⟨a,ha⟩:=hk p hp'
   rw[ha] at hs
   exact⟨p,hp',by rw[ha];simpa [Lit.sameKey,strOf] using hs⟩
 have hpm:=List.mergeSort_perm ss leB
 refine⟨(hpm.trans hp).nodup_iff.2 hnd,fun x=>?_,(mergeSort_of_perm hpm).symm⟩
 rw[(hpm.trans hp).mem_iff]
 constructor
 ·intro hx
  have h1:=hle x hx
  refine⟨h1,?_⟩
  rw[←hD ⟨x.toArray⟩ (by simpa [ByteArray.size] using h1)]
  exact(hmem x).1 hx
 ·rintro ⟨h1,h2⟩
  rw[←hD ⟨x.toArray⟩ (by simpa [ByteArray.size] using h1)] at h2
  exact(hmem x).2 h2
def fe (f:ByteArray→Option Int) (k:List UInt8):ByteArray:=⟨k.toArray⟩++⟨#[61]⟩++dB ((f ⟨k.toArray⟩).getD 0)
def jn (ts:List ByteArray):ByteArray:=⟨(Lib.join (ts.map (·.data.toList)) [32]).toArray⟩
theorem ri (ts:List ByteArray):(jn ts).size=(Lib.join (ts.map (·.data.toList)) [32]).length:=by unfold jn;simp[ByteArray.size]
def mC (x:aq) (t:ByteArray):Prop:=(∃l,js x.aW l∧t=jn ([dB x.num,x.label]++l.map (fe x.aW)))∧t.size≤2000000000
theorem mC.one {x y:aq} {t u:ByteArray} (h:mC x t) (h':mC y u) (e:de x=de y):t=u:=by
 obtain⟨⟨l,hl,rfl⟩,_⟩:=h
 obtain⟨⟨l',hl',rfl⟩,_⟩:=h'
 unfold de at e
 simp only[aq.mk.injEq,true_and] at e
 obtain⟨e1,e2,e3⟩:=e
 rw[e3] at hl
 rw[hl.one hl',e1,e2,e3]
theorem Mc {W:World} {B:Nat} {v:Value} {ts:List ByteArray} (h:W.ownsRow B 9 1 v ts.length (strs ts)) (h0:0<ts.length) (hl:ts.length≤10000000) (hsm:(Lib.join (ts.map (·.data.toList)) [32]).length≤140737488355328):
  Calls Tryz.prog 54 #[v,.string ⟨#[32]⟩] W fun e w'=>e=.returned (.string (jn ts))∧Below W.heap.size W w':=by
 rcases h.2 with ⟨_,h1⟩|⟨gw,cw,cur,hv,hbw,hgw,hnw,_⟩
 ·exact absurd h1 (by omega)
 rw[hv]
 refine Tryz.strings_Join gw 0 cw ts ⟨#[32]⟩ W (fun i x hx=>?_) (lt_of_block hgw) (by omega) (by omega) hsm
 have hj2:(strs ts)[i]?=some (.string x):=by unfold strs;rw[List.getElem?_map,hx];rfl
 have hjl2:i<ts.length:=by
  by_cases h:i<ts.length
  ·exact h
  ·rw[List.getElem?_eq_none (by omega)] at hx;cases hx
 rw[Nat.zero_add,←hj2]
 rw[hv] at h
 exact h.cellAt i (by omega)
theorem cO:∀(xs:List (List UInt8)) (c:Nat),(∀x∈xs,x.length≤c)→(Lib.join xs [32]).length≤(c+1)*xs.length
 | [],c,_=>by simp[Lib.join_nil]
 | x::r,c,h=>by
  have ih:=cO r c (fun y hy=>h y (List.mem_cons_of_mem _ hy))
  have hx:=h x List.mem_cons_self
  cases r with
  | nil=>simp[Lib.join];omega
  | cons y r=>
   have e:(Lib.join (x::y::r) [32]).length=x.length+1+(Lib.join (y::r) [32]).length:=by
    simp[Lib.join,List.intercalate]
    omega
   rw[e]
   simp only[List.length_cons] at ih⊢
   have h2:(c+1)*(r.length+1+1)=(c+1)*(r.length+1)+(c+1):=by rw[Nat.mul_add (c+1) (r.length+1) 1,Nat.mul_one]
   omega
end
section
open Go.RowKit Go.Maps Go.Sort
theorem Tryz.dp (args:Array Value) (w:World):(callFunc 36 args).run Tryz.prog w=.ok (.enter 36 args) w:=by go_simp
theorem tj {W:World} {x:aq} {n:Nat} (hp:bF W x.bZ n x.aW) (hn:n≤1000000) (hnum:ux x.num) (hlab:x.label.size≤1000) (hkey:∀s,(x.aW s).isSome=true→s.size≤1000) (ht:BG W):
  Calls Tryz.prog 70 #[.agg #[.int .i64 x.num,.string x.label,.map (some x.bZ)]] W fun e W'=>(∃t,e=.returned (.string t)∧mC x t)∧Below W.heap.size W W':=by
 obtain⟨num,label,bZ,aW⟩:=x
 simp only at hp hnum hlab hkey⊢
 obtain⟨i1,hj,hy0,hy1,hy2⟩:=info_parts Tryz.tN
 have HI0:=hid (And.intro hj (And.intro hy0 (And.intro hy1 hy2)))
 have HP:=hid hp
 have HNU:=hid hnum
 have HLB:=hid hlab
 have HKE:=hid hkey
 have HT:=hid ht
 have HB1:=hid ((Below.refl W.heap.size W).alloc (Nat.le_refl _) (.cells #[.int .i64 num,.string label,.map (some bZ)] 139))
 have HY1:=hid (Loc.new W #[.int .i64 num,.string label,.map (some bZ)] 139)
 clear hp hnum hlab hkey ht hj hy0 hy1 hy2
 go_enter Tryz.func70,Tryz.ntmps70
 go_upto_region 1 with fail
 obtain⟨Y,hY⟩:∃Y,Y=W.heap.size:=⟨_,rfl⟩
 rw[←hY] at HY1⊢
 clear hY
 generalize W.alloc (.cells #[.int .i64 num,.string label,.map (some bZ)] 139)=W1 at HB1 HY1⊢
 have HSC:Hid (∀w,Below W1.heap.size W1 w→w.cell? ⟨Y,0,none⟩=some (.int .i64 num)∧w.cell? ⟨Y,1,none⟩=some (.string label)∧w.cell? ⟨Y,2,none⟩=some (.map (some bZ))):=hid (fun w hb=>by
  have h1:=HY1.out.grown (af hb none) (by simp)
  exact⟨(h1.cell 0).trans rfl,(h1.cell 1).trans rfl,(h1.cell 2).trans rfl⟩)
 have HDW:Hid (Below W1.heap.size W1 W1.drew):=hid ⟨rfl,rfl,rfl,Nat.le_refl _,fun _ _=>rfl⟩
 have HIT:=hid (FP HNU.out (HT.out.below (HB1.out.trans (HDW.out.mono HB1.out.size))))
 refine wp_region_noPanic ?_
 refine wp_region_held_drew (S:=fun w=>w.cell? ⟨Y,0,none⟩=some (.int .i64 num)∧w.cell? ⟨Y,1,none⟩=some (.string label)∧w.cell? ⟨Y,2,none⟩=some (.map (some bZ))) (by kernel_rfl) (HSC.out _ HDW.out) (fun hHeld0=>?_)
 refine wpAnyH_take (i:=0) (v:=.pointer (some ⟨Y,0,none⟩)) rfl (by kernel_rfl) (by kernel_rfl) (by kernel_rfl) (fun _ _ _ h=>h) (Or.inl ⟨by rfl,by intro w hSw;go_simp;(try with_reducible rfl)⟩) hHeld0 ?_
 simp only[Act.put,List.getElem_toArray,List.getElem_cons_zero,List.setIfInBounds_toArray,List.set_cons_zero,List.set_cons_succ]
 refine wpAnyH_take (i:=1) (v:=.int .i64 num) rfl (by kernel_rfl) (by kernel_rfl) (by kernel_rfl) (fun _ _ _ h=>h) (Or.inl ⟨by rfl,by intro w hSw;obtain⟨hc0,hc1,_⟩:=hSw;go_simp;(try with_reducible rfl)⟩) hHeld0 ?_
 simp only[Act.put,List.getElem_toArray,List.getElem_cons_zero,List.getElem_cons_succ,List.setIfInBounds_toArray,List.set_cons_zero,List.set_cons_succ]
 refine wpAnyH_take (i:=3) (v:=.pointer (some ⟨Y,1,none⟩)) rfl (by kernel_rfl) (by kernel_rfl) (by kernel_rfl) (fun _ _ _ h=>h) (Or.inl ⟨by rfl,by intro w hSw;go_simp;(try with_reducible rfl)⟩) hHeld0 ?_
 simp only[Act.put,List.getElem_toArray,List.getElem_cons_zero,List.getElem_cons_succ,List.setIfInBounds_toArray,List.set_cons_zero,List.set_cons_succ]
 refine wpAnyH_take (i:=4) (v:=.string label) rfl (by kernel_rfl) (by kernel_rfl) (by kernel_rfl) (fun _ _ _ h=>h) (Or.inl ⟨by rfl,by intro w hSw;obtain⟨hc0,hc1,_⟩:=hSw;go_simp;(try with_reducible rfl)⟩) hHeld0 ?_
 simp only[Act.put,List.getElem_toArray,List.getElem_cons_zero,List.getElem_cons_succ,List.setIfInBounds_toArray,List.set_cons_zero,List.set_cons_succ]
 refine wpAnyH_ready (rs:=[2]) (by kernel_rfl) (by simp) ?_
 refine AllReadyH.cons rfl (fun K hK=>?_) AllReadyH.nil
 refine dW rfl 36 _ _ Tryz.dp rfl #[.int .i64 num] (by simp[Act.eval]) HIT.out (fun e W2 hp=>?_)
 obtain⟨rfl,hb2⟩:=hp
 refine⟨_,rfl,?_⟩
 have HB12:=hid (HDW.out.trans hb2)
 refine hK.out _ _ (HSC.out _ HB12.out) (fun hHeld1=>?_)
 clear hK K hHeld0 hb2 HIT
 simp only[Act.put,List.getElem_toArray,List.getElem_cons_zero,List.getElem_cons_succ,List.setIfInBounds_toArray,List.set_cons_zero,List.set_cons_succ]
 refine wpAnyH_ready (rs:=[5]) (by kernel_rfl) (by simp) ?_
 refine AllReadyH.cons rfl (fun K hK=>?_) AllReadyH.nil
 go_simp
 have HB13:=hid (HB12.out.alloc HB12.out.size (.cells #[.string (dB num),.string label] 9))
 have HO3:Hid ((W2.alloc (.cells #[.string (dB num),.string label] 9)).ownsRow W2.heap.size 9 1 (.slice (some ⟨W2.heap.size,0,none⟩) 2 2) 2 (strs [dB num,label])):=hid ⟨rfl,Or.inr ⟨W2.heap.size,2,#[.string (dB num),.string label],rfl,Nat.le_refl _,heap_alloc_new W2 _,Nat.le_refl _,by unfold maxLen;omega,rfl,rfl⟩⟩
 refine hK.out _ _ (HSC.out _ HB13.out) (fun hHeld2=>?_)
 clear hK K hHeld1
 refine wpAnyH_take (i:=6) (v:=.slice (some ⟨W2.heap.size,0,none⟩) 2 2) rfl (by kernel_rfl) (by kernel_rfl) (by kernel_rfl) (fun _ _ _ h=>h) (Or.inl ⟨by rfl,by intro w hSw;go_simp;(try with_reducible rfl)⟩) hHeld2 ?_
 simp only[Act.put,List.getElem_toArray,List.getElem_cons_zero,List.getElem_cons_succ,List.setIfInBounds_toArray,List.set_cons_zero,List.set_cons_succ]
 refine wpAnyH_done (by kernel_rfl) ?_ _
 refine NoPanic.normal ?_
 clear hHeld2
 go_simp
 have HB3:=hid (HB1.out.trans (HB13.out.mono HB1.out.size))
 obtain⟨Q,qaa⟩:∃Q,Q=W2.heap.size:=⟨_,rfl⟩
 have HQN:Hid (W.heap.size≤Q):=hid (by rw[qaa];exact Nat.le_trans HB1.out.size HB12.out.size)
 have c2:=(HSC.out _ HB13.out).2.2
 have HQ3:Hid (Q<(W2.alloc (.cells #[.string (dB num),.string label] 9)).heap.size):=hid (by rw[qaa];simp)
 rw[←qaa] at HO3⊢
 clear qaa HB12
 generalize W2.alloc (.cells #[.string (dB num),.string label] 9)=W3 at HB13 HO3 HB3 HQ3 c2⊢
 obtain⟨D,hown,hD⟩:=HP.out
 have HOM:=hid (hown.kept (af (HB3.out.trans (((Below.refl W3.heap.size W3).alloc (Nat.le_refl _) (.cells #[.map (some bZ)] 137)).mono HB3.out.size)) none) (by simp))
 have HDD:=hid (fun s (hs:s.size≤maxLen)=>(hD s hs).1)
 have HON:=hid hown
 clear hown hD
 go_wp2_with fail
 refine(Mk (some bZ) _).mono ?_
 rintro e W4 ⟨rfl,hw4⟩
 have HB34:Hid (Below W3.heap.size W3 W4):=hid (by rw[hw4];exact(Below.refl _ _).alloc (Nat.le_refl _) _)
 have HSO:=hid (F8 (b:=W3.heap.size) (by rw[←hw4] at HOM;exact HOM.out) (by rw[hw4];simp) (by rw[hw4];exact(Loc.new W3 #[.map (some bZ)] 137).cell 0) hn)
 clear hw4 HOM
 go_wp2_with fail
 refine HSO.out.mono ?_
 rintro e W5 ⟨v5,ss,rfl,hpm,hrow,hb5⟩
 have HKO:=hid (Lp HON.out HDD.out hpm)
 have hsl:(ss.mergeSort leB).length=ss.length:=(List.mergeSort_perm ss leB).length_eq
 have hsn:ss.length≤1000000:=by
  have h1:=HON.out.size_le
  obtain⟨es,hes,_⟩:=HON.out.keysOf
  subst hes
  have h2:=hpm.length_eq
  have h3:(strKeys (.map es)).length=es.length:=List.length_map _
  have h4:Maps.size (.map es)=es.length:=rfl
  omega
 obtain⟨l,hl⟩:∃l,ss.mergeSort leB=l:=⟨_,rfl⟩
 have hrow':W5.ownsRow W4.heap.size 9 1 v5 l.length (l.map encStr):=by rw[←hl,hsl];exact hrow
 rw[hl] at HKO hsl
 rw[←hsl] at hsn
 obtain⟨ak,ck,rfl⟩:=bB hrow'
 have hb35:=HB34.out.trans (hb5.mono HB34.out.size)
 have HO5:=hid (HO3.out.kept (af hb35 none) (by cases (Value.ownBlock _)<;>simp))
 have HB5:=hid (HB3.out.trans (hb35.mono HB3.out.size))
 have HY5:=hid (HY1.out.grown (af (HB13.out.trans (hb35.mono HB13.out.size)) none) (by simp))
 have HR5:=hid hrow'
 have HQ5:Hid (Q≤W5.heap.size):=hid (by have h1:=HQ3.out;have h2:=hb35.size;omega)
 have HNE5:Hid (∀g,(Value.slice (some ⟨Q,0,none⟩) 2 2).ownBlock=some g→(Value.slice ak l.length ck).ownBlock≠some g):=hid (fun g hg hg'=>by
  have h1:=(hrow'.lt g hg').1
  have h2:Q=g:=Option.some.inj hg
  have h3:=HQ3.out
  have h4:=HB34.out.size
  omega)
 clear hrow hrow' hb5 hb35 HSO hl hsl hpm HO3 HB3 HB34 HB13 HSC HON HDD c2 HB1 HY1 HQ3
 go_wp2_with fail
 go_loopg [3,17] l.length (fun c wv iv w=>∃k:Nat,iv=.int .i64 (k:Int)∧k+c=l.length∧w.ownsRow Q 9 1 wv (2+k) (strs ([dB num,label]++(l.take k).map (fe aW)))∧w.ownsRow W4.heap.size 9 1 (.slice ak l.length ck) l.length (l.map encStr)∧(∀g,wv.ownBlock=some g→(Value.slice ak l.length ck).ownBlock≠some g)∧Below W.heap.size W w∧Loc w Y #[.int .i64 num,.string label,.map (some bZ)] 139∧Q≤w.heap.size)
 case atStart=>exact⟨0,rfl,by omega,HO5.out,HR5.out,HNE5.out,HB5.out,HY5.out,HQ5.out⟩
 case round=>
  obtain⟨k,rfl,hk,ho,hr,hne,hb,hy,hqw⟩:=hrel
  have HO:=hid ho
  have HR:=hid hr
  have HNE:=hid hne
  have HB:=hid hb
  have HY:=hid hy
  have HQW:=hid hqw
  clear ho hr hne hb hy hqw HQ5 HO5 HR5 HNE5 HB5 HY5
  by_cases hlt:k<l.length
  ·have hki:(k:Int)<(l.length:Int):=by omega
   obtain⟨x,hx⟩:∃x,l[k]=x:=⟨_,rfl⟩
   have HTK:Hid (l.take (k+1)=l.take k++[x]):=hid (by rw[List.take_add_one,List.getElem?_eq_getElem hlt,hx];rfl)
   have hxm:=(HKO.out.2.1 x).1 (by rw[←hx];exact List.getElem_mem hlt)
   obtain⟨_,ao',cap',e',_,hcell'⟩:=aP HR.out HR.out.1
   injection e' with e1 e8 e9
   clear e8 e9
   obtain⟨g,oo,e2,hcs⟩:=hcell' (by omega)
   obtain rfl:ak=some ⟨g,oo,none⟩:=e1.trans e2
   have hck:wr.cell? ⟨g,oo+k,none⟩=some (.string ⟨x.toArray⟩):=hcs k _ (by rw[List.getElem?_map,List.getElem?_eq_getElem hlt,hx];rfl)
   have HKT:Hid (fe aW x=⟨x.toArray⟩++⟨#[61]⟩++dB ((aW ⟨x.toArray⟩).getD 0)):=hid rfl
   have hks:=HKE.out _ hxm.2
   obtain⟨qab,hkx⟩:∃qab,(⟨x.toArray⟩:ByteArray)=qab:=⟨_,rfl⟩
   rw[hkx] at hck HKT hks
   have hlk:=(HP.out.kept (af HB.out none) (by simp)).look (s:=qab) (by unfold maxLen;omega)
   have HWF:=hid (Fz (HP.out.wf (s:=qab) (by unfold maxLen;omega)))
   obtain⟨vv,hvv⟩:∃vv,(aW qab).getD 0=vv:=⟨_,rfl⟩
   rw[hvv] at hlk HWF HKT
   have hdl:(dB vv).size≤21:=by
    have h1:=AK (v:=some vv) (fun n hn=>by injection hn with hn;rw[←hn];exact HWF.out)
    rw[Array.length_toList] at h1
    exact h1
   have m2:=HY.out.at_ 2 (.map (some bZ)) rfl
   have hlen2:(l.length:Int)≤9223372036854775807:=by omega
   clear hx hxm hcs hcell' hkx hvv e1 e2
   go_wp2_with fail
   refine(FP HWF.out (HT.out.below HB.out)).mono ?_
   rintro e W7 ⟨rfl,hb7⟩
   have HO7:=hid (HO.out.kept (af hb7 none) (by cases (Value.ownBlock _)<;>simp))
   have HR7:=hid (HR.out.kept (af hb7 none) (by cases (Value.ownBlock _)<;>simp))
   have HB7:=hid (HB.out.trans (hb7.mono HB.out.size))
   have HY7:=hid (HY.out.grown (af hb7 none) (by simp))
   have HUS:=hid (fun g' (hg':u3.ownBlock=some g')=>(HO.out.lt g' hg').2)
   have HS7:=hid hb7.size
   generalize dB vv=qac at HKT hdl⊢
   clear hb7 hck hlk m2 HO HR HB HY
   go_wp2_with (at_builtin;go_must (refine wpList_append_lies _ rfl _ _ 56 rfl Q 9 i1 (.string ⟨#[]⟩) 1 16 Tryz.underlying56 HI0.out.1 HI0.out.2.1 HI0.out.2.2.1 HI0.out.2.2.2 rfl (by decide) _ _ _ rfl (HO7.out.alloc _) ⟨W7.heap.size,0,none⟩ 1 1 [.string (qab++⟨#[61]⟩++qac)] rfl rfl (World.news_of_block (heap_alloc_new W7 _)) (by simp[Value.oneCell']) (by omega) (by unfold maxLen;omega) (by omega) (by have h1:=HQW.out;have h2:=HS7.out;simp;omega) _ rfl ?_);intro g2 cap2 w8 hown hgrow hlies _;have HO8:=hid hown;have HG8:=hid hgrow;have HL8:=hid hlies;clear hown hgrow hlies)
   go_roundg (gk - 1)
   case rel=>
    refine⟨k+1,by simp,by omega,?_,?_,?_,?_,?_,?_⟩
    ·have h1:=HO8.out
     rw[HTK.out,List.map_append,←List.append_assoc,nz,List.map_singleton,HKT.out]
     exact h1
    ·exact tR (HR7.out.alloc _) (fun g' hg'=>HG8.out.block g' ((HR7.out.alloc (.cells #[.string (qab++⟨#[61]⟩++qac)] 9)).lt g' hg').2 (fun e=>HNE.out g' e.symm hg'))
    ·intro g' hg' hg''
     have h2:g2=g':=Option.some.inj hg'
     rcases HL8.out with h3|h3
     ·exact HNE.out g' (by rw[←h2];exact h3) hg''
     ·have h4:=(HR7.out.lt g' hg'').2
      have h5:g2=(W7.alloc (.cells #[.string (qab++⟨#[61]⟩++qac)] 9)).heap.size:=h3
      rw[World.size_alloc] at h5
      omega
    ·exact(HB7.out.alloc HB7.out.size _).grown HG8.out (by have h1:=HB7.out.size;simp;omega) (fun b hb=>Nat.le_trans HQN.out ((HO7.out.alloc (.cells #[.string (qab++⟨#[61]⟩++qac)] 9)).lt b hb).1)
    ·exact(HY7.out.alloc _).fs (HO7.out.alloc _) HG8.out (by decide)
    ·have h1:=HG8.out.size
     have h2:=HQW.out
     have h3:=HS7.out
     rw[World.size_alloc] at h1
     omega
   case measure=>omega
  ·have hki:¬(k:Int)<(l.length:Int):=by omega
   obtain rfl:k=l.length:=by omega
   have hts:[dB num,label]++(l.take l.length).map (fe aW)=[dB num,label]++l.map (fe aW):=by rw[List.take_of_length_le (Nat.le_refl _)]
   have hlen:([dB num,label]++l.map (fe aW)).length=2+l.length:=by simp;omega
   have hw:wr.ownsRow Q 9 1 u3 ([dB num,label]++l.map (fe aW)).length (strs ([dB num,label]++l.map (fe aW))):=by rw[hlen,←hts];exact HO.out
   have hdec:∀z:Int,ux z→(dB z).data.toList.length≤21:=fun z hz=>AK (v:=some z) (fun n hn=>by injection hn with hn;rw[←hn];exact hz)
   have hsz:(Lib.join (([dB num,label]++l.map (fe aW)).map (·.data.toList)) [32]).length≤2000000000:=by
    refine Nat.le_trans (cO _ 1100 (fun x hx=>?_)) (by rw[List.length_map,hlen];omega)
    obtain⟨b,hb,rfl⟩:=List.mem_map.1 hx
    rcases List.mem_append.1 hb with hb|hb
    ·rcases List.mem_cons.1 hb with rfl|hb
     ·have:=hdec num HNU.out;omega
     ·rw[List.mem_singleton.1 hb]
      have h1:=HLB.out
      have h2:label.data.toList.length=label.size:=by rw[Array.length_toList];rfl
      omega
    ·obtain⟨y,hy,rfl⟩:=List.mem_map.1 hb
     have h1:=(HKO.out.2.1 y).1 hy
     have h2:=HKE.out _ h1.2
     have h3:=hdec ((aW ⟨y.toArray⟩).getD 0) (Fz ((HP.out).wf (by simpa [ByteArray.size] using h1.1)))
     have h4:y.length≤1000:=by simpa [ByteArray.size] using h2
     unfold fe
     simp[ByteArray.data_append] at h3⊢
     omega
   have hsm:(Lib.join (([dB num,label]++l.map (fe aW)).map (·.data.toList)) [32]).length≤140737488355328:=by omega
   have HSZ:Hid ((jn ([dB num,label]++l.map (fe aW))).size≤2000000000):=hid (by rw[ri];exact hsz)
   have HJ:=hid (Mc hw (by rw[hlen];omega) (by rw[hlen];omega) hsm)
   clear hw hsm hsz hts hlen hdec
   go_wp2_with fail
   refine HJ.out.mono ?_
   rintro e W8 ⟨rfl,hb8⟩
   have HB8:=hid (HB.out.trans (hb8.mono HB.out.size))
   clear hb8 HJ
   go_wp2_with fail
   go_ret
   exact⟨⟨_,rfl,⟨l,HKO.out,rfl⟩,HSZ.out⟩,HB8.out⟩
end
section
open Go.RowKit Go.Maps Go.Sort
def gy (x:aJ):ByteArray:=jn [dB x.src,x.type,dB x.dst]
theorem Tryz.tp (args:Array Value) (w:World):(callFunc 54 args).run Tryz.prog w=.ok (.enter 54 args) w:=by go_simp
theorem vU {z:Int} (hz:ux z):(dB z).data.toList.length≤21:=AK (v:=some z) (fun n hn=>by injection hn with hn;rw[←hn];exact hz)
theorem vz {W:World} {x:aJ} (hs:ux x.src) (hd:ux x.dst) (hty:x.type.size≤1000) (ht:BG W):
  Calls Tryz.prog 71 #[.agg #[.string x.type,.int .i64 x.src,.int .i64 x.dst]] W fun e W'=>e=.returned (.string (gy x))∧Below W.heap.size W W':=by
 obtain⟨ty,src,dst⟩:=x
 simp only at hs hd hty⊢
 have HS:=hid hs
 have HD:=hid hd
 have HTY:=hid hty
 have HT:=hid ht
 have HB1:=hid ((Below.refl W.heap.size W).alloc (Nat.le_refl _) (.cells #[.string ty,.int .i64 src,.int .i64 dst] 142))
 have HY1:=hid (Loc.new W #[.string ty,.int .i64 src,.int .i64 dst] 142)
 clear hs hd hty ht
 go_enter Tryz.func71,Tryz.ntmps71
 go_upto_region 1 with fail
 obtain⟨Y,hY⟩:∃Y,Y=W.heap.size:=⟨_,rfl⟩
 rw[←hY] at HY1⊢
 clear hY
 generalize W.alloc (.cells #[.string ty,.int .i64 src,.int .i64 dst] 142)=W1 at HB1 HY1⊢
 have HSC:Hid (∀w,Below W1.heap.size W1 w→w.cell? ⟨Y,0,none⟩=some (.string ty)∧w.cell? ⟨Y,1,none⟩=some (.int .i64 src)∧w.cell? ⟨Y,2,none⟩=some (.int .i64 dst)):=hid (fun w hb=>by
  have h1:=HY1.out.grown (af hb none) (by simp)
  exact⟨(h1.cell 0).trans rfl,(h1.cell 1).trans rfl,(h1.cell 2).trans rfl⟩)
 have HDW:Hid (Below W1.heap.size W1 W1.drew):=hid ⟨rfl,rfl,rfl,Nat.le_refl _,fun _ _=>rfl⟩
 have HIT:=hid (FP HS.out (HT.out.below (HB1.out.trans (HDW.out.mono HB1.out.size))))
 refine wp_region_noPanic ?_
 refine wp_region_held_drew (S:=fun w=>w.cell? ⟨Y,0,none⟩=some (.string ty)∧w.cell? ⟨Y,1,none⟩=some (.int .i64 src)∧w.cell? ⟨Y,2,none⟩=some (.int .i64 dst)) (by kernel_rfl) (HSC.out _ HDW.out) (fun hHeld0=>?_)
 refine wpAnyH_take (i:=0) (v:=.pointer (some ⟨Y,1,none⟩)) rfl (by kernel_rfl) (by kernel_rfl) (by kernel_rfl) (fun _ _ _ h=>h) (Or.inl ⟨by rfl,by intro w hSw;go_simp;(try with_reducible rfl)⟩) hHeld0 ?_
 simp only[Act.put,List.getElem_toArray,List.getElem_cons_zero,List.setIfInBounds_toArray,List.set_cons_zero,List.set_cons_succ]
 refine wpAnyH_take (i:=1) (v:=.int .i64 src) rfl (by kernel_rfl) (by kernel_rfl) (by kernel_rfl) (fun _ _ _ h=>h) (Or.inl ⟨by rfl,by intro w hSw;obtain⟨hc0,hc1,hc2⟩:=hSw;go_simp;(try with_reducible rfl)⟩) hHeld0 ?_
 simp only[Act.put,List.getElem_toArray,List.getElem_cons_zero,List.getElem_cons_succ,List.setIfInBounds_toArray,List.set_cons_zero,List.set_cons_succ]
 refine wpAnyH_take (i:=3) (v:=.pointer (some ⟨Y,0,none⟩)) rfl (by kernel_rfl) (by kernel_rfl) (by kernel_rfl) (fun _ _ _ h=>h) (Or.inl ⟨by rfl,by intro w hSw;go_simp;(try with_reducible rfl)⟩) hHeld0 ?_
 simp only[Act.put,List.getElem_toArray,List.getElem_cons_zero,List.getElem_cons_succ,List.setIfInBounds_toArray,List.set_cons_zero,List.set_cons_succ]
 refine wpAnyH_take (i:=4) (v:=.string ty) rfl (by kernel_rfl) (by kernel_rfl) (by kernel_rfl) (fun _ _ _ h=>h) (Or.inl ⟨by rfl,by intro w hSw;obtain⟨hc0,hc1,hc2⟩:=hSw;go_simp;(try with_reducible rfl)⟩) hHeld0 ?_
 simp only[Act.put,List.getElem_toArray,List.getElem_cons_zero,List.getElem_cons_succ,List.setIfInBounds_toArray,List.set_cons_zero,List.set_cons_succ]
 refine wpAnyH_take (i:=5) (v:=.pointer (some ⟨Y,2,none⟩)) rfl (by kernel_rfl) (by kernel_rfl) (by kernel_rfl) (fun _ _ _ h=>h) (Or.inl ⟨by rfl,by intro w hSw;go_simp;(try with_reducible rfl)⟩) hHeld0 ?_
 simp only[Act.put,List.getElem_toArray,List.getElem_cons_zero,List.getElem_cons_succ,List.setIfInBounds_toArray,List.set_cons_zero,List.set_cons_succ]
 refine wpAnyH_take (i:=6) (v:=.int .i64 dst) rfl (by kernel_rfl) (by kernel_rfl) (by kernel_rfl) (fun _ _ _ h=>h) (Or.inl ⟨by rfl,by intro w hSw;obtain⟨hc0,hc1,hc2⟩:=hSw;go_simp;(try with_reducible rfl)⟩) hHeld0 ?_
 simp only[Act.put,List.getElem_toArray,List.getElem_cons_zero,List.getElem_cons_succ,List.setIfInBounds_toArray,List.set_cons_zero,List.set_cons_succ]
 refine wpAnyH_ready (rs:=[2]) (by kernel_rfl) (by simp) ?_
 refine AllReadyH.cons rfl (fun K hK=>?_) AllReadyH.nil
 refine dW rfl 36 _ _ Tryz.dp rfl #[.int .i64 src] (by simp[Act.eval]) HIT.out (fun e W2 hp=>?_)
 obtain⟨rfl,hb2⟩:=hp
 refine⟨_,rfl,?_⟩
 have HB12:=hid (HDW.out.trans hb2)
 have HIT2:=hid (FP HD.out (HT.out.below (HB1.out.trans (HB12.out.mono HB1.out.size))))
 refine hK.out _ _ (HSC.out _ HB12.out) (fun hHeld1=>?_)
 clear hK K hHeld0 hb2 HIT
 simp only[Act.put,List.getElem_toArray,List.getElem_cons_zero,List.getElem_cons_succ,List.setIfInBounds_toArray,List.set_cons_zero,List.set_cons_succ]
 refine wpAnyH_ready (rs:=[7]) (by kernel_rfl) (by simp) ?_
 refine AllReadyH.cons rfl (fun K hK=>?_) AllReadyH.nil
 refine dW rfl 36 _ _ Tryz.dp rfl #[.int .i64 dst] (by simp[Act.eval]) HIT2.out (fun e W3 hp=>?_)
 obtain⟨rfl,hb3⟩:=hp
 refine⟨_,rfl,?_⟩
 have HB13:=hid (HB12.out.trans (hb3.mono HB12.out.size))
 refine hK.out _ _ (HSC.out _ HB13.out) (fun hHeld2=>?_)
 clear hK K hHeld1 hb3 HIT2
 simp only[Act.put,List.getElem_toArray,List.getElem_cons_zero,List.getElem_cons_succ,List.setIfInBounds_toArray,List.set_cons_zero,List.set_cons_succ]
 refine wpAnyH_ready (rs:=[8]) (by kernel_rfl) (by simp) ?_
 refine AllReadyH.cons rfl (fun K hK=>?_) AllReadyH.nil
 go_simp
 have HB14:=hid (HB13.out.alloc HB13.out.size (.cells #[.string (dB src),.string ty,.string (dB dst)] 9))
 have HO4:Hid ((W3.alloc (.cells #[.string (dB src),.string ty,.string (dB dst)] 9)).ownsRow W3.heap.size 9 1 (.slice (some ⟨W3.heap.size,0,none⟩) 3 3) 3 (strs [dB src,ty,dB dst])):=hid ⟨rfl,Or.inr ⟨W3.heap.size,3,#[.string (dB src),.string ty,.string (dB dst)],rfl,Nat.le_refl _,heap_alloc_new W3 _,Nat.le_refl _,by unfold maxLen;omega,rfl,rfl⟩⟩
 have hsm:(Lib.join (([dB src,ty,dB dst]).map (·.data.toList)) [32]).length≤140737488355328:=by
  refine Nat.le_trans (cO _ 1100 (fun x hx=>?_)) (by simp)
  obtain⟨b,hb,rfl⟩:=List.mem_map.1 hx
  rcases List.mem_cons.1 hb with rfl|hb
  ·have:=vU HS.out;omega
  ·rcases List.mem_cons.1 hb with rfl|hb
   ·have h1:=HTY.out
    rw[Array.length_toList]
    exact Nat.le_trans h1 (by omega)
   ·rw[List.mem_singleton.1 hb]
    have:=vU HD.out;omega
 have HJ:=hid (Mc (ts:=[dB src,ty,dB dst]) HO4.out (by simp) (by simp) hsm)
 refine hK.out _ _ (HSC.out _ HB14.out) (fun hHeld3=>?_)
 clear hK K hHeld2 hsm
 refine wpAnyH_ready (rs:=[9]) (by kernel_rfl) (by simp) ?_
 refine AllReadyH.cons rfl (fun K hK=>?_) AllReadyH.nil
 refine dW rfl 54 _ _ Tryz.tp rfl #[.slice (some ⟨W3.heap.size,0,none⟩) 3 3,.string ⟨#[32]⟩] (by simp[Act.eval]) HJ.out (fun e W5 hp=>?_)
 obtain⟨rfl,hb5⟩:=hp
 refine⟨_,rfl,?_⟩
 have HB15:=hid (HB14.out.trans (hb5.mono HB14.out.size))
 refine hK.out _ _ (HSC.out _ HB15.out) (fun hHeld4=>?_)
 clear hK K hHeld3 hb5 HJ
 simp only[Act.put,List.getElem_toArray,List.getElem_cons_zero,List.getElem_cons_succ,List.setIfInBounds_toArray,List.set_cons_zero,List.set_cons_succ]
 refine wpAnyH_take (i:=10) (v:=.string (jn [dB src,ty,dB dst])) rfl (by kernel_rfl) (by kernel_rfl) (by kernel_rfl) (fun _ _ _ h=>h) (Or.inl ⟨by rfl,by intro w hSw;go_simp;(try with_reducible rfl)⟩) hHeld4 ?_
 simp only[Act.put,List.getElem_toArray,List.getElem_cons_zero,List.getElem_cons_succ,List.setIfInBounds_toArray,List.set_cons_zero,List.set_cons_succ]
 refine wpAnyH_done (by kernel_rfl) ?_ _
 refine NoPanic.normal ?_
 clear hHeld4
 go_simp
 go_wp2_with fail
 go_ret
 exact⟨rfl,HB1.out.trans (HB15.out.mono HB1.out.size)⟩
end
end Go.Proofs.YtobgbmfpicmpcaaGreatDoor
