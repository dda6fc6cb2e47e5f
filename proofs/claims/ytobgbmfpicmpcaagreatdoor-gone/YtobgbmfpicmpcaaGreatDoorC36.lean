/- The changes: slices.SortFunc over a row of pairs. -/
import Derived.Test.YtobgbmfpicmpcaaGreatDoorC35
import Derived.Test.YtobgbmfpicmpcaaGreatDoorC32
import Derived.Shelf.SlIterI.Nil
import Derived.Shelf.SortM.Plain
import Derived.Shelf.SortM.SortNone
import Derived.Test.YtobgbmfpicmpcaaGreatDoorProg
import Derived.Test.YtobgbmfpicmpcaaGreatDoorC01
import Derived.Lib.Hide
set_option maxRecDepth 100000
set_option maxHeartbeats 8000000
namespace Go.Proofs.YtobgbmfpicmpcaaGreatDoor
open Go.Lib (hid)
section
open Go.RowKit Go.Maps Go.Sort
theorem tq (x:PP):(fP x).length=2:=rfl
theorem FU (d:Array PP):(flatK fP 2 d).toList=d.toList.flatMap fP:=by
 have hlen:(d.toList.flatMap fP).length=d.size*2:=by
  rw[List.length_flatMap]
  simp[tq,List.map_const',List.sum_replicate_nat]
 refine List.ext_getElem (by simp[hlen]) fun t h1 h2=>?_
 have ht:t<d.size*2:=by rw[hlen] at h2;exact h2
 have hq:t / 2<d.toList.length:=by simp;omega
 have h3:=om fP tq d.toList (t / 2) hq (t % 2) (Nat.mod_lt _ (by decide))
 have e:t / 2*2+t % 2=t:=by omega
 rw[e,List.getElem?_eq_getElem h2] at h3
 have h4:(fP d.toList[t / 2])[t % 2]?=some ((fP d.toList[t / 2])[t % 2]'(by rw[tq];exact Nat.mod_lt _ (by decide))):=List.getElem?_eq_getElem _
 rw[h4] at h3
 injection h3 with h3
 rw[h3]
 have h5:=get_flatK fP 2 d t ht
 rw[getElem!_pos (flatK fP 2 d) t (by simpa using ht)] at h5
 rw[Array.getElem_toList,h5]
 have h6:d[t / 2]! = d.toList[t / 2]:=by rw[getElem!_pos d (t / 2) (by simpa using hq)];simp
 rw[h6,getElem!_pos _ (t % 2) (by rw[tq];exact Nat.mod_lt _ (by decide))]
theorem zQ {w:World} {B g cap n:Nat} {d:Array PP} (h:w.ownsRow B 336 2 (.slice (some ⟨g,0,none⟩) n cap) n (d.toList.flatMap fP)) (hn:n=d.size):HoldsK fP 2 w g 0 d:=by
 intro j hj
 have hj':j<d.size*2:=by simpa using hj
 rcases h.2 with ⟨hv,_⟩|⟨g',cap',cur,hv,_,hg,hnc,_,hs,ht⟩
 ·cases hv
 ·injection hv with h1 _ _
  injection h1 with h1
  injection h1 with h1 _
  subst h1
  have hl:Loc w g cur 336:=hg
  refine⟨?_,by rw[Nat.zero_add];exact hl.free j⟩
  rw[Nat.zero_add,hl.cell j]
  have h7:(cur.toList.take (n*2))[j]?=(d.toList.flatMap fP)[j]?:=by rw[ht]
  rw[List.getElem?_take,if_pos (by omega)] at h7
  rw[←FU] at h7
  simp only[Array.getElem?_toList] at h7
  rw[h7,Array.getElem?_eq_getElem hj,getElem!_pos _ j hj]
  rfl
theorem wx {w:World} {g m:Nat} {d:Array PP} {os:Array Obj} {cur:Array Value} {T:TypeId} (hg:w.heap[g]?=some (.cells cur T (0,0))):
  (sortWorldK fP 2 w g 0 m d os).heap[g]?=some (.cells (putCells id 0 (flatK fP 2 d) cur) T (0,0)):=by
 have hlt:g<w.heap.size:=lt_of_block hg
 have e:(sortWorldK fP 2 w g 0 m d os).heap=(w.heap.modify g (onCells (putCells id 0 (flatK fP 2 d))))++os:=rfl
 rw[e,Array.getElem?_append_left (by simpa using hlt),Array.getElem?_modify,if_pos rfl,hg]
 rfl
theorem wD {w:World} {g m:Nat} {d:Array PP} {os:Array Obj}:Kept (fun k=>k=g) w (sortWorldK fP 2 w g 0 m d os):=by
 have e:(sortWorldK fP 2 w g 0 m d os).heap=(w.heap.modify g (onCells (putCells id 0 (flatK fP 2 d))))++os:=rfl
 refine⟨rfl,rfl,rfl,by rw[e];simp,fun k hk hn=>?_⟩
 rw[e,Array.getElem?_append_left (by simpa using hk),Array.getElem?_modify,if_neg (fun h=>hn h.symm)]
theorem yY {w:World} {B g m n cap:Nat} {d:Array PP} {os:Array Obj} {xs:List Value} (h:w.ownsRow B 336 2 (.slice (some ⟨g,0,none⟩) n cap) n xs) (hd:d.size=n):(sortWorldK fP 2 w g 0 m d os).ownsRow B 336 2 (.slice (some ⟨g,0,none⟩) n cap) n (d.toList.flatMap fP):=by
 have hF:(flatK fP 2 d).size=n*2:=by simp[hd]
 refine⟨by rw[←FU];simp[hd],?_⟩
 rcases h.2 with ⟨hv,_⟩|⟨g',cap',cur,hv,hb,hg,hnc,hm,hs,_⟩
 ·cases hv
 ·injection hv with h1 _ h3
  injection h1 with h1
  injection h1 with h1 _
  subst h1 h3
  refine Or.inr ⟨g,cap,_,rfl,hb,wx hg,hnc,hm,by simp[putCells,hs],?_⟩
  rw[←hF,ya cur _ (by rw[hF,hs];exact Nat.mul_le_mul_right 2 hnc),FU]
theorem uR:fV (fun a b:Int=>Lib.compareInt a b):=by
 refine⟨fun a b=>?_,fun a b c h1 h2=>?_⟩<;>unfold Lib.compareInt at * <;> (repeat' split)<;>(repeat' split at *)<;>omega
theorem pM:fV mV:=by
 have h1:=uR.on (fun p:PP=>p.1)
 have h2:=uR.on (fun p:PP=>p.2)
 exact h1.both h2
theorem yq {a b:PP} (h:mV a b=0):a=b:=by
 obtain⟨a1,a2⟩:=a
 obtain⟨b1,b2⟩:=b
 unfold mV KR Lib.compareInt at h
 simp only at h
 have h1:a1=b1∧a2=b2:=by
  (repeat' split at h)<;>omega
 rw[h1.1,h1.2]
theorem Tryz.CR (args:Array Value) (w:World):(callFunc 296 args).run Tryz.prog w=.ok (.enter 296 args) w:=by go_simp
theorem Jn {W:World} {B:Nat} {v:Value} {ps:List PP} (hr:W.ownsRow B 336 2 v ps.length (ps.flatMap fP)) (hsz:ps.length≤1000000):
  Calls Tryz.prog 333 #[v,.func (.func 296) #[] #[]] W fun e W'=>e=.returned (.tuple #[])∧W'.ownsRow B 336 2 v ps.length ((iW mV ps).flatMap fP)∧Kept (fun k=>v.ownBlock=some k) W W':=by
 rcases hr.2 with ⟨hv,h0⟩|⟨g,cap,cur,hv,hb,hg,hnc,hm,hcs,ht⟩
 ·subst hv
  have hnil:ps=[]:=by cases ps with|nil=>rfl|cons a r=>simp at h0
  subst hnil
  have hcon:=AnyF.slices_SortFunc_none Tryz.sortPair none 0 (.func (.func 296) #[] #[]) W
  change Calls Tryz.prog 333 _ _ _ at hcon
  refine hcon.mono ?_
  rintro e W' ⟨rfl,hw⟩
  obtain rfl:=hw.symm
  refine⟨rfl,?_,Kept.refl _ _⟩
  have e:iW mV ([]:List PP)=[]:=by unfold iW;simp
  rw[e]
  exact World.ownsRow_nil _ _ _ _
 ·subst hv
  have hlt:g<W.heap.size:=(hr.lt g rfl).2
  have hcl:CmpLays Tryz.prog 296 #[] fP 2 mV g 0 ps.toArray.size W:=by
   intro m os dk _ x y
   exact Cy x y _
  have hcon:=AnyQ.slices_SortFunc Tryz.sortPair 2 Tryz.isAgg336 Tryz.sizeOf336 fP tq FT mV pM.swo 296 #[] g 0 cap ps.toArray W Tryz.CR hcl (zQ (n:=ps.length) hr (by simp)) hlt (by simp;omega)
  change Calls Tryz.prog 333 _ _ _ at hcon
  have e1:ps.toArray.size=ps.length:=by simp
  rw[e1] at hcon
  refine hcon.mono ?_
  rintro e W' ⟨rfl,d',n,os,hp,hst,rfl⟩
  have hsd:d'.size=ps.length:=by have h:=hp.1;simpa using h
  have hk:=wD (w:=W) (g:=g) (m:=n) (d:=d') (os:=os)
  refine⟨rfl,?_,⟨hk.os,hk.tape,hk.output,hk.size,fun k hk1 hk2=>hk.block k hk1 (fun e=>hk2 (by rw[e];rfl))⟩⟩
  have hrow:=yY (m:=n) (os:=os) hr hsd
  have hperm:d'.toList.Perm ps:=by
   have h1:=hp.2.2
   have e1:d'.extract 0 ps.length=d':=by rw[←hsd];simp
   have e2:ps.toArray.extract 0 ps.length=ps.toArray:=by rw[←List.size_toArray];exact Array.extract_size
   rw[e1,e2] at h1
   simpa using h1
  have hsort:d'.toList.Pairwise (fun a b=>ltOf mV b a=false):=by
   refine List.pairwise_iff_getElem.2 fun i j hi hj hij=>?_
   have h1:=hst i j (Nat.zero_le _) hij (by rw[←hsd];simpa using hj)
   rw[getElem!_pos d' j (by simpa using hj),getElem!_pos d' i (by simpa using hi)] at h1
   simpa using h1
  rw[mO pM (fun a b h=>yq h) hperm hsort] at hrow
  exact hrow
end
end Go.Proofs.YtobgbmfpicmpcaaGreatDoor
namespace Go.Proofs
open Go.Shelf
def Tryz.keysN_ren : Go.Shelf.Ren := ⟨fun | 7 => 299 | 10 => 338 | n => n, fun | 23 => 259 | 26 => 3 | 3 => 273 | 28 => 377 | 0 => 0 | 27 => 376 | 33 => 41 | 4 => 4 | n => n, fun | n => n⟩
theorem Tryz.keysN : Go.Proofs.SlLaysZI.n7 Tryz.prog Tryz.keysN_ren := {
  mixed := by kernel_rfl
  f7 := ⟨Tryz.f299.name, by decide, Tryz.func299.trans (congrArg some (by kernel_rfl))⟩
  f10 := ⟨Tryz.f338.name, by decide, Tryz.func338.trans (congrArg some (by kernel_rfl))⟩
  t0 := Tryz.underlying0
  a0 := Tryz.isAgg0
  z0 := Tryz.sizeOf0
  v0 := Tryz.zeroValue0
  t4 := Tryz.underlying4
  a4 := Tryz.isAgg4
  z4 := Tryz.sizeOf4
  v4 := Tryz.zeroValue4
  t23 := Tryz.underlying259
  a23 := Tryz.isAgg259
  z23 := Tryz.sizeOf259
  v23 := Tryz.zeroValue259
  t26 := Tryz.underlying3
  a26 := Tryz.isAgg3
  z26 := Tryz.sizeOf3
  v26 := Tryz.zeroValue3
  t27 := Tryz.underlying376
  a27 := Tryz.isAgg376
  z27 := Tryz.sizeOf376
  v27 := Tryz.zeroValue376
  t28 := Tryz.underlying377
  a28 := Tryz.isAgg377
  z28 := Tryz.sizeOf377
  v28 := Tryz.zeroValue377
  t33 := Tryz.underlying41
  a33 := Tryz.isAgg41
  z33 := Tryz.sizeOf41
  v33 := Tryz.zeroValue41 }
def Tryz.sortedN_ren : Go.Shelf.Ren := ⟨fun | 6 => 298 | 8 => 336 | 9 => 337 | 11 => 357 | 13 => 192 | 12 => 358 | 23 => 252 | 24 => 253 | 14 => 375 | 15 => 376 | 16 => 377 | 17 => 378 | 18 => 379 | 19 => 380 | 20 => 381 | 21 => 382 | 22 => 383 | 25 => 391 | 26 => 288 | 27 => 289 | 28 => 392 | 29 => 393 | 30 => 292 | 31 => 395 | n => n, fun | 26 => 3 | 28 => 377 | 24 => 53 | 0 => 0 | 3 => 3 | 37 => 204 | 48 => 327 | 50 => 278 | 4 => 4 | 40 => 321 | 39 => 320 | 45 => 154 | 5 => 5 | 9 => 9 | 51 => 363 | 55 => 367 | 57 => 395 | 58 => 396 | 33 => 41 | n => n, fun | n => n⟩
theorem Tryz.sortedN : Go.Proofs.SlLaysZI.n6 Tryz.prog Tryz.sortedN_ren := {
  mixed := by kernel_rfl
  f6 := ⟨Tryz.f298.name, by decide, Tryz.func298.trans (congrArg some (by kernel_rfl))⟩
  f8 := ⟨Tryz.f336.name, by decide, Tryz.func336.trans (congrArg some (by kernel_rfl))⟩
  f11 := ⟨Tryz.f357.name, by decide, Tryz.func357.trans (congrArg some (by kernel_rfl))⟩
  t0 := Tryz.underlying0
  a0 := Tryz.isAgg0
  z0 := Tryz.sizeOf0
  v0 := Tryz.zeroValue0
  t24 := Tryz.underlying53
  a24 := Tryz.isAgg53
  z24 := Tryz.sizeOf53
  v24 := Tryz.zeroValue53
  t26 := Tryz.underlying3
  a26 := Tryz.isAgg3
  z26 := Tryz.sizeOf3
  v26 := Tryz.zeroValue3
  t28 := Tryz.underlying377
  a28 := Tryz.isAgg377
  z28 := Tryz.sizeOf377
  v28 := Tryz.zeroValue377
  i26 := by kernel_rfl }
def Tryz.sortN_ren : Go.Shelf.Ren := ⟨fun | 5 => 337 | 8 => 192 | 7 => 358 | 19 => 252 | 20 => 253 | 10 => 375 | 11 => 376 | 12 => 377 | 13 => 378 | 14 => 379 | 15 => 380 | 16 => 381 | 17 => 382 | 18 => 383 | 30 => 391 | 31 => 288 | 32 => 289 | 33 => 392 | 34 => 393 | 35 => 292 | 40 => 395 | n => n, fun | 23 => 53 | 25 => 3 | 3 => 3 | 32 => 204 | 22 => 53 | 0 => 0 | 44 => 327 | 46 => 278 | 4 => 4 | 36 => 321 | 35 => 320 | 41 => 154 | 5 => 5 | 9 => 9 | 53 => 363 | 57 => 367 | 63 => 395 | 64 => 396 | n => n, fun | n => n⟩
theorem Tryz.sortN : Go.Proofs.SlLaysM.n5 Tryz.prog Tryz.sortN_ren := {
  mixed := by kernel_rfl
  f5 := ⟨Tryz.f337.name, by decide, Tryz.func337.trans (congrArg some (by kernel_rfl))⟩
  f7 := ⟨Tryz.f358.name, by decide, Tryz.func358.trans (congrArg some (by kernel_rfl))⟩
  f8 := Tryz.func192.trans (congrArg some (by kernel_rfl))
  f10 := ⟨Tryz.f375.name, by decide, Tryz.func375.trans (congrArg some (by kernel_rfl))⟩
  f11 := ⟨Tryz.f376.name, by decide, Tryz.func376.trans (congrArg some (by kernel_rfl))⟩
  f12 := ⟨Tryz.f377.name, by decide, Tryz.func377.trans (congrArg some (by kernel_rfl))⟩
  f13 := ⟨Tryz.f378.name, by decide, Tryz.func378.trans (congrArg some (by kernel_rfl))⟩
  f14 := ⟨Tryz.f379.name, by decide, Tryz.func379.trans (congrArg some (by kernel_rfl))⟩
  f15 := ⟨Tryz.f380.name, by decide, Tryz.func380.trans (congrArg some (by kernel_rfl))⟩
  f16 := ⟨Tryz.f381.name, by decide, Tryz.func381.trans (congrArg some (by kernel_rfl))⟩
  f17 := ⟨Tryz.f382.name, by decide, Tryz.func382.trans (congrArg some (by kernel_rfl))⟩
  f18 := ⟨Tryz.f383.name, by decide, Tryz.func383.trans (congrArg some (by kernel_rfl))⟩
  f19 := Tryz.func252.trans (congrArg some (by kernel_rfl))
  f20 := Tryz.func253.trans (congrArg some (by kernel_rfl))
  f30 := ⟨Tryz.f391.name, by decide, Tryz.func391.trans (congrArg some (by kernel_rfl))⟩
  f31 := Tryz.func288.trans (congrArg some (by kernel_rfl))
  f32 := Tryz.func289.trans (congrArg some (by kernel_rfl))
  f33 := ⟨Tryz.f392.name, by decide, Tryz.func392.trans (congrArg some (by kernel_rfl))⟩
  f34 := ⟨Tryz.f393.name, by decide, Tryz.func393.trans (congrArg some (by kernel_rfl))⟩
  f35 := ⟨Tryz.f292.name, by decide, Tryz.func292.trans (congrArg some (by kernel_rfl))⟩
  f40 := ⟨Tryz.f395.name, by decide, Tryz.func395.trans (congrArg some (by kernel_rfl))⟩
  t0 := Tryz.underlying0
  a0 := Tryz.isAgg0
  z0 := Tryz.sizeOf0
  v0 := Tryz.zeroValue0
  t3 := Tryz.underlying3
  a3 := Tryz.isAgg3
  z3 := Tryz.sizeOf3
  v3 := Tryz.zeroValue3
  t4 := Tryz.underlying4
  a4 := Tryz.isAgg4
  z4 := Tryz.sizeOf4
  v4 := Tryz.zeroValue4
  t5 := Tryz.underlying5
  a5 := Tryz.isAgg5
  z5 := Tryz.sizeOf5
  v5 := Tryz.zeroValue5
  t9 := Tryz.underlying9
  a9 := Tryz.isAgg9
  z9 := Tryz.sizeOf9
  v9 := Tryz.zeroValue9
  t22 := Tryz.underlying53
  a22 := Tryz.isAgg53
  z22 := Tryz.sizeOf53
  v22 := Tryz.zeroValue53
  t23 := Tryz.underlying53
  a23 := Tryz.isAgg53
  z23 := Tryz.sizeOf53
  v23 := Tryz.zeroValue53
  t25 := Tryz.underlying3
  a25 := Tryz.isAgg3
  z25 := Tryz.sizeOf3
  v25 := Tryz.zeroValue3
  t32 := Tryz.underlying204
  a32 := Tryz.isAgg204
  z32 := Tryz.sizeOf204
  v32 := Tryz.zeroValue204
  t35 := Tryz.underlying320
  a35 := Tryz.isAgg320
  z35 := Tryz.sizeOf320
  v35 := Tryz.zeroValue320
  t36 := Tryz.underlying321
  a36 := Tryz.isAgg321
  z36 := Tryz.sizeOf321
  v36 := Tryz.zeroValue321
  t41 := Tryz.underlying154
  a41 := Tryz.isAgg154
  z41 := Tryz.sizeOf154
  v41 := Tryz.zeroValue154
  t44 := Tryz.underlying327
  a44 := Tryz.isAgg327
  z44 := Tryz.sizeOf327
  v44 := Tryz.zeroValue327
  t46 := Tryz.underlying278
  a46 := Tryz.isAgg278
  z46 := Tryz.sizeOf278
  v46 := Tryz.zeroValue278
  t53 := Tryz.underlying363
  a53 := Tryz.isAgg363
  z53 := Tryz.sizeOf363
  v53 := Tryz.zeroValue363
  t57 := Tryz.underlying367
  a57 := Tryz.isAgg367
  z57 := Tryz.sizeOf367
  v57 := Tryz.zeroValue367
  t63 := Tryz.underlying395
  a63 := Tryz.isAgg395
  z63 := Tryz.sizeOf395
  v63 := Tryz.zeroValue395
  t64 := Tryz.underlying396
  a64 := Tryz.isAgg396
  z64 := Tryz.sizeOf396
  v64 := Tryz.zeroValue396 }
end Go.Proofs
namespace Go.Proofs.YtobgbmfpicmpcaaGreatDoor
open Go.Lib (hid)
section
open Go.RowKit Go.Maps Go.Sort Go.Shelf
theorem Tryz.JR (m:Nat):AnyZI.SortsIn Tryz.prog Tryz.sortedN_ren Fence.wide m:=
 ⟨fun bZ off cap ss W hH hblk hsz=>callsIn_wide.2 (AnyM.slices_Sort_int Tryz.sortN bZ off cap ss W hH hblk hsz),
 fun p cap W=>callsIn_wide.2 (AnyM.slices_Sort_int_none Tryz.sortN p cap W)⟩
theorem Kp (mb:Option Nat) (W:World):Calls Tryz.prog 299 #[.map mb] W fun e w'=>e=.returned (.func (.func 338) #[] #[.pointer (some ⟨W.heap.size,0,none⟩)])∧w'=W.alloc (.cells #[.map mb] 259):=
 (callsIn_wide (n:=5)).1 (AnyZI.keys_in Tryz.keysN Fence.wide 5 trivial rfl mb W)
theorem IQ {H:Type} {b M nn:Nat} {D0:DataW H} {R:Value→Option (DataW H × List MemPlace)} {w:World} (hown:w.ownsMap Tryz.prog 3 R M nn D0) (hb:b<w.heap.size) (hm:w.cell? ⟨b,0,none⟩=some (.map (some M))) (hn:nn≤1000000):
  Calls Tryz.prog 298 #[.func (.func 338) #[] #[.pointer (some ⟨b,0,none⟩)]] w fun e w'=>∃(v:Value) (ss:List Int),e=.returned v∧ss.Perm (intKeys D0)∧w'.ownsRow w.heap.size 3 1 v ss.length ((ss.mergeSort (fun x y=>decide (x≤y))).map encZ)∧Below w.heap.size w w':=by
 refine(callsIn_wide (n:=6)).1 ?_
 have hsz:=hown.size_le
 have hseq:SeqGives Fence.wide 3 Tryz.prog 338 #[.pointer (some ⟨b,0,none⟩)] encZ (fun ss=>ss.Perm (intKeys D0)) (Maps.size D0) w:=
  AnyZI.keys_gives (ρ:=Tryz.keysN_ren) {Tryz.keysN with} Fence.wide _ trivial rfl (by omega) b M nn D0 _ hb hm hown
 have cS:=AnyZI.sorted_in Tryz.sortedN Fence.wide 6 trivial trivial trivial trivial rfl (by omega) (Tryz.JR _) (enters_of Tryz.func337 (by kernel_rfl) rfl) 338 #[.pointer (some ⟨b,0,none⟩)] trivial (enters_of Tryz.func338 (by kernel_rfl) rfl) _ _ (by unfold maxLen;omega) (by omega) _ hseq
 change CallsIn _ _ Tryz.prog 298 _ _ _ at cS
 refine cS.mono ?_
 rintro e w' ⟨v,ss,rfl,hS,hrow,hnil,hb⟩
 exact⟨v,ss,rfl,hS,hrow,hb⟩
end
section
open Go.RowKit Go.Maps Go.Sort
def mP (key:ByteArray) (rows:List Row):List Int:=rows.map fun f=>(f key).getD 0
def JA (key:ByteArray) (M:Nat) (ub:Nat→Prop) (rows:List Row) (W:World):Prop:=
 ∃D:DataW Unit,W.ownsMap Tryz.prog 3 unitElem M rows.length D∧(∀i:Int,(Lit.int .i64 i).wf=true→Maps.has D (vZ i)=(mP key rows).contains i)∧∀k,ub k↔k=M
theorem CG (key:ByteArray) (M:Nat):oX (JA key M):=by
 refine⟨fun ub rows W w ⟨D,⟨es,c,hb,r⟩,hD,hu⟩ _ he=>⟨D,⟨es,c,(he M ((hu M).2 rfl)).trans hb,r⟩,hD,hu⟩,fun ub rows W ⟨D,ho,hD,hu⟩ k hk=>?_⟩
 rw[(hu k).1 hk]
 exact ho.lt
theorem Tryz.Ff (args:Array Value) (w:World):(callFunc 297 args).run Tryz.prog w=.ok (.enter 297 args) w:=by go_simp
theorem Ia {Z Q B M:Nat} {key:ByteArray} {Fx:Nat→Prop} {W0:World} (hks:key.size≤maxLen)
  (hst:∀w,Kept (fun k=>¬Fx k) W0 w→w.cell? ⟨Z,0,none⟩=some (.map (some M))∧w.cell? ⟨Q,8,none⟩=some (.string key)):
  yW (JA key M) Fx W0 B 297 #[.pointer (some ⟨Z,0,none⟩),.pointer (some ⟨Q,0,none⟩)]:=by
 intro W ub rows f mb hui hp hnb hk hr
 obtain⟨D,ho,hD,hub⟩:=hui
 obtain⟨cZ,cQ⟩:=hst W hk
 have HWF:=hid (hp.wf hks)
 have HO:=hid ho
 have HD:=hid hD
 have HUB:=hid hub
 have hlk:=hp.look hks
 obtain⟨x,hx⟩:∃x,(f key).getD 0=x:=⟨_,rfl⟩
 rw[hx] at HWF hlk
 have HX:=hid hx
 clear hst hk hp hnb ho hD hub hx
 show Calls _ _ #[.map (some B),.pointer (some ⟨Z,0,none⟩),.pointer (some ⟨Q,0,none⟩)] _ _
 go_enter Tryz.func297,Tryz.ntmps297
 go_wp2_with (first
  | (at_mapUpdate;refine wpList_mapUpdate_own _ rfl _ _ _ 259 rfl 3 273 EA Tryz.underlying259 _ M rows.length D rfl HO.out (by unfold maxLen;omega) _ _ _ rfl rfl (keyOf_int_mk Tryz.underlying3 HWF.out) _ [] (unitElem_mk (H:=Unit)) ?_;intro w3 hout3 hg3;go_frame)
  | go_in)
 have HN:=hid (iJ.put HO.out.isMap HD.out HWF.out hout3)
 have HG:=hid hg3
 clear hout3 hg3
 go_end0
 refine⟨rfl,ub,?_,(Kept.refl ub W).then HG.out (fun k hk=>Or.inl ((HUB.out k).2 (by injection hk with hk;exact hk.symm))),fun k hk=>Or.inl hk⟩
 obtain⟨D',ho',hD'⟩:=HN.out
 refine⟨D',?_,fun i hi=>?_,HUB.out⟩
 ·rw[List.length_append,List.length_singleton]
  exact ho'
 ·rw[hD' i hi]
  unfold mP
  rw[List.map_append,List.map_cons,List.map_nil,HX.out]
  simp only[List.contains_eq_mem,List.mem_append,List.mem_singleton]
  by_cases h1:i∈List.map (fun f=>(f key).getD 0) rows
  ·simp[h1]
  ·by_cases h2:x=i
   ·simp[h2]
   ·have h3:¬i=x:=fun e=>h2 e.symm
    simp[h1,h2,h3]
def fQ (key:ByteArray) (rows:List Row):List Int:=(lZ (mP key rows)).mergeSort (fun x y=>decide (x≤y))
theorem Bp {key:ByteArray} {rows:List Row} {W:World} {M n:Nat} {D:DataW Unit} (ho:W.ownsMap Tryz.prog 3 unitElem M n D) (hD:∀i:Int,(Lit.int .i64 i).wf=true→Maps.has D (vZ i)=(mP key rows).contains i) (hok:∀f∈rows,BM f) (hk:key.size≤maxLen):(lZ (mP key rows)).Perm (intKeys D):=by
 obtain⟨es,hes,hpw,_⟩:=ho.entries EA
 obtain⟨es',hes',hko⟩:=ho.keysOf
 obtain rfl:es=es':=by rw[hes] at hes';simpa using hes'
 have hwf:=intKeys_wf ho Tryz.underlying3
 subst hes
 refine perm_intKeys hpw (fun p hp=>by obtain⟨v,hv⟩:=hko p hp;obtain⟨x,_,hx,_⟩:=Maps.keyOf_i64 Tryz.underlying3 hv;exact⟨x,hx⟩) (kf _) (fun x=>?_)
 rw[kF]
 by_cases hx:(Lit.int .i64 x).wf=true
 ·have h1:=hD x hx
  unfold vZ at h1
  rw[h1]
  simp
 ·constructor
  ·intro hm
   unfold mP at hm
   obtain⟨f,hf,rfl⟩:=List.mem_map.1 hm
   exact absurd (hok f hf key hk) hx
  ·intro hm
   refine absurd (hwf x ?_) hx
   rw[has_eq,List.any_eq_true] at hm
   obtain⟨p,hp,hs⟩:=hm
   obtain⟨v,hv⟩:=hko p hp
   obtain⟨a,_,ha,_⟩:=Maps.keyOf_i64 Tryz.underlying3 hv
   rw[ha] at hs
   refine List.mem_map.2 ⟨p,hp,?_⟩
   have hs':a=x:=by simpa [Lit.sameKey] using hs
   rw[ha]
   exact hs'
end
section
open Go.RowKit Go.Maps Go.Sort
theorem zg {W:World} {gb go m sc cc ic pc:Nat} {ns:List aq} {es:List aJ} {sa ca ia pa:Option Addr} {q:au} {budget:Int} (h:et gb go ns es m W) (ok:Jb ns es q.ai q.conds) (hb:0≤budget∧budget≤5000) (hk:q.name.size≤maxLen)
  (hss:bO W 5 (.slice sa q.ai.length sc) q.ai.length (q.ai.flatMap kN)) (hsc:bO W 7 (.slice ca q.conds.length cc) q.conds.length (q.conds.flatMap kk)):
  Calls Tryz.prog 261 #[.pointer (some ⟨gb,go,none⟩),.agg (qC q (.slice sa q.ai.length sc) (.slice ca q.conds.length cc) (.slice ia q.items.length ic) (.slice pa q.ay.length pc)),.int .i64 budget] W fun e W'=>(∃v,e=.returned (.tuple #[v,.bool (decide (0≤(aR ns es q budget).left))])∧W'.ownsRow W.heap.size 3 1 v (fQ q.name (aR ns es q budget).rows).length ((fQ q.name (aR ns es q budget).rows).map encZ))∧Below W.heap.size W W':=by
 obtain⟨qc,hqc⟩:∃qc,qC q (.slice sa q.ai.length sc) (.slice ca q.conds.length cc) (.slice ia q.items.length ic) (.slice pa q.ay.length pc)=qc:=⟨_,rfl⟩
 have HQQ:Hid (qc[8]?=some (.string q.name)∧qc.size=17):=hid (by rw[←hqc];exact⟨rfl,rfl⟩)
 have hmk:=@run_makeMap Tryz.prog
 have hB1:=(Below.refl W.heap.size W).alloc (Nat.le_refl _) (.cells qc 29)
 have hB2:=hB1.alloc hB1.size (.map #[] 0)
 have hB3:=hB2.alloc hB2.size (.cells #[.map (some (W.heap.size+1))] 259)
 have hQ1:=Loc.new W qc 29
 have hQ3:=(hQ1.alloc (.map #[] 0)).alloc (.cells #[.map (some (W.heap.size+1))] 259)
 have hZ3:=Loc.new ((W.alloc (.cells qc 29)).alloc (.map #[] 0)) #[.map (some (W.heap.size+1))] 259
 have hM3:=(World.ownsMap_made (H:=Unit) (W.alloc (.cells qc 29)) Tryz.prog 3 unitElem).kept (ar _ (.cells #[.map (some (W.heap.size+1))] 259) none) (by simp)
 have HB3:=hid hB3
 have HQ3:=hid hQ3
 have HZ3:=hid hZ3
 have HM3:=hid hM3
 have H:=hid h
 have HOK:=hid ok
 have HKS:=hid hk
 have HSS:=hid hss
 have HSC:=hid hsc
 have HQC:=hid hqc
 clear h ok hk hss hsc hB1 hB2 hB3 hQ1 hQ3 hZ3 hM3
 rw[hqc]
 clear hqc
 go_enter Tryz.func261,Tryz.ntmps261
 go_upto_region 2 with fail
 obtain⟨Y,hY⟩:∃Y,Y=W.heap.size:=⟨_,rfl⟩
 have e1:(W.alloc (.cells qc 29)).heap.size=Y+1:=by rw[hY];simp
 have e2:((W.alloc (.cells qc 29)).alloc (.map #[] 0)).heap.size=Y+1+1:=by rw[World.size_alloc,e1]
 have HYW:=hid hY
 rw[e1] at HM3
 rw[e2] at HZ3
 rw[←hY] at HB3 HQ3 HZ3 HM3⊢
 clear hY e1 e2 hmk
 generalize ((W.alloc (.cells qc 29)).alloc (.map #[] 0)).alloc (.cells #[.map (some (Y+1))] 259)=W3 at HB3 HQ3 HZ3 HM3⊢
 rw[HYW.out] at HB3
 have hu0:∀k,k=Y+1→W.heap.size≤k:=by
  intro k hk
  rw[hk,HYW.out]
  omega
 have HU0:=hid hu0
 have HE:Hid (Calls Tryz.prog 130 #[.pointer (some ⟨gb,go,none⟩),.agg qc,.int .i64 budget,.func (.func 297) #[] #[.pointer (some ⟨Y+1+1,0,none⟩),.pointer (some ⟨Y,0,none⟩)]] W3 fun e W'=>e=.returned (.bool (decide (0≤(aR ns es q budget).left)))∧∃ub',sW (JA q.name (Y+1)) ub' (aR ns es q budget).rows W'∧Kept (fun k=>k=Y+1) W3 W'∧∀k,ub' k→k=Y+1∨W3.heap.size≤k):=hid (by
  rw[←HQC.out]
  refine EE (wY (CG q.name (Y+1))) Tryz.Ff HOK.out hb ⟨⟨_,HM3.out,fun i _=>rfl,fun k=>Iff.rfl⟩,fun f hf=>by cases hf⟩ (nB H.out HB3.out hu0) (fun w hk=>HSS.out.below (jH HB3.out hu0 hk)) (fun w hk=>HSC.out.below (jH HB3.out hu0 hk)) (fun B=>vT (Ia HKS.out fun w hk=>?_))
  constructor
  ·refine Eq.trans ?_ ((HZ3.out.cell 0).trans rfl)
   exact World.cell?_of_block (hk.block (Y+1+1) HZ3.out.lt (fun e=>e ⟨HZ3.out.lt,fun h1=>by omega⟩))
  ·refine Eq.trans ?_ ((HQ3.out.cell 8).trans HQQ.out.1)
   exact World.cell?_of_block (hk.block Y HQ3.out.lt (fun e=>e ⟨HQ3.out.lt,fun h1=>by omega⟩)))
 obtain⟨hb1,hb2⟩:=hb
 have HQS:Hid ((Tryz.prog.info? 29).map (·.size)=some qc.toList.length):=hid (by rw[Tryz.aX,Array.length_toList,HQQ.out.2])
 go_wp2_with (refine wpList_load_mid rfl 29 _ rfl Y 0 rfl qc.toList _ HQ3.out.range Tryz.underlying29 rfl HQS.out ?_;simp only[Array.toArray_toList])
 refine HE.out.mono ?_
 rintro e W5 ⟨rfl,ub',⟨⟨D,ho,hD,hub⟩,hwf⟩,hk5,hub5⟩
 have HB5:=hid (iz HB3.out HU0.out hk5)
 have hZ5:Loc W5 (Y+1+1) #[.map (some (Y+1))] 259:=(hk5.block (Y+1+1) HZ3.out.lt (fun e=>by omega)).trans HZ3.out
 have cZ:W5.cell? ⟨Y+1+1,0,none⟩=some (.map (some (Y+1))):=(hZ5.cell 0).trans rfl
 have HLL:Hid ((aR ns es q budget).rows.length≤6000):=hid (by
  have h1:=gD ns es q.conds q.ai ⟨#[]⟩ ⟨budget,jN,[]⟩ hb1
  have h2:bH ns es q.conds q.ai ⟨#[]⟩ ⟨budget,jN,[]⟩=aR ns es q budget:=rfl
  rw[h2] at h1
  have h3:=HOK.out.BN
  simp only[List.length_nil] at h1
  omega)
 have HPM:=hid (Bp ho hD hwf HKS.out)
 have hbk:Below W5.heap.size W5 (W5.alloc (.cells #[.map (some (Y+1))] 259)):=(Below.refl _ W5).alloc (Nat.le_refl _) _
 have HSO:=hid (IQ (b:=W5.heap.size) (w:=W5.alloc (.cells #[.map (some (Y+1))] 259)) (ho.kept (af hbk none) (by simp)) (by simp) ((Loc.new W5 #[.map (some (Y+1))] 259).cell 0) (by have:=HLL.out;omega))
 have HBK:=hid hbk
 clear ho hD hub hwf hk5 hub5 hZ5 hbk HE HM3 HZ3 HQ3 HB3 HU0 hu0
 go_wp2_with fail
 refine(Kp (some (Y+1)) W5).mono ?_
 rintro e W6 ⟨rfl,hw⟩
 obtain rfl:=hw.symm
 go_wp2_with fail
 refine HSO.out.mono ?_
 rintro e W7 ⟨v,ss,rfl,hp,hrow,hb7⟩
 have HB7:=hid (HB5.out.trans ((HBK.out.trans (hb7.mono HBK.out.size)).mono HB5.out.size))
 have hms:ss.mergeSort leI=fQ q.name (aR ns es q budget).rows:=by
  unfold fQ
  exact mergeSort_of_perm_i (hp.trans HPM.out.symm)
 have hln:ss.length=(fQ q.name (aR ns es q budget).rows).length:=by rw[←hms,List.length_mergeSort]
 have HR7:Hid (W7.ownsRow W.heap.size 3 1 v (fQ q.name (aR ns es q budget).rows).length ((fQ q.name (aR ns es q budget).rows).map encZ)):=hid (by
  rw[←hln,←hms]
  exact bQ hrow (by have:=HB5.out.size;have:=HBK.out.size;omega))
 clear hp hrow hb7 hms hln cZ
 go_wp2_with fail
 go_ret2
 exact⟨⟨v,rfl,HR7.out⟩,HB7.out⟩
end
section
open Go.RowKit Go.Maps Go.Sort
def jQ (a b:ByteArray) (rows:List Row):List PP:=rows.map fun f=>((f a).getD 0,(f b).getD 0)
def Jg (a b:ByteArray) (M:Nat) (ub:Nat→Prop) (rows:List Row) (W:World):Prop:=
 ∃D:DataW Unit,W.ownsMap Tryz.prog 336 unitElem M rows.length D∧(∀p,Ax p→Maps.has D (ie p)=(jQ a b rows).contains p)∧(∀k,Maps.has D k=true→∃p,Ax p∧k=ie p)∧∀k,ub k↔k=M
theorem CX (a b:ByteArray) (M:Nat):oX (Jg a b M):=by
 refine⟨fun ub rows W w ⟨D,⟨es,c,hb,r⟩,hD,hK,hu⟩ _ he=>⟨D,⟨es,c,(he M ((hu M).2 rfl)).trans hb,r⟩,hD,hK,hu⟩,fun ub rows W ⟨D,ho,hD,hK,hu⟩ k hk=>?_⟩
 rw[(hu k).1 hk]
 exact ho.lt
theorem Tryz.DG (args:Array Value) (w:World):(callFunc 293 args).run Tryz.prog w=.ok (.enter 293 args) w:=by go_simp
theorem Ek {Z Q B M:Nat} {ka kb:ByteArray} {Fx:Nat→Prop} {W0:World} (hka:ka.size≤maxLen) (hkb:kb.size≤maxLen)
  (hst:∀w,Kept (fun k=>¬Fx k) W0 w→w.cell? ⟨Z,0,none⟩=some (.map (some M))∧w.cell? ⟨Q,8,none⟩=some (.string ka)∧w.cell? ⟨Q,14,none⟩=some (.string kb)):
  yW (Jg ka kb M) Fx W0 B 293 #[.pointer (some ⟨Z,0,none⟩),.pointer (some ⟨Q,0,none⟩)]:=by
 intro W ub rows f mb hui hp hnb hk hr
 obtain⟨D,ho,hD,hKS,hub⟩:=hui
 obtain⟨cZ,cQ,cR⟩:=hst W hk
 have hwa:=hp.wf hka
 have hwb:=hp.wf hkb
 have HO:=hid ho
 have HD:=hid hD
 have HKS:=hid hKS
 have HUB:=hid hub
 have hla:=hp.look hka
 have hlb:=hp.look hkb
 obtain⟨x,hx⟩:∃x,(f ka).getD 0=x:=⟨_,rfl⟩
 obtain⟨y,hy⟩:∃y,(f kb).getD 0=y:=⟨_,rfl⟩
 rw[hx] at hwa hla
 rw[hy] at hwb hlb
 have HPO:Hid (Ax (x,y)):=hid ⟨hwa,hwb⟩
 have HX:=hid (And.intro hx hy)
 clear hst hk hp hnb ho hD hKS hub hx hy hwa hwb
 show Calls _ _ #[.map (some B),.pointer (some ⟨Z,0,none⟩),.pointer (some ⟨Q,0,none⟩)] _ _
 go_enter Tryz.func293,Tryz.ntmps293
 go_wp2_with (first
  | (at_mapUpdate;refine wpList_mapUpdate_own _ rfl _ _ _ 369 rfl 336 273 DJ Tryz.underlying369 _ M rows.length D rfl HO.out (by unfold maxLen;omega) _ _ _ rfl rfl (FW HPO.out) _ [] (unitElem_mk (H:=Unit)) ?_;intro w3 hout3 hg3;go_frame)
  | go_in)
 have HN:=hid hout3
 have HG:=hid hg3
 clear hout3 hg3
 go_end0
 refine⟨rfl,ub,?_,(Kept.refl ub W).then HG.out (fun k hk=>Or.inl ((HUB.out k).2 (by injection hk with hk;exact hk.symm))),fun k hk=>Or.inl hk⟩
 have hIM:=HO.out.isMap
 refine⟨D.put (ie (x,y)) (.agg []),?_,fun p hp=>?_,fun k hk=>?_,HUB.out⟩
 ·rw[List.length_append,List.length_singleton]
  exact HN.out
 ·unfold jQ
  rw[List.map_append,List.map_cons,List.map_nil,HX.out.1,HX.out.2]
  by_cases e:p=(x,y)
  ·subst e
   rw[has_put_same hIM (DJ.key (FW HPO.out))]
   simp
  ·have hne:ie p≠ie (x,y):=fun h=>e (zv hp HPO.out h)
   rw[has_put_other hne,HD.out p hp]
   unfold jQ
   simp[e]
 ·by_cases e:k=ie (x,y)
  ·exact⟨_,HPO.out,e⟩
  ·rw[has_put_other e] at hk
   exact HKS.out k hk
def jb (a b:ByteArray) (rows:List Row):List PP:=iW mV (lZ (jQ a b rows))
theorem AT {a b:ByteArray} {rows:List Row} {D:DataW Unit} {ss:List PP} (hD:∀p,Ax p→Maps.has D (ie p)=(jQ a b rows).contains p) (hok:∀f∈rows,BM f) (ha:a.size≤maxLen) (hb:b.size≤maxLen) (hc:kM D (fun _=>false) ss):ss.Perm (lZ (jQ a b rows)):=by
 refine(List.perm_ext_iff_of_nodup hc.lZ (kf _)).2 fun p=>?_
 rw[kF]
 have hpo:p∈jQ a b rows→Ax p:=by
  intro hm
  unfold jQ at hm
  obtain⟨f,hf,rfl⟩:=List.mem_map.1 hm
  exact⟨hok f hf a ha,hok f hf b hb⟩
 constructor
 ·intro hm
  have h1:=((hc.all p (hc.ok p hm)).1 hm).1
  rw[hD p (hc.ok p hm)] at h1
  simpa using h1
 ·intro hm
  refine(hc.all p (hpo hm)).2 ⟨?_,rfl⟩
  rw[hD p (hpo hm)]
  simpa using hm
theorem pC {α:Type} [DecidableEq α]:∀(l:List α),(lZ l).length≤l.length
 | []=>Nat.le_refl _
 | a::r=>by
  have:=pC r
  unfold lZ
  split<;>simp only[List.length_cons]<;>omega
theorem F4 {b M nn:Nat} {D0:DataW Unit} {w:World} (hown:w.ownsMap Tryz.prog 336 unitElem M nn D0) (hkeys:∀k,Maps.has D0 k=true→∃p,Ax p∧k=ie p) (hb:b<w.heap.size) (hm:w.cell? ⟨b,0,none⟩=some (.map (some M))) (hn:nn≤1000000) (hs:∀ss,kM D0 (fun _=>false) ss→ss.length≤1000000):
  Calls Tryz.prog 294 #[.func (.func 334) #[] #[.pointer (some ⟨b,0,none⟩)],.func (.func 296) #[] #[]] w fun e w'=>∃(v:Value) (ss:List PP),e=.returned v∧kM D0 (fun _=>false) ss∧w'.ownsRow w.heap.size 336 2 v ss.length ((iW mV ss).flatMap fP)∧Below w.heap.size w w':=by
 have HC:=hid (GH hown hkeys hb hm hn)
 have HS:=hid hs
 clear hown hkeys hm hs hb
 go_enter Tryz.func294,Tryz.ntmps294
 go_wp2_with fail
 refine HC.out.mono ?_
 rintro e W1 ⟨v,ss,rfl,hc,hrow,hb1⟩
 have HCC:=hid hc
 have HR:=hid hrow
 have HB:=hid hb1
 clear hc hrow hb1 HC
 go_wp2_with fail
 refine(Jn HR.out (HS.out ss HCC.out)).mono ?_
 rintro e W2 ⟨rfl,hr2,hk2⟩
 have HR2:=hid hr2
 have HB2:=hid (iz HB.out (fun k hk=>(HR.out.lt k hk).1) hk2)
 clear hr2 hk2
 go_wp2_with fail
 go_ret
 exact⟨v,ss,rfl,HCC.out,HR2.out,HB2.out⟩
theorem Fm {W:World} {gb go m sc cc ic pc:Nat} {ns:List aq} {es:List aJ} {sa ca ia pa:Option Addr} {q:au} {budget:Int} (h:et gb go ns es m W) (ok:Jb ns es q.ai q.conds) (hb:0≤budget∧budget≤5000) (hk:q.name.size≤maxLen) (hkt:q.dest.size≤maxLen)
  (hss:bO W 5 (.slice sa q.ai.length sc) q.ai.length (q.ai.flatMap kN)) (hsc:bO W 7 (.slice ca q.conds.length cc) q.conds.length (q.conds.flatMap kk)):
  Calls Tryz.prog 259 #[.pointer (some ⟨gb,go,none⟩),.agg (qC q (.slice sa q.ai.length sc) (.slice ca q.conds.length cc) (.slice ia q.items.length ic) (.slice pa q.ay.length pc)),.int .i64 budget] W fun e W'=>(∃v,e=.returned (.tuple #[v,.bool (decide (0≤(aR ns es q budget).left))])∧W'.ownsRow W.heap.size 336 2 v (jb q.name q.dest (aR ns es q budget).rows).length ((jb q.name q.dest (aR ns es q budget).rows).flatMap fP))∧Below W.heap.size W W':=by
 obtain⟨qc,hqc⟩:∃qc,qC q (.slice sa q.ai.length sc) (.slice ca q.conds.length cc) (.slice ia q.items.length ic) (.slice pa q.ay.length pc)=qc:=⟨_,rfl⟩
 have HQQ:Hid (qc[8]?=some (.string q.name)∧qc[14]?=some (.string q.dest)∧qc.size=17):=hid (by rw[←hqc];exact⟨rfl,rfl,rfl⟩)
 have hmk:=@run_makeMap Tryz.prog
 have hB1:=(Below.refl W.heap.size W).alloc (Nat.le_refl _) (.cells qc 29)
 have hB2:=hB1.alloc hB1.size (.map #[] 0)
 have hB3:=hB2.alloc hB2.size (.cells #[.map (some (W.heap.size+1))] 369)
 have hQ1:=Loc.new W qc 29
 have hQ3:=(hQ1.alloc (.map #[] 0)).alloc (.cells #[.map (some (W.heap.size+1))] 369)
 have hZ3:=Loc.new ((W.alloc (.cells qc 29)).alloc (.map #[] 0)) #[.map (some (W.heap.size+1))] 369
 have hM3:=(World.ownsMap_made (H:=Unit) (W.alloc (.cells qc 29)) Tryz.prog 336 unitElem).kept (ar _ (.cells #[.map (some (W.heap.size+1))] 369) none) (by simp)
 have HB3:=hid hB3
 have HQ3:=hid hQ3
 have HZ3:=hid hZ3
 have HM3:=hid hM3
 have H:=hid h
 have HOK:=hid ok
 have HKS:=hid hk
 have HKT:=hid hkt
 have HSS:=hid hss
 have HSC:=hid hsc
 have HQC:=hid hqc
 clear h ok hk hkt hss hsc hB1 hB2 hB3 hQ1 hQ3 hZ3 hM3
 rw[hqc]
 clear hqc
 go_enter Tryz.func259,Tryz.ntmps259
 go_upto_region 2 with fail
 obtain⟨Y,hY⟩:∃Y,Y=W.heap.size:=⟨_,rfl⟩
 have e1:(W.alloc (.cells qc 29)).heap.size=Y+1:=by rw[hY];simp
 have e2:((W.alloc (.cells qc 29)).alloc (.map #[] 0)).heap.size=Y+1+1:=by rw[World.size_alloc,e1]
 have HYW:=hid hY
 rw[e1] at HM3
 rw[e2] at HZ3
 rw[←hY] at HB3 HQ3 HZ3 HM3⊢
 clear hY e1 e2 hmk
 generalize ((W.alloc (.cells qc 29)).alloc (.map #[] 0)).alloc (.cells #[.map (some (Y+1))] 369)=W3 at HB3 HQ3 HZ3 HM3⊢
 rw[HYW.out] at HB3
 have hu0:∀k,k=Y+1→W.heap.size≤k:=by
  intro k hk
  rw[hk,HYW.out]
  omega
 have HU0:=hid hu0
 have HE:Hid (Calls Tryz.prog 130 #[.pointer (some ⟨gb,go,none⟩),.agg qc,.int .i64 budget,.func (.func 293) #[] #[.pointer (some ⟨Y+1+1,0,none⟩),.pointer (some ⟨Y,0,none⟩)]] W3 fun e W'=>e=.returned (.bool (decide (0≤(aR ns es q budget).left)))∧∃ub',sW (Jg q.name q.dest (Y+1)) ub' (aR ns es q budget).rows W'∧Kept (fun k=>k=Y+1) W3 W'∧∀k,ub' k→k=Y+1∨W3.heap.size≤k):=hid (by
  rw[←HQC.out]
  refine EE (wY (CX q.name q.dest (Y+1))) Tryz.DG HOK.out hb ⟨⟨_,HM3.out,fun i _=>rfl,fun k hk=>(by cases hk),fun k=>Iff.rfl⟩,fun f hf=>by cases hf⟩ (nB H.out HB3.out hu0) (fun w hk=>HSS.out.below (jH HB3.out hu0 hk)) (fun w hk=>HSC.out.below (jH HB3.out hu0 hk)) (fun B=>vT (Ek HKS.out HKT.out fun w hk=>?_))
  refine⟨?_,?_,?_⟩
  ·refine Eq.trans ?_ ((HZ3.out.cell 0).trans rfl)
   exact World.cell?_of_block (hk.block (Y+1+1) HZ3.out.lt (fun e=>e ⟨HZ3.out.lt,fun h1=>by omega⟩))
  ·refine Eq.trans ?_ ((HQ3.out.cell 8).trans HQQ.out.1)
   exact World.cell?_of_block (hk.block Y HQ3.out.lt (fun e=>e ⟨HQ3.out.lt,fun h1=>by omega⟩))
  ·refine Eq.trans ?_ ((HQ3.out.cell 14).trans HQQ.out.2.1)
   exact World.cell?_of_block (hk.block Y HQ3.out.lt (fun e=>e ⟨HQ3.out.lt,fun h1=>by omega⟩)))
 obtain⟨hb1,hb2⟩:=hb
 have HQS:Hid ((Tryz.prog.info? 29).map (·.size)=some qc.toList.length):=hid (by rw[Tryz.aX,Array.length_toList,HQQ.out.2.2])
 go_wp2_with (refine wpList_load_mid rfl 29 _ rfl Y 0 rfl qc.toList _ HQ3.out.range Tryz.underlying29 rfl HQS.out ?_;simp only[Array.toArray_toList])
 refine HE.out.mono ?_
 rintro e W5 ⟨rfl,ub',⟨⟨D,ho,hD,hKK,hub⟩,hwf⟩,hk5,hub5⟩
 have HB5:=hid (iz HB3.out HU0.out hk5)
 have hZ5:Loc W5 (Y+1+1) #[.map (some (Y+1))] 369:=(hk5.block (Y+1+1) HZ3.out.lt (fun e=>by omega)).trans HZ3.out
 have cZ:W5.cell? ⟨Y+1+1,0,none⟩=some (.map (some (Y+1))):=(hZ5.cell 0).trans rfl
 have HLL:Hid ((aR ns es q budget).rows.length≤6000):=hid (by
  have h1:=gD ns es q.conds q.ai ⟨#[]⟩ ⟨budget,jN,[]⟩ hb1
  have h2:bH ns es q.conds q.ai ⟨#[]⟩ ⟨budget,jN,[]⟩=aR ns es q budget:=rfl
  rw[h2] at h1
  have h3:=HOK.out.BN
  simp only[List.length_nil] at h1
  omega)
 have HPM:Hid (∀ss,kM D (fun _=>false) ss→ss.Perm (lZ (jQ q.name q.dest (aR ns es q budget).rows))):=hid (fun ss hc=>AT hD hwf HKS.out HKT.out hc)
 have hbk:Below W5.heap.size W5 (W5.alloc (.cells #[.map (some (Y+1))] 369)):=(Below.refl _ W5).alloc (Nat.le_refl _) _
 have HSO:=hid (F4 (b:=W5.heap.size) (w:=W5.alloc (.cells #[.map (some (Y+1))] 369)) (ho.kept (af hbk none) (by simp)) hKK (by simp) ((Loc.new W5 #[.map (some (Y+1))] 369).cell 0) (by have:=HLL.out;omega) (fun ss hc=>by
  rw[(HPM.out ss hc).length_eq]
  have h1:=pC (jQ q.name q.dest (aR ns es q budget).rows)
  have h2:(jQ q.name q.dest (aR ns es q budget).rows).length=(aR ns es q budget).rows.length:=by unfold jQ;rw[List.length_map]
  have:=HLL.out
  omega))
 have HBK:=hid hbk
 clear ho hD hKK hub hwf hk5 hub5 hZ5 hbk HE HM3 HZ3 HQ3 HB3 HU0 hu0
 go_wp2_with fail
 refine(CS (some (Y+1)) W5).mono ?_
 rintro e W6 ⟨rfl,hw⟩
 obtain rfl:=hw.symm
 go_wp2_with fail
 refine HSO.out.mono ?_
 rintro e W7 ⟨v,ss,rfl,hc,hrow,hb7⟩
 have HB7:=hid (HB5.out.trans ((HBK.out.trans (hb7.mono HBK.out.size)).mono HB5.out.size))
 have hp:=HPM.out ss hc
 have hms:iW mV ss=jb q.name q.dest (aR ns es q budget).rows:=by
  unfold jb
  exact mO pM (fun a b h=>yq h) ((fJ _ _).trans hp) (ll pM ss)
 have hln:ss.length=(jb q.name q.dest (aR ns es q budget).rows).length:=by rw[←hms,(fJ _ _).length_eq]
 have HR7:Hid (W7.ownsRow W.heap.size 336 2 v (jb q.name q.dest (aR ns es q budget).rows).length ((jb q.name q.dest (aR ns es q budget).rows).flatMap fP)):=hid (by
  rw[←hln,←hms]
  exact bQ hrow (by have:=HB5.out.size;have:=HBK.out.size;omega))
 clear hp hrow hb7 hms hln cZ hc
 go_wp2_with fail
 go_ret2
 exact⟨⟨v,rfl,HR7.out⟩,HB7.out⟩
end
end Go.Proofs.YtobgbmfpicmpcaaGreatDoor
