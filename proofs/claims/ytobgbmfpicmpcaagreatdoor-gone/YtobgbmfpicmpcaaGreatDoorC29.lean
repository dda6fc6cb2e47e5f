/- Reads: lines; isCount, lineOf. -/
import Derived.Test.YtobgbmfpicmpcaaGreatDoorC21
import Derived.Test.YtobgbmfpicmpcaaGreatDoorC14
import Derived.Lib.ItoaLen
import Derived.Test.YtobgbmfpicmpcaaGreatDoorC28
import Derived.Lib.Hide
set_option maxRecDepth 100000
set_option maxHeartbeats 8000000
namespace Go.Proofs.YtobgbmfpicmpcaaGreatDoor
open Go.Lib (hid)
section
open Go.RowKit Go.Maps
abbrev bK:=List (Option Int)
def lB (l:bK) (i:Nat):Value:=.bool ((l[i]?).getD none).isSome
def lN (l:bK) (i:Nat):Value:=.int .i64 (((l[i]?).getD none).getD 0)
def ee (l:bK):Array Value:=#[lB l 0,lN l 0,lB l 1,lN l 1,lB l 2,lN l 2,lB l 3,lN l 3,lB l 4,lN l 4,lB l 5,lN l 5]
def fo (l:bK):List Value:=[lB l 0,lN l 0,lB l 1,lN l 1,lB l 2,lN l 2,lB l 3,lN l 3,lB l 4,lN l 4,lB l 5,lN l 5]
def fc:bK:=[none,none,none,none,none,none]
theorem AL:ee fc=#[.bool false,.int .i64 0,.bool false,.int .i64 0,.bool false,.int .i64 0,.bool false,.int .i64 0,.bool false,.int .i64 0,.bool false,.int .i64 0]:=rfl
theorem wk {l:bK} (hl:l.length=6) {i:Nat} (hi:i<6) (v:Option Int):((ee l).setIfInBounds (i*2) (.bool v.isSome)).setIfInBounds (i*2+1) (.int .i64 (v.getD 0))=ee (l.set i v):=by
 match l,hl with
 | [a,b,c,d,e,f],_=>
  match i,hi with
  | 0,_=>rfl
  | 1,_=>rfl
  | 2,_=>rfl
  | 3,_=>rfl
  | 4,_=>rfl
  | 5,_=>rfl
theorem gY {l:bK} {i:Nat} (hi:i<6):(ee l)[i*2]?=some (lB l i)∧(ee l)[i*2+1]?=some (lN l i):=by
 match i,hi with
 | 0,_=>exact⟨rfl,rfl⟩
 | 1,_=>exact⟨rfl,rfl⟩
 | 2,_=>exact⟨rfl,rfl⟩
 | 3,_=>exact⟨rfl,rfl⟩
 | 4,_=>exact⟨rfl,rfl⟩
 | 5,_=>exact⟨rfl,rfl⟩
def jl (x:bi):Bool:=x.name.toList.isEmpty
theorem pR (x:bi) (W:World):Calls Tryz.prog 134 #[.agg #[.string x.name,.string x.key]] W fun e W'=>e=.returned (.bool (jl x))∧Below W.heap.size W W':=by
 have HB:=hid ((Below.refl W.heap.size W).alloc (Nat.le_refl _) (.cells #[.string x.name,.string x.key] 89))
 cases he:x.name.toList.isEmpty with
 | true=>
  have HE:=hid he
  go_enter Tryz.func134,Tryz.ntmps134
  go_wp2_with fail
  go_ret
  exact⟨by rw[jl,HE.out];rfl,HB.out⟩
 | false=>
  have HE:=hid he
  go_enter Tryz.func134,Tryz.ntmps134
  go_wp2_with fail
  go_ret
  exact⟨by rw[jl,HE.out];rfl,HB.out⟩
theorem CF (x:bi) (W:World):Calls Tryz.prog 190 #[.agg #[.string x.name,.string x.key]] W fun e W'=>e=.returned (.bool (!(jl x)))∧Below W.heap.size W W':=by
 have HB:=hid ((Below.refl W.heap.size W).alloc (Nat.le_refl _) (.cells #[.string x.name,.string x.key] 89))
 go_enter Tryz.func190,Tryz.ntmps190
 go_wp2_with fail
 refine(pR x _).mono ?_
 rintro e W1 ⟨rfl,hb⟩
 have HB1:=hid (HB.out.trans (hb.mono HB.out.size))
 clear hb
 go_wp2_with fail
 go_ret
 exact⟨rfl,HB1.out⟩
theorem Gm {u:FuncId} {p:bi→Bool} (hcf:∀args w,(callFunc u args).run Tryz.prog w=.ok (.enter u args) w) (hu:∀(x:bi) (W:World),Calls Tryz.prog u #[.agg #[.string x.name,.string x.key]] W fun e W'=>e=.returned (.bool (p x))∧Below W.heap.size W W')
  {W:World} {ao:Option Addr} {cp:Nat} {l:List bi} (hs:bO W 2 (.slice ao l.length cp) l.length (l.flatMap mT)) (hl:l.length≤1000000):
  Calls Tryz.prog 189 #[.slice ao l.length cp,.func (.func u) #[] #[]] W fun e W'=>(∃i:Int,e=.returned (.int .i64 i)∧(l.any p=decide (0≤i))∧-1≤i∧i≤1000000)∧Below W.heap.size W W':=by
 have HS:=hid hs
 have HU:=hid hu
 clear hs hu
 go_enter Tryz.func189,Tryz.ntmps189
 go_wp2_with fail
 go_loopg [8] l.length (fun c iv w=>∃k:Nat,iv=.int .i64 (k:Int)∧k+c=l.length∧(l.take k).any p=false∧Below W.heap.size W w)
 case atStart=>exact⟨0,rfl,by omega,by simp,Below.refl _ _⟩
 case round=>
  obtain⟨k,rfl,hk,hall,hb⟩:=hrel
  have HALL:=hid hall
  have HB:=hid hb
  clear hall hb
  by_cases hlt:k<l.length
  ·obtain⟨g,oo,rfl,hcell⟩:=bY (l:=l) mT (fun _=>rfl) (HS.out.below HB.out) hlt
   obtain⟨y,hy⟩:∃y,l[k]=y:=⟨_,rfl⟩
   have HY:=hid hy
   rw[hy] at hcell
   clear hy
   have p0:wr.cell? ⟨g,oo+k*2,none⟩=some (.string y.name):=hcell 0 (by decide)
   have p1:wr.cell? ⟨g,oo+k*2+1,none⟩=some (.string y.key):=hcell 1 (by decide)
   have hki:(k:Int)<(l.length:Int):=by omega
   clear hcell
   go_wp2_with fail
   refine(HU.out y _).mono ?_
   rintro e W1 ⟨rfl,hb1⟩
   have HB1:=hid (HB.out.trans (hb1.mono HB.out.size))
   clear hb1 p0 p1
   cases hf:p y with
   | true=>
    have HE:Hid (l.any p=true):=hid (List.any_eq_true.2 ⟨y,by rw[←HY.out];exact List.getElem_mem hlt,hf⟩)
    clear hf
    go_wp2_with fail
    go_ret
    exact⟨⟨k,rfl,by rw[HE.out];simp,by omega,by omega⟩,HB1.out⟩
   | false=>
    have HF:=hid hf
    clear hf
    go_wp2_with fail
    go_roundg (gk - 1)
    case rel=>
     refine⟨k+1,by simp,by omega,?_,HB1.out⟩
     rw[List.take_add_one,List.getElem?_eq_getElem hlt,List.any_append,HALL.out,HY.out]
     simp[HF.out]
    case measure=>omega
  ·have hki:¬(k:Int)<(l.length:Int):=by omega
   have HE:Hid (l.any p=false):=hid (by have:=HALL.out;rwa [List.take_of_length_le (by omega)] at this)
   go_wp2_with fail
   go_ret
   exact⟨⟨-1,rfl,by rw[HE.out];simp,by omega,by omega⟩,HB.out⟩
theorem xB {u:FuncId} {p:bi→Bool} (hcf:∀args w,(callFunc u args).run Tryz.prog w=.ok (.enter u args) w) (hu:∀(x:bi) (W:World),Calls Tryz.prog u #[.agg #[.string x.name,.string x.key]] W fun e W'=>e=.returned (.bool (p x))∧Below W.heap.size W W')
  {W:World} {ao:Option Addr} {cp:Nat} {l:List bi} (hs:bO W 2 (.slice ao l.length cp) l.length (l.flatMap mT)) (hl:l.length≤1000000):
  Calls Tryz.prog 133 #[.slice ao l.length cp,.func (.func u) #[] #[]] W fun e W'=>e=.returned (.bool (l.any p))∧Below W.heap.size W W':=by
 have HX:=hid (Gm hcf hu hs hl)
 clear hs hu
 go_enter Tryz.func133,Tryz.ntmps133
 go_wp2_with fail
 refine HX.out.mono ?_
 rintro e W1 ⟨⟨i,rfl,hi,h1,h2⟩,hb⟩
 have HI:=hid hi
 have HB:=hid hb
 clear hi hb
 go_wp2_with fail
 all_goals
  go_ret
  exact⟨by rw[HI.out];(try simp);(try omega),HB.out⟩
theorem Tryz.hQ:(Tryz.prog.info? 210).map (·.size)=some 12:=by kernel_rfl
theorem rD (l:bK):(ee l).all (·.oneCell')=true:=by simp[ee,lB,lN,Value.oneCell']
theorem IP {fn:Func} {tmps:Array Value} {w:World} {X c:Nat} {cs:Array Value} (hr:fn.results=#[.cell c 210]) (hc:tmps[c]?.getD undef=.pointer (some ⟨X,0,none⟩)) (hL:Loc w X cs 210) (hs:cs.size=12):
  (results fn tmps).run Tryz.prog w=.ok (.agg cs) w:=by
 have hl:=run_loadVar_mid (P:=Tryz.prog) w X 0 210 cs.toList _ hL.range Tryz.underlying210 rfl (by rw[Tryz.hQ];simp[hs])
 unfold results
 rw[hr]
 simp[hc,hl,asAddr]
def gW (ns:List aq) (f:ByteArray→Option Int) (x:bi):Option Int:=if jl x then none else if x.key.toList.isEmpty then some ((f x.name).getD 0) else valueOf ns ((f x.name).getD 0) x.key
def fi (ns:List aq) (items:List bi) (f:ByteArray→Option Int):bK:=(List.range 6).map fun i=>(items[i]?).elim none (gW ns f)
def dF (ns:List aq) (items:List bi) (f:ByteArray→Option Int) (k:Nat):bK:=(List.range 6).map fun i=>if i<k then (items[i]?).elim none (gW ns f) else none
theorem pw (ns:List aq) (items:List bi) (f:ByteArray→Option Int) (k:Nat):(dF ns items f k).length=6:=by simp[dF]
theorem wC (ns:List aq) (items:List bi) (f:ByteArray→Option Int):dF ns items f items.length=fi ns items f:=by
 unfold dF fi
 congr 1
 funext i
 split
 ·rfl
 ·rw[List.getElem?_eq_none (by omega)];rfl
theorem oC (ns:List aq) (items:List bi) (f:ByteArray→Option Int) {k:Nat} (hk:k<items.length):dF ns items f (k+1)=(dF ns items f k).set k (gW ns f items[k]):=by
 refine List.ext_getElem (by simp[dF]) fun i h1 h2=>?_
 rw[List.getElem_set]
 simp only[dF,List.getElem_map,List.getElem_range]
 by_cases e:k=i
 ·subst e
  rw[if_pos (by omega),if_pos rfl,List.getElem?_eq_getElem hk]
  rfl
 ·rw[if_neg e]
  by_cases e2:i<k
  ·rw[if_pos (by omega),if_pos e2]
  ·rw[if_neg (by omega),if_neg e2]
theorem uy (ns:List aq) (items:List bi) (f:ByteArray→Option Int) {k:Nat} (hk:k<items.length) (h0:gW ns f items[k]=none):dF ns items f (k+1)=dF ns items f k:=by
 rw[oC ns items f hk,h0]
 refine List.ext_getElem (by simp) fun i h1 h2=>?_
 rw[List.getElem_set]
 split
 ·rename_i e
  subst e
  simp[dF]
 ·rfl
theorem It {W:World} {gb go m B mb:Nat} {ns:List aq} {es:List aJ} {f:ByteArray→Option Int} {ao:Option Addr} {cp:Nat} {l:List bi} (hg:et gb go ns es m W) (hb:bF W B mb f) (hs:bO W 2 (.slice ao l.length cp) l.length (l.flatMap mT)) (hl:l.length≤6) (hok:∀x∈l,x.name.size≤maxLen∧x.key.size≤maxLen):
  Calls Tryz.prog 132 #[.pointer (some ⟨gb,go,none⟩),.slice ao l.length cp,.map (some B)] W fun e W'=>e=.returned (.agg (ee (fi ns l f)))∧Below W.heap.size W W':=by
 have hb1:=(Below.refl W.heap.size W).alloc (Nat.le_refl _) (.cells (ee fc) 210)
 have hb2:=hb1.alloc hb1.size (.cells (ee fc) 210)
 have HB2:=hid hb2
 have HR2:=hid ((Loc.new W (ee fc) 210).alloc (.cells (ee fc) 210))
 have HL2:=hid (Loc.new (W.alloc (.cells (ee fc) 210)) (ee fc) 210)
 have HG:=hid hg
 have HP:=hid hb
 have HS:=hid hs
 have HOK:=hid hok
 clear hb1 hb2 hg hb hs hok
 rw[AL] at HB2 HR2 HL2
 go_enter Tryz.func132,Tryz.ntmps132
 go_upto_region 2 with fail
 rw[World.size_alloc] at HL2
 obtain⟨R,hR⟩:∃R,R=W.heap.size:=⟨_,rfl⟩
 obtain⟨L,hL⟩:∃L,L=W.heap.size+1:=⟨_,rfl⟩
 have HRL:Hid (R≠L∧W.heap.size≤R∧W.heap.size≤L):=hid (by omega)
 rw[←hL] at HL2⊢
 rw[←hR] at HR2⊢
 clear hR hL
 rw[←AL] at HB2 HR2 HL2⊢
 generalize (W.alloc (.cells (ee fc) 210)).alloc (.cells (ee fc) 210)=W2 at HB2 HR2 HL2⊢
 go_wp2_with fail
 go_loopg [12] l.length (fun c iv w=>∃k:Nat,iv=.int .i64 (k:Int)∧k+c=l.length∧Below W.heap.size W w∧Loc w R (ee fc) 210∧Loc w L (ee (dF ns l f k)) 210)
 case atStart=>exact⟨0,rfl,by omega,HB2.out,HR2.out,HL2.out⟩
 case round=>
  obtain⟨k,rfl,hk,hb,hr,hll⟩:=hrel
  have HB:=hid hb
  have HR:=hid hr
  have HLL:=hid hll
  clear hb hr hll HB2 HR2 HL2
  by_cases hlt:k<l.length
  ·have hki:(k:Int)<(l.length:Int):=by omega
   have hk6:(k:Int)<6:=by omega
   obtain⟨g,oo,rfl,hcell⟩:=bY (l:=l) mT (fun _=>rfl) (HS.out.below HB.out) hlt
   obtain⟨y,hy⟩:∃y,l[k]=y:=⟨_,rfl⟩
   have HYO:=hid (HOK.out y (by rw[←hy];exact List.getElem_mem hlt))
   have HNX:=hid (oC ns l f hlt)
   have HNN:=hid (uy ns l f hlt)
   rw[hy] at hcell HNX HNN
   clear hy
   have p0:wr.cell? ⟨g,oo+k*2,none⟩=some (.string y.name):=hcell 0 (by decide)
   have p1:wr.cell? ⟨g,oo+k*2+1,none⟩=some (.string y.key):=hcell 1 (by decide)
   have HB3:=hid (HB.out.alloc HB.out.size (.cells #[.string y.name,.string y.key] 89))
   have HR3:=hid (HR.out.alloc (.cells #[.string y.name,.string y.key] 89))
   have HL3:=hid (HLL.out.alloc (.cells #[.string y.name,.string y.key] 89))
   have HZ3:=hid (Loc.new wr #[.string y.name,.string y.key] 89)
   clear hcell HB HR HLL
   go_upto_region 6 with fail
   obtain⟨Z,hZ⟩:∃Z,Z=wr.heap.size:=⟨_,rfl⟩
   rw[←hZ] at HZ3⊢
   clear hZ p0 p1
   generalize wr.alloc (.cells #[.string y.name,.string y.key] 89)=W3 at HB3 HR3 HL3 HZ3⊢
   have z0:=HZ3.out.at_ 0 (.string y.name) rfl
   have z1:=HZ3.out.at_ 1 (.string y.key) rfl
   go_wp2_with fail
   refine(pR y _).mono ?_
   rintro e W4 ⟨rfl,hb4⟩
   have HB4:=hid (HB3.out.trans (hb4.mono HB3.out.size))
   have HR4:=hid (HR3.out.grown (af hb4 none) (by simp))
   have HL4:=hid (HL3.out.grown (af hb4 none) (by simp))
   have HZ4:=hid (HZ3.out.grown (af hb4 none) (by simp))
   clear hb4 z0 z1 HB3 HR3 HL3 HZ3
   cases hcn:jl y with
   | true=>
    have HE:Hid (dF ns l f (k+1)=dF ns l f k):=hid (HNN.out (by unfold gW;rw[hcn];rfl))
    clear hcn
    go_wp2_with fail
    go_roundg (gk - 1)
    case rel=>exact⟨k+1,by simp,by omega,HB4.out,HR4.out,by rw[HE.out];exact HL4.out⟩
    case measure=>omega
   | false=>
    have HCN:=hid hcn
    clear hcn
    have z0:=HZ4.out.at_ 0 (.string y.name) rfl
    have z1:=HZ4.out.at_ 1 (.string y.key) rfl
    have hlk:=(HP.out.kept (af HB4.out none) (by simp)).look HYO.out.1
    cases hke:y.key.toList.isEmpty with
    | true=>
     have HIT:Hid (gW ns f y=some ((f y.name).getD 0)):=hid (by unfold gW;rw[HCN.out,hke];rfl)
     go_wp2_with fail
     refine(vS _ _).mono ?_
     rintro e W5 ⟨rfl,hb5⟩
     have HB5:=hid (HB4.out.trans (hb5.mono HB4.out.size))
     have HR5:=hid (HR4.out.grown (af hb5 none) (by simp))
     have HL5:=hid (HL4.out.grown (af hb5 none) (by simp))
     clear hb5 z0 z1 hlk hke HB4 HR4 HL4 HZ4
     obtain⟨v,hv⟩:∃v,(f y.name).getD 0=v:=⟨_,rfl⟩
     rw[hv] at HIT⊢
     clear hv
     have q0:W5.cell? ⟨L,k*2,none⟩=some (lB (dF ns l f k) k):=(HL5.out.cell (k*2)).trans (gY (by omega)).1
     have q1:W5.cell? ⟨L,k*2+1,none⟩=some (lN (dF ns l f k) k):=(HL5.out.cell (k*2+1)).trans (gY (by omega)).2
     have f0:=HL5.out.free (k*2)
     have f1:=HL5.out.free (k*2+1)
     have HLS:=hid ((HL5.out.set (k*2) (.bool true)).set (k*2+1) (.int .i64 v))
     unfold dm
     go_wp2_with fail
     go_roundg (gk - 1)
     case rel=>
      refine⟨k+1,by simp,by omega,(HB5.out.setCell (p:=⟨L,k*2,none⟩) HRL.out.2.2 _).setCell (p:=⟨L,k*2+1,none⟩) HRL.out.2.2 _,(HR5.out.setOther (b':=L) HRL.out.1 _ _).setOther (b':=L) HRL.out.1 _ _,?_⟩
      have e:=wk (pw ns l f k) (show k<6 by omega) (some v)
      rw[HNX.out,HIT.out,←e]
      exact HLS.out
     case measure=>omega
    | false=>
     have HIT:Hid (gW ns f y=valueOf ns ((f y.name).getD 0) y.key):=hid (by unfold gW;rw[HCN.out,hke];rfl)
     have HVV:=hid (Gl (n:=(f y.name).getD 0) (k:=y.key) (HG.out.below HB4.out) HYO.out.2)
     go_wp2_with fail
     refine HVV.out.mono ?_
     rintro e W5 ⟨rfl,hb5⟩
     have HB5:=hid (HB4.out.trans (hb5.mono HB4.out.size))
     have HR5:=hid (HR4.out.grown (af hb5 none) (by simp))
     have HL5:=hid (HL4.out.grown (af hb5 none) (by simp))
     clear hb5 z0 z1 hlk hke HB4 HR4 HL4 HZ4 HVV
     obtain⟨v,hv⟩:∃v,valueOf ns ((f y.name).getD 0) y.key=v:=⟨_,rfl⟩
     rw[hv] at HIT⊢
     clear hv
     have q0:W5.cell? ⟨L,k*2,none⟩=some (lB (dF ns l f k) k):=(HL5.out.cell (k*2)).trans (gY (by omega)).1
     have q1:W5.cell? ⟨L,k*2+1,none⟩=some (lN (dF ns l f k) k):=(HL5.out.cell (k*2+1)).trans (gY (by omega)).2
     have f0:=HL5.out.free (k*2)
     have f1:=HL5.out.free (k*2+1)
     have HLS:=hid ((HL5.out.set (k*2) (.bool v.isSome)).set (k*2+1) (.int .i64 (v.getD 0)))
     rw[gM]
     go_wp2_with fail
     go_roundg (gk - 1)
     case rel=>
      refine⟨k+1,by simp,by omega,(HB5.out.setCell (p:=⟨L,k*2,none⟩) HRL.out.2.2 _).setCell (p:=⟨L,k*2+1,none⟩) HRL.out.2.2 _,(HR5.out.setOther (b':=L) HRL.out.1 _ _).setOther (b':=L) HRL.out.1 _ _,?_⟩
      have e:=wk (pw ns l f k) (show k<6 by omega) v
      rw[HNX.out,HIT.out,←e]
      exact HLS.out
     case measure=>omega
  ·have hki:¬(k:Int)<(l.length:Int):=by omega
   obtain rfl:k=l.length:=by omega
   have HE:=hid (wC ns l f)
   rw[HE.out] at HLL
   go_upto_region 10 with fail
   refine wp_region_lit ?_
   refine wpList_load_mid rfl 210 _ rfl L 0 rfl (ee (fi ns l f)).toList _ HLL.out.range Tryz.underlying210 rfl (by rw[Tryz.hQ];rfl) ?_
   refine wpList_store_mid rfl 210 _ _ rfl R 0 (ee (fi ns l f)) rfl rfl HR.out.there Tryz.hQ (rD _) ?_
   have HRR:=hid (HR.out.dh (new:=ee (fi ns l f)) rfl)
   have HBR:=hid (HB.out.grown (aS R (ee (fi ns l f)).toList 0 wr) HB.out.size (fun j hj=>by injection hj with hj;rw[←hj];exact HRL.out.2.1))
   generalize wr.setCells R 0 (ee (fi ns l f)).toList=W9 at HRR HBR⊢
   go_wp2_with fail
   refine bodyPost_ret (IP rfl rfl HRR.out rfl) rfl ⟨rfl,HBR.out⟩
end
section
open Go.RowKit Go.Maps Go.Sort
def cmpL:bK→bK→Int
 | a::r,b::s=>if fT a b=0 then cmpL r s else fT a b
 | _,_=>0
def gV (l:bK) (i:Nat):Option Int:=(l[i]?).getD none
def kH (order:Int) (down:Bool) (a b:bK):Int:=
 if 0<order then
  let o:=if down then -(fT (gV a (order - 1).toNat) (gV b (order - 1).toNat)) else fT (gV a (order - 1).toNat) (gV b (order - 1).toNat)
  if o=0 then cmpL a b else o
 else cmpL a b
theorem sH (a b:Option Int):-1≤fT a b∧fT a b≤1:=by
 cases a<;>cases b<;>simp[fT]
 unfold Lib.compareInt
 split
 ·simp
 ·split<;>simp
theorem qa {a b:bK} (la:a.length=6) (lb:b.length=6) {k:Nat} (hk:k<6):cmpL (a.drop k) (b.drop k)=if fT (gV a k) (gV b k)=0 then cmpL (a.drop (k+1)) (b.drop (k+1)) else fT (gV a k) (gV b k):=by
 rw[List.drop_eq_getElem_cons (show k<a.length by omega),List.drop_eq_getElem_cons (show k<b.length by omega)]
 simp only[cmpL]
 unfold gV
 rw[List.getElem?_eq_getElem (show k<a.length by omega),List.getElem?_eq_getElem (show k<b.length by omega)]
 rfl
end
section
open Go.RowKit Go.Maps
def my:Option Int→ByteArray
 | none=>⟨#[45]⟩
 | some n=>dB n
def KP (v:Option Int):Prop:=∀n,v=some n→ux n
theorem AK {v:Option Int} (h:KP v):(my v).data.toList.length≤21:=by
 cases v with
 | none=>simp[my]
 | some n=>
  have hn:=h n rfl
  have:=Lib.itoa_length_le n hn.1 hn.2
  simpa [my,dB] using this
theorem KI {W:World} {v:Option Int} (hv:KP v) (ht:BG W):Calls Tryz.prog 195 #[.agg #[.bool v.isSome,.int .i64 (v.getD 0)]] W fun e W'=>e=.returned (.string (my v))∧Below W.heap.size W W':=by
 have HB:=hid ((Below.refl W.heap.size W).alloc (Nat.le_refl _) (.cells #[.bool v.isSome,.int .i64 (v.getD 0)] 208))
 cases v with
 | none=>
  simp only[Option.isSome_none,Option.getD_none] at HB⊢
  go_enter Tryz.func195,Tryz.ntmps195
  go_wp2_with fail
  go_ret
  exact⟨rfl,HB.out⟩
 | some n=>
  simp only[Option.isSome_some,Option.getD_some] at HB⊢
  have HI:=hid (FP (hv n rfl) (ht.below HB.out))
  clear hv ht
  go_enter Tryz.func195,Tryz.ntmps195
  go_wp2_with fail
  refine HI.out.mono ?_
  rintro e W1 ⟨rfl,hb⟩
  have HB1:=hid (HB.out.trans (hb.mono HB.out.size))
  clear hb
  go_wp2_with fail
  go_ret
  exact⟨rfl,HB1.out⟩
theorem Eh:∀(xs:List (List UInt8)),(∀x∈xs,x.length≤21)→(Lib.join xs [124]).length≤22*xs.length
 | [],_=>by simp[Lib.join_nil]
 | x::r,h=>by
  have hl:∀(l:List (List UInt8)),(∀x∈l,x.length≤21)→Lib.lens l≤21*l.length:=by
   intro l
   induction l with
   | nil=>intro _;simp[Lib.lens]
   | cons y l ih=>
    intro h
    have h1:=h y List.mem_cons_self
    have h2:=ih (fun x hx=>h x (List.mem_cons_of_mem _ hx))
    simp only[Lib.lens,List.map_cons,List.sum_cons,List.length_cons] at h2⊢
    omega
  rw[Lib.join_length]
  have:=hl _ h
  simp only[List.length_cons,List.length_nil] at this⊢
  omega
def gB (n:Nat) (l:bK):ByteArray:=⟨(Lib.join (((l.take n).map my).map (·.data.toList)) [124]).toArray⟩
def sj (l:bK):Prop:=l.length=6∧∀v∈l,KP v
theorem JM {W:World} {ao:Option Addr} {cp n:Nat} {ls:List bK} (hs:bO W 12 (.slice ao ls.length cp) ls.length (ls.flatMap fo)) (hl:ls.length≤1000000) (hok:∀l∈ls,sj l) (hn:1≤n∧n≤6) (ht:BG W):
  Calls Tryz.prog 139 #[.slice ao ls.length cp,.int .i64 (n:Int)] W fun e W'=>(∃v,e=.returned v∧W'.ownsRow W.heap.size 9 1 v ls.length (strs (ls.map (gB n))))∧Below W.heap.size W W':=by
 obtain⟨i1,hj,hy0,hy1,hy2⟩:=info_parts Tryz.tN
 have HS:=hid hs
 have HOK:=hid hok
 have HT:=hid ht
 have hn1:=hn.1
 have hn2:=hn.2
 clear hs hok ht hn
 go_enter Tryz.func139,Tryz.ntmps139
 go_upto_region 2 with (first|(at_make;refine wpList_make_own _ rfl _ _ 56 rfl W.heap.size 9 i1 (.string ⟨#[]⟩) 1 Tryz.underlying56 hj hy0 hy1 _ _ _ ls.length rfl rfl rfl (by rw[hy2];omega) (by unfold maxLen;omega) (Nat.le_refl _) ?_;intro w1 hown hgrow;have HO1:=hid hown;have HG1:=hid hgrow;clear hown hgrow)|go_in)
 have HB1:Hid (Below W.heap.size W w1):=hid ⟨HG1.out.os,HG1.out.tape,HG1.out.output,HG1.out.size,fun k hk=>HG1.out.block k hk (by simp)⟩
 clear HG1
 go_wp2_with fail
 go_loopg [5,16] ls.length (fun c lv iv w=>∃k:Nat,iv=.int .i64 (k:Int)∧k+c=ls.length∧w.ownsRow W.heap.size 9 1 lv k (strs ((ls.take k).map (gB n)))∧Below W.heap.size W w)
 case atStart=>exact⟨0,rfl,by omega,HO1.out,HB1.out⟩
 case round=>
  obtain⟨k,rfl,hk,ho,hb⟩:=hrel
  have HO:=hid ho
  have HB:=hid hb
  clear ho hb HO1 HB1
  by_cases hlt:k<ls.length
  ·have hki:(k:Int)<(ls.length:Int):=by omega
   obtain⟨g,oo,rfl,hcell⟩:=bY (l:=ls) fo (fun _=>rfl) (HS.out.below HB.out) hlt
   obtain⟨y,hy⟩:∃y,ls[k]=y:=⟨_,rfl⟩
   have HYO:=hid (HOK.out y (by rw[←hy];exact List.getElem_mem hlt))
   have HTK:Hid (ls.take (k+1)=ls.take k++[y]):=hid (by rw[List.take_add_one,List.getElem?_eq_getElem hlt,hy];rfl)
   rw[hy] at hcell
   clear hy
   have HRG:Hid (wr.rangeAt g (oo+k*12) (ee y).toList):=hid (fun j v hv=>by
    have hj:j<12:=by
     rcases Nat.lt_or_ge j 12 with h|h
     ·exact h
     ·rw[List.getElem?_eq_none (by simpa [ee] using h)] at hv;cases hv
    have:=hcell j hj
    rw[this]
    exact hv)
   clear hcell
   have HN0:=hid (Loc.new wr (ee fc) 210)
   rw[AL] at HN0
   go_upto_region 5 with (first|(refine wpList_load_mid rfl 210 _ rfl g (oo+k*12) rfl (ee y).toList _ HRG.out Tryz.underlying210 rfl (by rw[Tryz.hQ];rfl) ?_;simp only[Array.toArray_toList])|(refine wpList_store_mid rfl 210 _ _ rfl wr.heap.size 0 (ee y) rfl rfl HN0.out.there Tryz.hQ (rD _) ?_))
   have HY:=hid (HN0.out.dh (new:=ee y) rfl)
   have HB2:=hid (((HB.out.alloc HB.out.size (.cells #[.bool false,.int .i64 0,.bool false,.int .i64 0,.bool false,.int .i64 0,.bool false,.int .i64 0,.bool false,.int .i64 0,.bool false,.int .i64 0] 210)).grown (aS wr.heap.size (ee y).toList 0 _) (by simp;have:=HB.out.size;omega) (fun j hj=>by injection hj with hj;rw[←hj];exact HB.out.size)))
   have HO2:=hid ((HO.out.alloc (.cells #[.bool false,.int .i64 0,.bool false,.int .i64 0,.bool false,.int .i64 0,.bool false,.int .i64 0,.bool false,.int .i64 0,.bool false,.int .i64 0] 210)).kept (aS wr.heap.size (ee y).toList 0 _) (Or.inr (fun e=>by have:=(HO.out.lt _ e).2;omega)))
   obtain⟨Y,hY⟩:∃Y,Y=wr.heap.size:=⟨_,rfl⟩
   have HYN:Hid (W.heap.size≤Y):=hid (by rw[hY];exact HB.out.size)
   rw[←hY] at HY HB2 HO2⊢
   clear hY HN0 HRG HO HB
   generalize (wr.alloc (.cells #[.bool false,.int .i64 0,.bool false,.int .i64 0,.bool false,.int .i64 0,.bool false,.int .i64 0,.bool false,.int .i64 0,.bool false,.int .i64 0] 210)).setCells Y 0 (ee y).toList=W2 at HY HB2 HO2⊢
   have hni:(n:Int)≤6:=by omega
   go_upto_region 7 with fail
   obtain⟨gO,hgO⟩:∃gO,gO=gk:=⟨_,rfl⟩
   subst hgO
   go_loopg [8,23] n (fun c vv jv w=>∃j:Nat,jv=.int .i64 (j:Int)∧j+c=n∧w.ownsRow W2.heap.size 9 1 vv j (strs ((y.take j).map my))∧Below W2.heap.size W2 w)
   case atStart=>exact⟨0,rfl,by omega,World.ownsRow_nil _ _ _ _,Below.refl _ _⟩
   case round=>
    obtain⟨j,rfl,hjk,ho,hb⟩:=hrel
    have HVO:=hid ho
    have HVB:=hid hb
    have HLY:=hid HYO.out.1
    clear ho hb
    by_cases hjl:j<n
    ·have hji:(j:Int)<(n:Int):=by omega
     have hyw:=HY.out.grown (af HVB.out none) (by simp)
     obtain⟨x,hx⟩:∃x,gV y j=x:=⟨_,rfl⟩
     have hxm:y[j]?=some x:=by
      rw[←hx]
      unfold gV
      rw[List.getElem?_eq_getElem (by have:=HLY.out;omega)]
      rfl
     have HXO:=hid (HYO.out.2 x (List.mem_of_getElem? hxm))
     have HTJ:Hid (y.take (j+1)=y.take j++[x]):=hid (by rw[List.take_add_one,hxm];rfl)
     have x0:wr.cell? ⟨Y,j*2,none⟩=some (.bool x.isSome):=(hyw.cell (j*2)).trans ((gY (by omega)).1.trans (by rw[←hx];rfl))
     have x1:wr.cell? ⟨Y,j*2+1,none⟩=some (.int .i64 (x.getD 0)):=(hyw.cell (j*2+1)).trans ((gY (by omega)).2.trans (by rw[←hx];rfl))
     have HB3:=hid (HVB.out.alloc HVB.out.size (.cells #[.bool x.isSome,.int .i64 (x.getD 0)] 208))
     have HO3:=hid (HVO.out.alloc (.cells #[.bool x.isSome,.int .i64 (x.getD 0)] 208))
     have HTX:=hid (KI HXO.out (HT.out.below (HB2.out.trans (HB3.out.mono HB2.out.size))))
     clear hyw hx hxm HVB HVO
     go_wp2_with fail
     refine HTX.out.mono ?_
     rintro e W4 ⟨rfl,hb4⟩
     have HB4:=hid (HB3.out.trans (hb4.mono HB3.out.size))
     have HO4:=hid (HO3.out.kept (af hb4 none) (by cases (Value.ownBlock _)<;>simp))
     clear hb4 x0 x1 HB3 HO3 HTX
     go_wp2_with (at_builtin;go_must (refine wpList_append_own _ rfl _ _ 56 rfl W2.heap.size 9 i1 (.string ⟨#[]⟩) 1 16 Tryz.underlying56 hj hy0 hy1 hy2 rfl (by decide) _ _ _ rfl (HO4.out.alloc _) ⟨W4.heap.size,0,none⟩ 1 1 [.string (my x)] rfl rfl (World.news_of_block (heap_alloc_new W4 _)) (by simp[Value.oneCell']) (by unfold maxLen;omega) (by omega) (by have:=HB4.out.size;simp;omega) ?_);intro v' w5 hown' hgrow _;have HO5:=hid hown';have HG5:=hid hgrow;clear hown' hgrow)
     go_roundg (gk - 1)
     case rel=>
      refine⟨j+1,by simp,by omega,?_,?_⟩
      ·rw[HTJ.out,List.map_append]
       simpa [strs] using HO5.out
      ·exact(HB4.out.alloc HB4.out.size _).grown HG5.out (by have:=HB4.out.size;simp;omega) (fun b hb=>((HO4.out.alloc (.cells #[.string (my x)] 9)).lt b hb).1)
     case measure=>omega
    ·have hji:¬(j:Int)<(n:Int):=by omega
     obtain rfl:j=n:=by omega
     obtain⟨ts,hts⟩:∃ts,(y.take j).map my=ts:=⟨_,rfl⟩
     have htl:ts.length=j:=by rw[←hts];simp;have:=HLY.out;omega
     have hsm:(Lib.join (ts.map (·.data.toList)) [124]).length≤140737488355328:=by
      rw[←hts]
      refine Nat.le_trans (Eh _ (fun x hx=>?_)) (by simp;omega)
      obtain⟨b,hb,rfl⟩:=List.mem_map.1 hx
      obtain⟨v,hv,rfl⟩:=List.mem_map.1 hb
      exact AK (HYO.out.2 v (List.mem_of_mem_take hv))
     have HLT:Hid (gB j y=⟨(Lib.join (ts.map (·.data.toList)) [124]).toArray⟩):=hid (by unfold gB;rw[hts])
     rw[hts] at HVO
     have hrow:=HVO.out
     rcases hrow.2 with ⟨_,h0⟩|⟨gw,cw,cur,hv,hbw,hgw,hnw,_⟩
     ·exact absurd h0 (by omega)
     have HJ:Hid (Calls Tryz.prog 54 #[u8,.string ⟨#[124]⟩] wr fun e w'=>e=.returned (.string ⟨(Lib.join (ts.map (·.data.toList)) [124]).toArray⟩)∧Below wr.heap.size wr w'):=by
      show Calls _ _ _ _ _
      rw[hv,←htl]
      refine Tryz.strings_Join gw 0 cw ts ⟨#[124]⟩ wr (fun i x hx=>?_) (lt_of_block hgw) (by omega) (by omega) hsm
      have hj2:(strs ts)[i]?=some (.string x):=by unfold strs;rw[List.getElem?_map,hx];rfl
      have hjl2:i<ts.length:=by
       by_cases h:i<ts.length
       ·exact h
       ·rw[List.getElem?_eq_none (by omega)] at hx;cases hx
      rw[Nat.zero_add,←hj2]
      rw[hv] at hrow
      exact hrow.cellAt i (by omega)
     have HBW:=hid (HB2.out.trans (HVB.out.mono HB2.out.size))
     have HOW:=hid (HO2.out.kept (af HVB.out none) (by cases (Value.ownBlock _)<;>simp))
     clear hrow hv hbw hgw hnw hsm
     go_wp2_with fail
     refine HJ.out.mono ?_
     rintro e W6 ⟨rfl,hb6⟩
     have HB6:=hid (HBW.out.trans (hb6.mono HBW.out.size))
     have HO6:=hid (HOW.out.kept (af hb6 none) (by cases (Value.ownBlock _)<;>simp))
     rw[←HLT.out]
     clear hb6 HJ HBW HOW HB2 HO2 HVB HVO
     go_wp2_with (at_builtin;go_must (refine wpList_append_own _ rfl _ _ 56 rfl W.heap.size 9 i1 (.string ⟨#[]⟩) 1 16 Tryz.underlying56 hj hy0 hy1 hy2 rfl (by decide) _ _ _ rfl (HO6.out.alloc _) ⟨W6.heap.size,0,none⟩ 1 1 [.string (gB j y)] rfl rfl (World.news_of_block (heap_alloc_new W6 _)) (by simp[Value.oneCell']) (by unfold maxLen;omega) (by omega) (by have:=HB6.out.size;simp;omega) ?_);intro v' w7 hown' hgrow _;have HO7:=hid hown';have HG7:=hid hgrow;clear hown' hgrow)
     go_roundg (gO - 1)
     case rel=>
      refine⟨k+1,by simp,by omega,?_,?_⟩
      ·rw[HTK.out,List.map_append]
       simpa [strs] using HO7.out
      ·exact(HB6.out.alloc HB6.out.size _).grown HG7.out (by have:=HB6.out.size;simp;omega) (fun b hb=>((HO6.out.alloc (.cells #[.string (gB j y)] 9)).lt b hb).1)
     case measure=>omega
  ·have hki:¬(k:Int)<(ls.length:Int):=by omega
   obtain rfl:k=ls.length:=by omega
   go_wp2_with fail
   go_ret
   exact⟨⟨_,rfl,by have:=HO.out;rwa [List.take_of_length_le (Nat.le_refl _)] at this⟩,HB.out⟩
end
section
open Go.RowKit Go.Maps Go.Sort
theorem Ay {P:Program} (w:World) {ops:Array Oper} {o:Oper} {a:Act} {K:Act→World→Prop} {Q:Exit→Act→World→Prop} {E:Prop} (hgd:o.guard=none) (f:FuncId) (x y z:Operand) (ts:Array TypeId)
  (hcf:∀args w',(callFunc f args).run P w'=.ok (.enter f args) w')
  (ho:o.op=.call {callee:=.value (.func f),args:=#[x,y,z],argTypes:=ts}) (v1 v2 v3 r:Value) (hx:a.eval x=v1) (hy:a.eval y=v2) (hz:a.eval z=v3)
  (hc:Calls P f #[v1,v2,v3] w fun e w'=>e=.returned r∧Below w.heap.size w w') (h:∀w',Below w.heap.size w w'→K (a.put o.dst r) w'):
  if Region.wanted o (yielded ops a.tmps)=true then Oper.wp P o a w K Q else E:=by
 have hw:Region.wanted o (yielded ops a.tmps)=true:=by simp[Region.wanted,hgd]
 rw[if_pos hw]
 unfold Oper.wp execOp
 simp only[ho]
 have e:a.eval (Operand.func f)=.func (.func f) #[] #[]:=rfl
 simp[resolve,invoke,hx,hy,hz,e,Deferred.ofValue,hcf]
 rw[Oper.upon_enter]
 refine hc.mono ?_
 rintro e w' ⟨rfl,hb⟩
 exact h w' hb
theorem Tryz.GA (args:Array Value) (w:World):(callFunc 132 args).run Tryz.prog w=.ok (.enter 132 args) w:=by go_simp
theorem Tryz.FA (args:Array Value) (w:World):(callFunc 131 args).run Tryz.prog w=.ok (.enter 131 args) w:=by go_simp
theorem Tryz.yG:(Tryz.prog.info? 210).map (fun i=>(i.zero,i.size,i.bytes))=some (some (.agg (ee fc)),12,96):=by kernel_rfl
theorem rZ (l:bK):∀u∈fo l,u.oneCell'=true:=by
 intro u hu
 simp[fo] at hu
 rcases hu with rfl|rfl|rfl|rfl|rfl|rfl|rfl|rfl|rfl|rfl|rfl|rfl<;>rfl
def J0 (ns:List aq) (items:List bi) (L:Nat) (ub:Nat→Prop) (rows:List Row) (W:World):Prop:=
 ∃v,Loc W L #[v] 205∧W.ownsRow 0 210 12 v rows.length (rows.flatMap fun f=>fo (fi ns items f))∧∀k,ub k↔(k=L∨v.ownBlock=some k)
theorem Dq (ns:List aq) (items:List bi) (L:Nat):oX (J0 ns items L):=by
 refine⟨fun ub rows W w ⟨v,hl,hr,hu⟩ _ he=>⟨v,(he L ((hu L).2 (Or.inl rfl))).trans hl,tR hr (fun g hg=>he g ((hu g).2 (Or.inr hg))),hu⟩,fun ub rows W ⟨v,hl,hr,hu⟩ k hk=>?_⟩
 rcases (hu k).1 hk with rfl|h
 ·exact hl.lt
 ·exact(hr.lt k h).2
theorem Gh {gb go m G Q cp B L:Nat} {ns:List aq} {es:List aJ} {ao:Option Addr} {items:List bi} {Fx:Nat→Prop} {W0:World} (hl:items.length≤6) (hok:∀x∈items,x.name.size≤maxLen∧x.key.size≤maxLen)
  (hst:∀w,Kept (fun k=>¬Fx k) W0 w→et gb go ns es m w∧w.cell? ⟨G,0,none⟩=some (.pointer (some ⟨gb,go,none⟩))∧w.cell? ⟨Q,3,none⟩=some (.slice ao items.length cp)∧bO w 2 (.slice ao items.length cp) items.length (items.flatMap mT)):
  yW (J0 ns items L) Fx W0 B 131 #[.pointer (some ⟨L,0,none⟩),.pointer (some ⟨G,0,none⟩),.pointer (some ⟨Q,0,none⟩)]:=by
 intro W ub rows f mb hui hp hnb hk hr
 obtain⟨i0,hi0,hz0,hz1,hz2⟩:=info_parts Tryz.yG
 obtain⟨v,hlc,hrow,hub⟩:=hui
 obtain⟨hg,cG,cQ,hs⟩:=hst W hk
 obtain⟨av,cv,rfl⟩:=bB hrow
 have cL:=hlc.at_ 0 (.slice av rows.length cv) rfl
 have HLN:Hid (∀w,Below W.heap.size W w→Calls Tryz.prog 132 #[.pointer (some ⟨gb,go,none⟩),.slice ao items.length cp,.map (some B)] w fun e w'=>e=.returned (.agg (ee (fi ns items f)))∧Below w.heap.size w w'):=hid fun w hb=>It (hg.below hb) (hp.kept (af hb none) (by simp)) (hs.below hb) hl hok
 have HL0:=hid hlc
 have HR0:=hid hrow
 have HUB:=hid hub
 have HBD:Hid (Below W.heap.size W W.drew):=hid ⟨rfl,rfl,rfl,Nat.le_refl _,fun _ _=>rfl⟩
 clear hlc hrow hub hg hs hst hk hp hnb
 show Calls _ _ #[.map (some B),.pointer (some ⟨L,0,none⟩),.pointer (some ⟨G,0,none⟩),.pointer (some ⟨Q,0,none⟩)] _ _
 go_enter Tryz.func131,Tryz.ntmps131
 go_upto_region 0 with fail
 obtain⟨ln,hln⟩:∃ln,fi ns items f=ln:=⟨_,rfl⟩
 rw[hln] at HLN
 have HLE:=hid hln
 clear hln
 unfold ee at HLN
 go_region_law (first|(refine Ay _ rfl 132 _ _ _ _ Tryz.GA rfl (.pointer (some ⟨gb,go,none⟩)) (.slice ao items.length cp) (.map (some B)) (.agg (#[lB ln 0,lN ln 0,lB ln 1,lN ln 1,lB ln 2,lN ln 2,lB ln 3,lN ln 3,lB ln 4,lN ln 4,lB ln 5,lN ln 5])) (by simp[Act.eval]) (by simp[Act.eval]) (by simp[Act.eval]) (HLN.out W.drew HBD.out) ?_;intro w5 hb5;have HB5:Hid (Below W.heap.size W w5):=hid (HBD.out.trans hb5);have HL5:=hid (HL0.out.grown (af HB5.out none) (by simp));have HR5:=hid (HR0.out.kept (af HB5.out none) (by cases (Value.ownBlock _)<;>simp));have c5:w5.cell? ⟨L,0,none⟩=some (.slice av rows.length cv):=(HL5.out.cell 0).trans rfl;have HE:=hid (HR5.out.alloc (.cells (#[lB ln 0,lN ln 0,lB ln 1,lN ln 1,lB ln 2,lN ln 2,lB ln 3,lN ln 3,lB ln 4,lN ln 4,lB ln 5,lN ln 5]) 210));have HLA:=hid (HL5.out.alloc (.cells (#[lB ln 0,lN ln 0,lB ln 1,lN ln 1,lB ln 2,lN ln 2,lB ln 3,lN ln 3,lB ln 4,lN ln 4,lB ln 5,lN ln 5]) 210));have c6:(w5.alloc (.cells (#[lB ln 0,lN ln 0,lB ln 1,lN ln 1,lB ln 2,lN ln 2,lB ln 3,lN ln 3,lB ln 4,lN ln 4,lB ln 5,lN ln 5]) 210)).cell? ⟨L,0,none⟩=some (.slice av rows.length cv):=(HLA.out.cell 0).trans rfl;clear hb5)|(refine step_append_lies _ rfl _ _ 205 rfl 0 210 i0 (.agg (ee fc)) 12 96 Tryz.underlying205 hi0 hz0 hz1 hz2 rfl (by decide) (.slice av rows.length cv) _ _ (by simp[Act.eval]) HE.out ⟨w5.heap.size,0,none⟩ 1 1 (fo ln) (by simp[Act.eval]) rfl (World.news_of_block (heap_alloc_new w5 _)) (rZ ln) (by omega) (by unfold maxLen;omega) (by omega) (Nat.zero_le _) _ rfl ?_;intro g2 cap2 w6 hown hgrow hlies _;have HLW:=HLA.out.fs HE.out hgrow (by decide);have c7:w6.cell? ⟨L,0,none⟩=some (.slice av rows.length cv):=(HLW.cell 0).trans rfl;have f7:w6.frozen? ⟨L,0,none⟩=false:=HLW.free 0;have HG6:=hid hgrow;have HO6:=hid hown;have HLI:=hid hlies;have HL6:=hid HLW;clear HLW hown hgrow hlies))
 all_goals
  go_wp2_with fail
  go_end0
  refine⟨rfl,fun k=>k=L∨(Value.slice (some ⟨g2,0,none⟩) (rows.length+1) cap2).ownBlock=some k,⟨.slice (some ⟨g2,0,none⟩) (rows.length+1) cap2,HL6.out.set 0 _,?_,fun k=>Iff.rfl⟩,?_,fun k hk=>?_⟩
  ·have h1:=HO6.out.kept (aC w6 L 0 (.slice (some ⟨g2,0,none⟩) (rows.length+1) cap2)) (Or.inr (fun e=>aQ HO6.out HL6.out (by decide) e))
   rw[List.length_append,List.flatMap_append]
   simp only[List.flatMap_cons,List.flatMap_nil,List.append_nil,List.length_singleton,HLE.out]
   exact h1
  ·have h1:=((Kept.refl ub W).below HB5.out).below ((Below.refl w5.heap.size w5).alloc (Nat.le_refl _) (.cells #[lB ln 0,lN ln 0,lB ln 1,lN ln 1,lB ln 2,lN ln 2,lB ln 3,lN ln 3,lB ln 4,lN ln 4,lB ln 5,lN ln 5] 210))
   refine(h1.then HG6.out (fun k hk=>Or.inl ((HUB.out k).2 (Or.inr hk)))).then (aC w6 L 0 (.slice (some ⟨g2,0,none⟩) (rows.length+1) cap2)) (fun k hk=>?_)
   injection hk with hk
   exact Or.inl ((HUB.out k).2 (Or.inl hk.symm))
  ·rcases hk with rfl|hk
   ·exact Or.inl ((HUB.out _).2 (Or.inl rfl))
   ·injection hk with hk
    rcases HLI.out with h2|h2
    ·exact Or.inl ((HUB.out k).2 (Or.inr (by rw[h2];exact congrArg some hk)))
    ·refine Or.inr ?_
     have h3:=HB5.out.size
     rw[World.size_alloc] at h2
     have hk:g2=k:=hk
     omega
end
end Go.Proofs.YtobgbmfpicmpcaaGreatDoor
