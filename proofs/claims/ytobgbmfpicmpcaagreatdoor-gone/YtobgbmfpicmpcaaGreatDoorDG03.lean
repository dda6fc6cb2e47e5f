/- Dump, walked. -/
import Derived.Test.YtobgbmfpicmpcaaGreatDoorDG02
import Derived.Test.YtobgbmfpicmpcaaGreatDoorC37
import Derived.Test.YtobgbmfpicmpcaaGreatDoorC38
import Derived.KernelRfl
import Derived.Test.YtobgbmfpicmpcaaGreatDoorC41
import Derived.Test.YtobgbmfpicmpcaaGreatDoorC42
import Derived.Lib.Hide
set_option maxRecDepth 100000
set_option maxHeartbeats 8000000
namespace Go.Proofs.YtobgbmfpicmpcaaGreatDoor
open Go.Lib (hid)
section
open Go.RowKit Go.Maps Go.Sort
def x8 (ns:List aq) (ts:List ByteArray):Prop:=∀(i:Nat) (x:aq) (t:ByteArray),ns[i]?=some x→ts[i]?=some t→mC x t
def ki (ns:List aq) (es:List aJ) (L:List ByteArray):Prop:=∃ts,ts.length=ns.length∧x8 ns ts∧L=ts++es.map gy
theorem ki.one {ns ns':List aq} {es:List aJ} {L L':List ByteArray} (h:ki ns es L) (h':ki ns' es L') (e:ns'.map de=ns.map de):L=L':=by
 obtain⟨ts,hl,ht,rfl⟩:=h
 obtain⟨ts',hl',ht',rfl⟩:=h'
 have hn:ns'.length=ns.length:=by have:=congrArg List.length e;simpa using this
 congr 1
 refine List.ext_getElem (by omega) fun i h1 h2=>?_
 have hi:i<ns.length:=by omega
 have hi':i<ns'.length:=by omega
 refine(ht i ns[i] ts[i] (List.getElem?_eq_getElem hi) (List.getElem?_eq_getElem h1)).one (ht' i ns'[i] ts'[i] (List.getElem?_eq_getElem hi') (List.getElem?_eq_getElem h2)) ?_
 have h3:(ns.map de)[i]?=(ns'.map de)[i]?:=by rw[e]
 rw[List.getElem?_map,List.getElem?_map,List.getElem?_eq_getElem hi,List.getElem?_eq_getElem hi'] at h3
 exact Option.some.inj h3
structure M2 (ns:List aq) (es:List aJ):Prop where
 num:∀x∈ns,ux x.num
 wy:∀x∈ns,x.label.size≤1000
 key:∀x∈ns,∀s,(x.aW s).isSome=true→s.size≤1000
 ends:∀x∈es,ux x.src∧ux x.dst
 ty:∀x∈es,x.type.size≤1000
 rF:ns.length≤1000∧es.length≤1000
theorem MN {W:World} {G m:Nat} {cs:Array Value} {vn ve:Value} {ns:List aq} {es:List aJ} {last:Int} (h:ed G 1 129 cs vn ve ns es last m W) (hok:M2 ns es) (hm:m≤1000000) (ht:BG W):
  Calls Tryz.prog 32 #[.pointer (some ⟨G,0,none⟩)] W fun e W'=>∃v L,e=.returned v∧W'.ownsRow W.heap.size 9 1 v L.length (strs L)∧ki ns es L∧Below W.heap.size W W':=by
 obtain⟨i1,hj,hy0,hy1,hy2⟩:=info_parts Tryz.tN
 have HI0:=hid (And.intro hj (And.intro hy0 (And.intro hy1 hy2)))
 obtain⟨na,nc,rfl⟩:=bB h.on
 obtain⟨ea,ec,rfl⟩:=bB h.oe
 have g1:W.cell? ⟨G,1,none⟩=some (.slice na ns.length nc):=(h.bZ.cell 1).trans h.c0
 have g2:W.cell? ⟨G,2,none⟩=some (.slice ea es.length ec):=(h.bZ.cell 2).trans h.c1
 have HG2:=hid g2
 have HSN:=hid (aP h.on h.on.1)
 have HSE:=hid (aP h.oe h.oe.1)
 have HPR:=hid h.aW
 have HOK:=hid hok
 have HT:=hid ht
 have hn1:ns.length≤1000:=hok.rF.1
 have he1:es.length≤1000:=hok.rF.2
 have HMM:=hid hm
 clear h hok ht hj hy0 hy1 hy2 g2 hm
 go_enter Tryz.func32,Tryz.ntmps32
 go_wp2_with fail
 clear g1
 go_loopg [3,14] ns.length (fun c lv iv w=>∃(k:Nat) (ts:List ByteArray),iv=.int .i64 (k:Int)∧k+c=ns.length∧ts.length=k∧x8 ns ts∧w.ownsRow W.heap.size 9 1 lv k (strs ts)∧Below W.heap.size W w)
 case atStart=>exact⟨0,[],rfl,by omega,rfl,(fun i x t _ ht=>by simp at ht),World.ownsRow_nil _ _ _ _,Below.refl _ _⟩
 case round=>
  obtain⟨k,ts,rfl,hk,hts,hnt,ho,hb⟩:=hrel
  have HNT:=hid hnt
  have HTL:=hid hts
  have HO:=hid ho
  have HB:=hid hb
  clear hnt ho hb hts
  by_cases hlt:k<ns.length
  ·have hki:(k:Int)<(ns.length:Int):=by omega
   obtain⟨g,oo,rfl,hcell⟩:=bY (l:=ns) eD (fun _=>rfl) (HSN.out.below HB.out) hlt
   obtain⟨y,hy⟩:∃y,ns[k]=y:=⟨_,rfl⟩
   have hym:y∈ns:=by rw[←hy];exact List.getElem_mem hlt
   have HYK:Hid (ns[k]?=some y):=hid (by rw[List.getElem?_eq_getElem hlt,hy])
   rw[hy] at hcell
   have HP1:=hid (HPR.out y hym)
   have HQ1:=hid (And.intro (HOK.out.num y hym) (And.intro (HOK.out.wy y hym) (HOK.out.key y hym)))
   obtain⟨num,label,bZ,aW⟩:=y
   simp only at HP1 HQ1
   have p0:wr.cell? ⟨g,oo+k*3,none⟩=some (.int .i64 num):=hcell 0 (by decide)
   have p1:wr.cell? ⟨g,oo+k*3+1,none⟩=some (.string label):=hcell 1 (by decide)
   have p2:wr.cell? ⟨g,oo+k*3+2,none⟩=some (.map (some bZ)):=hcell 2 (by decide)
   have HB2:=hid (HB.out.alloc HB.out.size (.cells #[.int .i64 num,.string label,.map (some bZ)] 139))
   have HO2:=hid (HO.out.alloc (.cells #[.int .i64 num,.string label,.map (some bZ)] 139))
   have HZ2:=hid (Loc.new wr #[.int .i64 num,.string label,.map (some bZ)] 139)
   clear hcell hy hym HB HO
   go_upto_region 5 with fail
   obtain⟨Z,hZ⟩:∃Z,Z=wr.heap.size:=⟨_,rfl⟩
   rw[←hZ] at HZ2⊢
   clear hZ p0 p1 p2
   generalize wr.alloc (.cells #[.int .i64 num,.string label,.map (some bZ)] 139)=W2 at HB2 HO2 HZ2⊢
   have z0:=HZ2.out.at_ 0 (.int .i64 num) rfl
   have z1:=HZ2.out.at_ 1 (.string label) rfl
   have z2:=HZ2.out.at_ 2 (.map (some bZ)) rfl
   have HNX:=hid (tj (x:=⟨num,label,bZ,aW⟩) (HP1.out.kept (af HB2.out none) (by simp)) HMM.out HQ1.out.1 HQ1.out.2.1 HQ1.out.2.2 (HT.out.below HB2.out))
   simp only at HNX
   go_wp2_with fail
   refine HNX.out.mono ?_
   rintro e W3 ⟨⟨t,rfl,hnt⟩,hb3⟩
   have HNT3:=hid hnt
   have HO3:=hid (HO2.out.kept (af hb3 none) (by cases (Value.ownBlock _)<;>simp))
   have HB3:=hid (HB2.out.trans (hb3.mono HB2.out.size))
   clear hnt hb3 z0 z1 z2 HNX HB2 HO2 HZ2
   go_wp2_with (at_builtin;go_must (refine wpList_append_own _ rfl _ _ 56 rfl W.heap.size 9 i1 (.string ⟨#[]⟩) 1 16 Tryz.underlying56 HI0.out.1 HI0.out.2.1 HI0.out.2.2.1 HI0.out.2.2.2 rfl (by decide) _ _ _ rfl (HO3.out.alloc _) ⟨W3.heap.size,0,none⟩ 1 1 [.string t] rfl rfl (World.news_of_block (heap_alloc_new W3 _)) (by simp[Value.oneCell']) (by unfold maxLen;omega) (by omega) (by have h1:=HB3.out.size;simp;omega) ?_);intro v4 w4 hown hgrow _;have HO4:=hid hown;have HG4:=hid hgrow;clear hown hgrow)
   go_roundg (gk - 1)
   case rel=>
    refine⟨k+1,ts++[t],by simp,by omega,by rw[List.length_append,HTL.out];rfl,?_,?_,?_⟩
    ·intro i x t' hx ht'
     by_cases hi:i<ts.length
     ·rw[List.getElem?_append_left hi] at ht'
      exact HNT.out i x t' hx ht'
     ·have hlen:i<(ts++[t]).length:=by
       rcases Nat.lt_or_ge i (ts++[t]).length with h|h
       ·exact h
       ·rw[List.getElem?_eq_none h] at ht';cases ht'
      have hik:i=k:=by rw[List.length_append] at hlen;have:=HTL.out;simp at hlen;omega
      subst hik
      have e1:ns[i]?=some ⟨num,label,bZ,aW⟩:=HYK.out
      rw[e1] at hx
      injection hx with hx
      rw[List.getElem?_append_right (by omega),HTL.out] at ht'
      have e2:t=t':=by simpa using ht'
      rw[←hx,←e2]
      exact HNT3.out
    ·have h1:=HO4.out
     rw[nz]
     exact h1
    ·exact(HB3.out.alloc HB3.out.size _).grown HG4.out (by have h1:=HB3.out.size;simp;omega) (fun b hb=>((HO3.out.alloc (.cells #[.string t] 9)).lt b hb).1)
   case measure=>omega
  ·have hki:¬(k:Int)<(ns.length:Int):=by omega
   obtain rfl:k=ns.length:=by omega
   have g2:wr.cell? ⟨G,2,none⟩=some (.slice ea es.length ec):=(HB.out.cell (block_lt_of_cell HG2.out)).trans HG2.out
   clear hlt
   go_wp2_with fail
   clear g2
   go_loopg [3,30] es.length (fun c lv iv w=>∃(j:Nat),iv=.int .i64 (j:Int)∧j+c=es.length∧w.ownsRow W.heap.size 9 1 lv (ns.length+j) (strs (ts++(es.take j).map gy))∧Below W.heap.size W w)
   case atStart=>exact⟨0,rfl,by omega,by have h1:=HO.out;simpa using h1,HB.out⟩
   case round=>
    obtain⟨j,rfl,hj,ho,hb⟩:=hrel
    have HO:=hid ho
    have HB:=hid hb
    clear ho hb
    by_cases hlt:j<es.length
    ·have hji:(j:Int)<(es.length:Int):=by omega
     obtain⟨g,oo,rfl,hcell⟩:=bY (l:=es) fL (fun _=>rfl) (HSE.out.below HB.out) hlt
     obtain⟨y,hy⟩:∃y,es[j]=y:=⟨_,rfl⟩
     have hym:y∈es:=by rw[←hy];exact List.getElem_mem hlt
     have HTK:Hid (es.take (j+1)=es.take j++[y]):=hid (by rw[List.take_add_one,List.getElem?_eq_getElem hlt,hy];rfl)
     rw[hy] at hcell
     have HQ1:=hid (And.intro (HOK.out.ends y hym) (HOK.out.ty y hym))
     have HET:Hid (gy y=gy ⟨y.type,y.src,y.dst⟩):=hid rfl
     obtain⟨ty,src,dst⟩:=y
     simp only at HQ1
     have p0:wr.cell? ⟨g,oo+j*3,none⟩=some (.string ty):=hcell 0 (by decide)
     have p1:wr.cell? ⟨g,oo+j*3+1,none⟩=some (.int .i64 src):=hcell 1 (by decide)
     have p2:wr.cell? ⟨g,oo+j*3+2,none⟩=some (.int .i64 dst):=hcell 2 (by decide)
     have HB2:=hid (HB.out.alloc HB.out.size (.cells #[.string ty,.int .i64 src,.int .i64 dst] 142))
     have HO2:=hid (HO.out.alloc (.cells #[.string ty,.int .i64 src,.int .i64 dst] 142))
     have HZ2:=hid (Loc.new wr #[.string ty,.int .i64 src,.int .i64 dst] 142)
     clear hcell hy hym HB HO HET
     go_upto_region 10 with fail
     obtain⟨Z,hZ⟩:∃Z,Z=wr.heap.size:=⟨_,rfl⟩
     rw[←hZ] at HZ2⊢
     clear hZ p0 p1 p2
     generalize wr.alloc (.cells #[.string ty,.int .i64 src,.int .i64 dst] 142)=W2 at HB2 HO2 HZ2⊢
     have z0:=HZ2.out.at_ 0 (.string ty) rfl
     have z1:=HZ2.out.at_ 1 (.int .i64 src) rfl
     have z2:=HZ2.out.at_ 2 (.int .i64 dst) rfl
     have HNX:=hid (vz (x:=⟨ty,src,dst⟩) HQ1.out.1.1 HQ1.out.1.2 HQ1.out.2 (HT.out.below HB2.out))
     simp only at HNX
     obtain⟨t,ht⟩:∃t,gy ⟨ty,src,dst⟩=t:=⟨_,rfl⟩
     rw[ht] at HNX
     have HTT:=hid ht
     clear ht
     go_wp2_with fail
     refine HNX.out.mono ?_
     rintro e W3 ⟨rfl,hb3⟩
     have HO3:=hid (HO2.out.kept (af hb3 none) (by cases (Value.ownBlock _)<;>simp))
     have HB3:=hid (HB2.out.trans (hb3.mono HB2.out.size))
     clear hb3 z0 z1 z2 HNX HB2 HO2 HZ2
     go_wp2_with (at_builtin;go_must (refine wpList_append_own _ rfl _ _ 56 rfl W.heap.size 9 i1 (.string ⟨#[]⟩) 1 16 Tryz.underlying56 HI0.out.1 HI0.out.2.1 HI0.out.2.2.1 HI0.out.2.2.2 rfl (by decide) _ _ _ rfl (HO3.out.alloc _) ⟨W3.heap.size,0,none⟩ 1 1 [.string t] rfl rfl (World.news_of_block (heap_alloc_new W3 _)) (by simp[Value.oneCell']) (by unfold maxLen;omega) (by omega) (by have h1:=HB3.out.size;simp;omega) ?_);intro v4 w4 hown hgrow _;have HO4:=hid hown;have HG4:=hid hgrow;clear hown hgrow)
     go_roundg (gk - 1)
     case rel=>
      refine⟨j+1,by simp,by omega,?_,?_⟩
      ·have h1:=HO4.out
       rw[HTK.out,List.map_append,←List.append_assoc,nz,List.map_singleton,HTT.out]
       exact h1
      ·exact(HB3.out.alloc HB3.out.size _).grown HG4.out (by have h1:=HB3.out.size;simp;omega) (fun b hb=>((HO3.out.alloc (.cells #[.string t] 9)).lt b hb).1)
     case measure=>omega
    ·have hji:¬(j:Int)<(es.length:Int):=by omega
     obtain rfl:j=es.length:=by omega
     go_wp2_with fail
     go_ret
     refine⟨_,rfl,ts++es.map gy,?_,⟨ts,HTL.out,HNT.out,rfl⟩,HB.out⟩
     have h1:=HO.out
     rw[List.take_of_length_le (Nat.le_refl _)] at h1
     rw[List.length_append,List.length_map,HTL.out]
     exact h1
end
namespace Pure
theorem MW:vB 0=⟨#[97]⟩:=rfl
theorem M4:vB 1=⟨#[98]⟩:=rfl
theorem mi (l:Array UInt8):bl ⟨l⟩=l.toList:=rfl
theorem MU:e0.toList.isEmpty=true:=dY
theorem LQ (c:Int):(D6 c).toList.isEmpty=false:=kq (C4 c)
theorem MC (i:Int):(vB i).toList.isEmpty=false:=eo (ad i)
end Pure
def hH:ByteArray:=⟨#[72]⟩
def vH:ByteArray:=⟨#[104]⟩
def jB:ByteArray:=⟨#[106]⟩
def dT (n:Int):gj:=⟨e0,e0,n⟩
def va (a b:ByteArray):au:=⟨4,[cz 0 a,cz 1 b],[⟨1,⟨vB 0,kB,0⟩,⟨vB 1,kB,0⟩⟩],[],0,false,0,0,vB 0,e0,lD,uB,vB 1,e0,[]⟩
namespace Pure
theorem mo:cD hH=true∧bN vH=true∧bN jB=true∧cD ⟨#[66]⟩=true:=by decide +kernel
theorem bx {n:Int} (h:oD n):je (dT n):=Or.inl ⟨rfl,rfl,h⟩
theorem cr {s t:aN} {q:au} (h:q.ai=[s,t]) (hs:fU s) (ht:fU t) (h0:s.type=e0) (hc:∀c∈q.conds,mg c) (hn:q.conds.length≤6):gK q:=by
 refine⟨?_,⟨s,[t],h,h0⟩,by rw[h];simp,hc,hn⟩
 rw[h]
 intro x hx
 rcases List.mem_cons.1 hx with rfl|hx
 ·exact hs
 ·rw[List.mem_singleton.1 hx];exact ht
theorem ji {s:aN} {q:au} (h:q.ai=[s]) (hs:fU s) (h0:s.type=e0) (hc:∀c∈q.conds,mg c) (hn:q.conds.length≤6):gK q:=by
 refine⟨?_,⟨s,[],h,h0⟩,by rw[h];simp,hc,hn⟩
 rw[h]
 intro x hx
 rw[List.mem_singleton.1 hx];exact hs
theorem bo {c d:bP} (hd:mg d) (h:c∈[d]):mg c:=by rw[List.mem_singleton.1 h];exact hd
theorem tV (i:Int):je ⟨vB i,kB,0⟩:=Or.inr ⟨ad i,ft,rfl⟩
theorem LI {a b:ByteArray} (ha:cD a=true) (hb:cD b=true):jk (va a b):=
 Or.inr (Or.inr (Or.inr (Or.inl ⟨cr rfl (bc 0 ha) (bc 1 hb) rfl (fun _ hx=>bo ⟨by simp,tV 0,Or.inl ⟨by simp,tV 1⟩⟩ hx) (by simp[va]),ad 0,fY,ad 1,rfl⟩)))
theorem xd (a b:ByteArray):eG (va a b)=true:=by kernel_rfl
end Pure
section
open Go.RowKit Go.Maps Go.Sort
theorem s6:∀{ns:List aq},ns.Pairwise (fun a b=>a.num<b.num)→∀{x y:aq},x∈ns→y∈ns→x.num=y.num→x=y
 | [],_,_,_,hx,_,_=>by cases hx
 | a::r,h,x,y,hx,hy,e=>by
  obtain⟨h1,h2⟩:=List.pairwise_cons.1 h
  rcases List.mem_cons.1 hx with ex|hx'
  ·rcases List.mem_cons.1 hy with ey|hy'
   ·rw[ex,ey]
   ·have:=h1 y hy';rw[ex] at e;omega
  ·rcases List.mem_cons.1 hy with ey|hy'
   ·have:=h1 x hx';rw[ey] at e;omega
   ·exact s6 h2 hx' hy' e
variable {g:oJ} {b:Int}
end
section
open Go.RowKit Go.Maps Go.Sort
structure qad (g:oJ):Prop where
 wy:∀x∈g.ns,cD x.label=true
 key:∀x∈g.ns,∀s,(x.aW s).isSome=true→s.size≤8
 ty:∀x∈g.es,x.type=tB∨x.type=uB
theorem j6 {s:ByteArray} (h:bN s=true):isWord s=true:=by
 unfold bN at h
 simp only[Bool.and_eq_true] at h
 exact h.1
theorem mN {s:ByteArray} (h:cD s=true):isWord s=true:=by
 unfold cD at h
 simp only[Bool.and_eq_true] at h
 exact h.1.1
theorem cT {s:ByteArray} (h:isWord s=true):s.size≤8:=by
 unfold isWord at h
 simp only[Bool.and_eq_true,decide_eq_true_eq] at h
 exact h.1.1.2
theorem LG {t:ByteArray} (h:SR (7,t,⟨#[]⟩)=true):t=tB∨t=uB:=by
 rw[Ks] at h
 simpa [GF,tB,uB] using h
theorem LH {t:ByteArray} (h:SG (7,t,⟨#[]⟩)=true):t=tB∨t=uB:=by
 rw[FI] at h
 exact Or.inl (by simpa [Ar,tB] using h)
theorem fy:∀(l:List dR) (f:ByteArray→Option Int) (s:ByteArray),((l.foldl (fun f p=>fD f p.key (some p.val)) f) s).isSome=true→(f s).isSome=true∨∃p∈l,p.key=s
 | [],f,s,h=>Or.inl h
 | p::r,f,s,h=>by
  rcases fy r _ s h with h1|⟨q,hq,e⟩
  ·simp only[fD] at h1
   split at h1
   ·rename_i e
    exact Or.inr ⟨p,List.mem_cons_self,e.symm⟩
   ·exact Or.inl h1
  ·exact Or.inr ⟨q,List.mem_cons_of_mem _ hq,e⟩
theorem oi {ns:List aq} {n:Int} {k:ByteArray} {v:Option Int} {y:aq} (h:y∈iQ ns n k v):∃x∈ns,x.label=y.label∧∀s,(y.aW s).isSome=true→(x.aW s).isSome=true∨s=k:=by
 unfold iQ at h
 obtain⟨x,hx,rfl⟩:=List.mem_map.1 h
 refine⟨x,hx,?_⟩
 split
 ·refine⟨rfl,fun s hs=>?_⟩
  simp only[fD] at hs
  split at hs
  ·rename_i e;exact Or.inr e
  ·exact Or.inl hs
 ·exact⟨rfl,fun s hs=>Or.inl hs⟩
theorem E0 {sn:List aq} {q:au} (hk:q.key.size≤8):∀(l:List Int) (ns:List aq),(∀x∈ns,cD x.label=true∧∀s,(x.aW s).isSome=true→s.size≤8)→∀x∈dh sn q ns l,cD x.label=true∧∀s,(x.aW s).isSome=true→s.size≤8
 | [],ns,h=>h
 | n::r,ns,h=>E0 hk r (iQ ns n q.key (eH sn q.value n)) (fun y hy=>by
  obtain⟨x,hx,h1,h2⟩:=oi hy
  refine⟨by rw[←h1];exact(h x hx).1,fun s hs=>?_⟩
  rcases h2 s hs with h3|h3
  ·exact(h x hx).2 s h3
  ·rw[h3];exact hk)
theorem MI {S:aI→Bool} (h7:∀t,S (7,t,⟨#[]⟩)=true→t=tB∨t=uB) {g:oJ} {q:au} {b:Int} (h:qad g) (hq:mM q∨kz q∨km q∨iS q):qad (tA S g q b).2.2:=by
 unfold tA
 rcases hq with hq|hq|hq|hq
 ·have hk:=(qj hq).2.1
  rw[if_neg (by rw[hk];decide),if_neg (by rw[hk];decide),if_pos hk]
  unfold D8
  split
  ·split
   ·have h1:=E0 (sn:=gq S g.ns) (q:=q) (cT (j6 hq.2.2.1)) (fQ q.name (iD S g q b).rows) g.ns (fun x hx=>⟨h.wy x hx,h.key x hx⟩)
    exact⟨fun x hx=>(h1 x hx).1,fun x hx=>(h1 x hx).2,h.ty⟩
   ·exact h
  ·exact h
 ·have hk:=(ol hq).2.1
  rw[if_neg (by rw[hk];decide),if_neg (by rw[hk];decide),if_neg (by rw[hk];decide)]
  unfold BK
  split
  ·split
   ·exact⟨fun x hx=>h.wy x (List.mem_filter.1 hx).1,fun x hx=>h.key x (List.mem_filter.1 hx).1,fun x hx=>h.ty x (List.mem_filter.1 hx).1⟩
   ·exact h
  ·exact h
 ·have hk:=(og hq).2.1
  rw[if_neg (by rw[hk];decide),if_pos hk]
  unfold BL
  split
  ·split
   ·rename_i h1
    split
    ·refine⟨h.wy,h.key,fun x hx=>?_⟩
     rcases List.mem_append.1 hx with hx|hx
     ·exact h.ty x hx
     ·obtain⟨p,_,rfl⟩:=List.mem_map.1 hx
      exact h7 _ h1
    ·exact h
   ·exact h
  ·exact h
 ·have hk:=(mQ hq).1
  rw[if_pos hk]
  unfold ER
  split
  ·refine⟨fun x hx=>?_,fun x hx s hs=>?_,h.ty⟩
   ·rcases List.mem_append.1 hx with hx|hx
    ·exact h.wy x hx
    ·rw[List.mem_singleton.1 hx];exact hq.1
   ·rcases List.mem_append.1 hx with hx|hx
    ·exact h.key x hx s hs
    ·rw[List.mem_singleton.1 hx] at hs
     rcases fy q.ay _ s hs with h1|⟨p,hp,e⟩
     ·cases h1
     ·rw[←e];exact cT (j6 (hq.2.1 p hp).1)
  ·exact h
theorem vk {t:ByteArray} (he:(parseText (fg t)).2=0):jk (parseText (fg t)).1:=by
 rcases qU t with h1|h1|h1
 ·exact h1.2.1
 ·rw[h1] at he;cases he
 ·rw[h1] at he;cases he
theorem qb (pol:List cU) (g:oJ) (role t:ByteArray) (b:Int):((lK pol g role t b).2=g∧((lK pol g role t b).1.2≠0→(lK pol g role t b).1.1=[]))∨∃r q,jg pol role=some r∧(mM q∨kz q∨km q∨iS q)∧lK pol g role t b=(Jm r.2.2 g q (uj b),(tA r.2.2 g q (uj b)).2.2):=by
 unfold lK
 cases hf:jg pol role with
 | none=>exact Or.inl ⟨rfl,fun _=>rfl⟩
 | some r=>
  simp only
  by_cases he:(parseText (fg t)).2=0
  ·rw[if_pos he]
   have hg:=vk he
   generalize (parseText (fg t)).1=q at hg
   unfold uq
   split
   ·refine Or.inl ⟨rfl,fun h=>?_⟩
    rcases oc (ns:=gq r.2.2 g.ns) (es:=jS r.2.2 g.ns g.es) (q:=q) (a:=uj b) with h1|h1
    ·exact absurd h1 h
    ·simp only;rw[h1]
   ·rename_i h1
    split
    ·exact Or.inl ⟨rfl,fun _=>rfl⟩
    ·rename_i h6
     refine Or.inr ⟨r,q,rfl,?_,rfl⟩
     rcases hg with h|h|h|h|h|h
     ·exact absurd (Cq h).2.2 h1
     ·exact Or.inl h
     ·exact Or.inr (Or.inl h)
     ·exact Or.inr (Or.inr (Or.inl h))
     ·exact Or.inr (Or.inr (Or.inr h))
     ·exact absurd (wO h).1 h6
  ·rw[if_neg he]
   exact Or.inl ⟨rfl,fun _=>rfl⟩
theorem p9 {b1 b2:Nat} {g:oJ} (h:qad g) (role t:ByteArray) (b:Int):qad (lK [(fH,b1,SR),(fm,b2,SG)] g role t b).2:=by
 rcases qb [(fH,b1,SR),(fm,b2,SG)] g role t b with ⟨h1,_⟩|⟨r,q,hf,hq,e⟩
 ·rw[h1];exact h
 ·rw[e]
  have hm:=List.mem_of_find?_eq_some hf
  refine MI (fun t ht=>?_) h hq
  rcases List.mem_cons.1 hm with rfl|hm
  ·exact LG ht
  ·rw[List.mem_singleton.1 hm] at ht;exact LH ht
theorem qad.a8 {ns ns':List aq} {es:List aJ} {l l':Int} (h:qad ⟨ns,es,l⟩) (e:ns'.map de=ns.map de):qad ⟨ns',es,l'⟩:=by
 have hm:∀x∈ns',∃y∈ns,y.label=x.label∧y.aW=x.aW:=fun x hx=>by
  have h1:de x∈ns.map de:=by rw[←e];exact List.mem_map_of_mem hx
  obtain⟨y,hy,e2⟩:=List.mem_map.1 h1
  unfold de at e2
  simp only[aq.mk.injEq,true_and] at e2
  exact⟨y,hy,e2.2.1,e2.2.2⟩
 refine⟨fun x hx=>?_,fun x hx s hs=>?_,h.ty⟩
 ·obtain⟨y,hy,e1,_⟩:=hm x hx
  rw[←e1];exact h.wy y hy
 ·obtain⟨y,hy,_,e2⟩:=hm x hx
  exact h.key y hy s (by rw[e2];exact hs)
end
def j4 (c:Int):Int:=pk (c.tdiv 6) 1099511627776
def ob (a:ByteArray) (n z:Int):au:=⟨5,[],[],[],0,false,0,0,e0,e0,lD,e0,e0,a,[⟨kB,n⟩,⟨jB,z⟩]⟩
def vo (a b:ByteArray) (n:Int):au:=⟨4,[cz 0 a,cz 1 b],[⟨4,⟨vB 0,kB,0⟩,dT n⟩],[],0,false,0,0,vB 0,e0,lD,tB,vB 1,e0,[]⟩
def tw (a:ByteArray) (n z:Int):au:=⟨2,[cz 0 a],[⟨5,⟨vB 0,kB,0⟩,dT n⟩],[],0,false,0,0,vB 0,kB,dT z,e0,e0,e0,[]⟩
def vm (a:ByteArray) (n:Int):au:=⟨3,[cz 0 a],[⟨5,⟨vB 0,jB,0⟩,dT n⟩],[],0,false,0,0,vB 0,e0,lD,e0,e0,e0,[]⟩
def xa (c:Int):au:=
 if pk c 6=0∨pk c 6=1 then ob (D6 (j4 c)) (GP (j4 c / 9)) (GP (j4 c / 63))
 else if pk c 6=2 then vo (D6 (j4 c)) (D6 (j4 c / 3)) (GP (j4 c / 9))
 else if pk c 6=3 then va (D6 (j4 c)) (D6 (j4 c / 3))
 else if pk c 6=4 then tw (D6 (j4 c)) (GP (j4 c / 9)) (GP (j4 c / 63))
 else vm (D6 (j4 c)) (GP (j4 c / 9))
def b9 (c:Int):ByteArray:=⟨(iy (cJ (xa c))).toArray⟩
def M1 (i:Int) (a b n z:ByteArray):ByteArray:=
 if i=0∨i=1 then ⟨#[67,82,69,65,84,69,32,40,32]⟩++a++⟨#[32,123,32,107,32,58,32]⟩++n++⟨#[32,44,32,106,32,58,32]⟩++z++⟨#[32,125,32,41]⟩
 else if i=2 then ⟨#[77,65,84,67,72,32,40,32,97,32,58,32]⟩++a++⟨#[32,41,32,44,32,40,32,98,32,58,32]⟩++b++⟨#[32,41,32,87,72,69,82,69,32,97,32,46,32,107,32,60,61,32]⟩++n++⟨#[32,67,82,69,65,84,69,32,40,32,97,32,41,32,45,91,32,84,32,93,45,62,32,40,32,98,32,41]⟩
 else if i=3 then ⟨#[77,65,84,67,72,32,40,32,97,32,58,32]⟩++a++⟨#[32,41,32,44,32,40,32,98,32,58,32]⟩++b++⟨#[32,41,32,87,72,69,82,69,32,97,32,46,32,107,32,61,32,98,32,46,32,107,32,67,82,69,65,84,69,32,40,32,97,32,41,32,45,91,32,85,32,93,45,62,32,40,32,98,32,41]⟩
 else if i=4 then ⟨#[77,65,84,67,72,32,40,32,97,32,58,32]⟩++a++⟨#[32,41,32,87,72,69,82,69,32,97,32,46,32,107,32,62,32]⟩++n++⟨#[32,83,69,84,32,97,32,46,32,107,32,61,32]⟩++z
 else ⟨#[77,65,84,67,72,32,40,32,97,32,58,32]⟩++a++⟨#[32,41,32,87,72,69,82,69,32,97,32,46,32,106,32,62,32]⟩++n++⟨#[32,68,69,76,69,84,69,32,97]⟩
namespace Pure
theorem LP (c:Int):b9 c=M1 (pk c 6) (D6 (j4 c)) (D6 (j4 c / 3)) (dB (GP (j4 c / 9))) (dB (GP (j4 c / 63))):=by
 have hb:∀s:ByteArray,s.data.toList=bl s:=fun _=>rfl
 apply KD
 unfold b9
 rw[MR]
 unfold xa M1
 split
 ·simp only[ob,cJ,po,bT,pq,gr]
  simp[qR,nj,o5,mi,bE,bA,cP,gG,bX,aK,aM,kB,jB,hb]
 ·split
  ·simp only[vo,dT,cJ,mu,nv,bT,iV,mU,oG,ig,xN,lR,cz,MU,LQ,MC,gr]
   simp[qR,nj,o5,mi,bE,bA,bX,aK,eX,D2,jG,da,dz,ej,aM,kB,tB,MW,M4,hb]
  ·split
   ·simp only[va,cJ,mu,nv,bT,iV,mU,oG,ig,xN,lR,cz,MU,LQ,MC,gr]
    simp[qR,nj,o5,mi,bE,bA,bX,aK,eX,tT,jG,da,dz,ej,aM,kB,uB,MW,M4,hb]
   ·split
    ·simp only[tw,dT,cJ,mu,nv,bT,iV,mU,oG,ig,xN,lR,cz,MU,LQ,MC,gr]
     simp[qR,nj,o5,mi,bE,bA,bX,eX,tT,D4,dz,ej,fN,kB,MW,hb]
    ·simp only[vm,dT,cJ,mu,nv,bT,iV,mU,oG,ig,xN,lR,cz,MU,LQ,MC,gr]
     simp[qR,nj,o5,mi,bE,bA,bX,eX,D4,dz,ej,bI,jB,MW,hb]
theorem qae (i:Int):je ⟨vB i,jB,0⟩:=Or.inr ⟨ad i,mo.2.2.1,rfl⟩
theorem Mi:ik kB jB=false:=by decide +kernel
theorem x7 {a:ByteArray} {n z:Int} (ha:cD a=true) (h:oD n) (hz:oD z):jk (ob a n z):=by
 refine Or.inr (Or.inr (Or.inr (Or.inr (Or.inl ⟨ha,fun p hp=>?_,by simp[ob],by simp[ob,dK,Mi],rfl⟩))))
 rcases List.mem_cons.1 hp with rfl|hp
 ·exact⟨ft,h⟩
 ·rw[List.mem_singleton.1 hp]
  exact⟨mo.2.2.1,hz⟩
theorem xp {a b:ByteArray} {n:Int} (ha:cD a=true) (hb:cD b=true) (h:oD n):jk (vo a b n):=
 Or.inr (Or.inr (Or.inr (Or.inl ⟨cr rfl (bc 0 ha) (bc 1 hb) rfl (fun _ hx=>bo ⟨by simp,tV 0,Or.inl ⟨by simp,bx h⟩⟩ hx) (by simp[vo]),ad 0,F3,ad 1,rfl⟩)))
theorem FD {a:ByteArray} {n z:Int} (ha:cD a=true) (h:oD n) (hz:oD z):jk (tw a n z):=
 Or.inr (Or.inl ⟨ji rfl (bc 0 ha) rfl (fun _ hx=>bo ⟨by simp,tV 0,Or.inl ⟨by simp,bx h⟩⟩ hx) (by simp[tw]),ad 0,ft,bx hz,rfl⟩)
theorem A5 {a:ByteArray} {n:Int} (ha:cD a=true) (h:oD n):jk (vm a n):=
 Or.inr (Or.inr (Or.inl ⟨ji rfl (bc 0 ha) rfl (fun _ hx=>bo ⟨by simp,qae 0,Or.inl ⟨by simp,bx h⟩⟩ hx) (by simp[vm]),ad 0,rfl⟩))
theorem th (c:Int):jk (xa c):=by
 unfold xa
 split
 ·exact x7 (C4 _) (J1 _) (J1 _)
 ·split
  ·exact xp (C4 _) (C4 _) (J1 _)
  ·split
   ·exact LI (C4 _) (C4 _)
   ·split
    ·exact FD (C4 _) (J1 _) (J1 _)
    ·exact A5 (C4 _) (J1 _)
theorem tt (a:ByteArray) (n z:Int):eG (ob a n z)=true:=by kernel_rfl
theorem u2 (a b:ByteArray) (n:Int):eG (vo a b n)=true:=by kernel_rfl
theorem ti (a:ByteArray) (n z:Int):eG (tw a n z)=true:=by kernel_rfl
theorem vb (a:ByteArray) (n:Int):eG (vm a n)=true:=by kernel_rfl
theorem B2 (c:Int):eG (xa c)=true:=by
 unfold xa
 split
 ·exact tt _ _ _
 ·split
  ·exact u2 _ _ _
  ·split
   ·exact xd _ _
   ·split
    ·exact ti _ _ _
    ·exact vb _ _
end Pure
section
open Go.RowKit Go.Maps Go.Sort
def NK (ns:List aq):Prop:=∀x∈ns,x.aW kB≠some 9
theorem NK.a8 {ns ns':List aq} (h:NK ns) (e:ns'.map de=ns.map de):NK ns':=by
 intro x hx
 have h1:de x∈ns.map de:=by rw[←e];exact List.mem_map_of_mem hx
 obtain⟨y,hy,e2⟩:=List.mem_map.1 h1
 unfold de at e2
 simp only[aq.mk.injEq,true_and] at e2
 rw[←e2.2.2]
 exact h y hy
theorem x9 {ns:List aq} {n:Int} {k:ByteArray} {v:Option Int} (h:NK ns) (hv:v≠some 9):NK (iQ ns n k v):=by
 intro y hy
 unfold iQ at hy
 obtain⟨x,hx,rfl⟩:=List.mem_map.1 hy
 split
 ·simp only[fD]
  split
  ·exact hv
  ·exact h x hx
 ·exact h x hx
theorem z6 {sn:List aq} {q:au} (hv:∀n,eH sn q.value n≠some 9):∀(l:List Int) (ns:List aq),NK ns→NK (dh sn q ns l)
 | [],_,h=>h
 | n::r,_,h=>z6 hv r _ (x9 h (hv n))
theorem j3:∀(l:List dR) (f:ByteArray→Option Int) (s:ByteArray) (v:Int),(l.foldl (fun f p=>fD f p.key (some p.val)) f) s=some v→f s=some v∨∃p∈l,p.val=v
 | [],f,s,v,h=>Or.inl h
 | p::r,f,s,v,h=>by
  rcases j3 r _ s v h with h1|⟨q,hq,e⟩
  ·simp only[fD] at h1
   split at h1
   ·exact Or.inr ⟨p,List.mem_cons_self,Option.some.inj h1⟩
   ·exact Or.inl h1
  ·exact Or.inr ⟨q,List.mem_cons_of_mem _ hq,e⟩
variable {S:aI→Bool} {g:oJ} {q:au} {b:Int}
theorem M3 (h:q.kind=5):tA S g q b=ER S g q b:=by unfold tA;rw[if_pos h]
theorem MX (h:q.kind=4):tA S g q b=BL S g q b:=by unfold tA;rw[if_neg (by rw[h];decide),if_pos h]
theorem M5 (h:q.kind=2):tA S g q b=D8 S g q b:=by unfold tA;rw[if_neg (by rw[h];decide),if_neg (by rw[h];decide),if_pos h]
theorem MY (h:q.kind=3):tA S g q b=BK S g q b:=by unfold tA;rw[if_neg (by rw[h];decide),if_neg (by rw[h];decide),if_neg (by rw[h];decide)]
theorem MT (h:NK g.ns) (hq:∀p∈q.ay,p.val≠9):NK (ER S g q b).2.2.ns:=by
 unfold ER
 split
 ·intro x hx
  rcases List.mem_append.1 hx with hx|hx
  ·exact h x hx
  ·rw[List.mem_singleton.1 hx]
   intro e
   rcases j3 q.ay _ kB 9 e with h1|⟨p,hp,h1⟩
   ·cases h1
   ·exact hq p hp h1
 ·exact h
theorem Ma (h:NK g.ns):NK (BL S g q b).2.2.ns:=by
 unfold BL
 split
 ·split
  ·split
   ·exact h
   ·exact h
  ·exact h
 ·exact h
theorem MD (h:NK g.ns) (hv:∀n,eH (gq S g.ns) q.value n≠some 9):NK (D8 S g q b).2.2.ns:=by
 unfold D8
 split
 ·split
  ·exact z6 hv _ _ h
  ·exact h
 ·exact h
theorem MF (h:NK g.ns):NK (BK S g q b).2.2.ns:=by
 unfold BK
 split
 ·split
  ·exact fun x hx=>h x (List.mem_filter.1 hx).1
  ·exact h
 ·exact h
theorem lI (c:Int):GP c≠9:=by have:=Cd c;omega
theorem ME (h:NK g.ns) (c:Int):NK (tA S g (xa c) b).2.2.ns:=by
 unfold xa
 split
 ·rw[M3 rfl]
  refine MT h fun p hp=>?_
  rcases List.mem_cons.1 hp with rfl|hp
  ·exact lI _
  ·rw[List.mem_singleton.1 hp];exact lI _
 ·split
  ·rw[MX rfl];exact Ma h
  ·split
   ·rw[MX rfl];exact Ma h
   ·split
    ·rw[M5 rfl]
     refine MD h fun n e=>?_
     have h0:e0.toList.isEmpty=true:=by decide +kernel
     have h1:eH (gq S g.ns) (dT (GP (j4 c / 63))) n=some (GP (j4 c / 63)):=by unfold eH dT;rw[if_pos h0]
     exact lI _ (Option.some.inj (h1.symm.trans e))
    ·rw[MY rfl];exact MF h
theorem sT (c:Int):(xa c).kind≠1∧(xa c).kind≠6:=by
 unfold xa
 split
 ·simp[ob]
 ·split
  ·simp[vo]
  ·split
   ·simp[va]
   ·split
    ·simp[tw]
    ·simp[vm]
theorem MA {b1 b2:Nat} {g:oJ} (h:NK g.ns) (c b:Int):NK (lK [(fH,b1,SR),(fm,b2,SG)] g fH (b9 c) b).2.ns:=by
 have hp:parseText (fg (b9 c))=(xa c,0):=tu (Pure.th c) (Pure.B2 c)
 unfold lK
 rw[CW,hp]
 simp only[if_pos]
 unfold uq
 rw[if_neg (sT c).1,if_neg (sT c).2]
 exact ME h c
theorem zp:NK [node1]:=by
 intro x hx
 rw[List.mem_singleton.1 hx]
 decide +kernel
theorem np (c:Int):(b9 c).size≤maxLen:=by
 have h1:=Pure.wb (Pure.th c)
 unfold b9 maxLen
 omega
end
section
open Go.RowKit Go.Maps Go.Sort
theorem l6 (f:Row) (n:ByteArray) (u v:Option Int):fD (fD f n u) n v=fD f n v:=by
 funext s
 simp only[fD]
 split<;>rfl
theorem od {f:Row} {n:ByteArray} (h:f n=none):fD f n none=f:=by
 funext s
 simp only[fD]
 split
 ·rename_i e;rw[e,h]
 ·rfl
theorem br (f:Row) (n:ByteArray) (v:Option Int):fD f n v n=v:=by simp[fD]
theorem b7 {f:Row} {n s:ByteArray} (v:Option Int) (h:s≠n):fD f n v s=f s:=by simp[fD,h]
theorem dc {rec:mA→mA} {skip:Int→Bool} {name:ByteArray} {Rf:Int→List Row} {qaf:Int→Nat} {f0:Row} (hrec:∀(e l:Int) (rows:List Row),(qaf e:Int)≤l→∃l',rec ⟨l,fD f0 name (some e),rows⟩=⟨l',fD f0 name (some e),rows++Rf e⟩∧l - qaf e≤l'):
  ∀(E:List Int) (l:Int) (f:Row) (rows:List Row),(∀v,fD f name v=fD f0 name v)→(((E.map fun e=>qaf e+1).sum:Nat):Int)≤l→∃l' f',fw rec skip name E ⟨l,f,rows⟩=(⟨l',f',rows++E.flatMap (fun e=>if skip e then [] else Rf e)⟩,false)∧l - ((E.map fun e=>qaf e+1).sum:Nat)≤l'∧∀v,fD f' name v=fD f0 name v
 | [],l,f,rows,hf,_=>⟨l,f,by simp[fw],by simp,hf⟩
 | e::r,l,f,rows,hf,hl=>by
  rw[List.map_cons,List.sum_cons] at hl
  by_cases hs:skip e=true
  ·obtain⟨l',f',h1,h2,h3⟩:=dc (skip:=skip) hrec r l f rows hf (by omega)
   refine⟨l',f',?_,by rw[List.map_cons,List.sum_cons];omega,h3⟩
   rw[fw,if_pos hs,h1,List.flatMap_cons,if_pos hs,List.nil_append]
  ·obtain⟨l1,h4,h5⟩:=hrec e (l - 1) rows (by omega)
   obtain⟨l',f',h1,h2,h3⟩:=dc (skip:=skip) hrec r l1 (fD f0 name (some e)) (rows++Rf e) (fun v=>l6 _ _ _ _) (by omega)
   refine⟨l',f',?_,by rw[List.map_cons,List.sum_cons];omega,h3⟩
   rw[fw,if_neg hs]
   simp only
   rw[if_pos (by omega),hf,h4,h1,List.flatMap_cons,if_neg hs,List.append_assoc]
theorem bb {ns:List aq} {es:List aJ} {cl:List bP} {s:aN} {r:List aN} {prev:ByteArray} {f:Row} {Rf:Int→List Row} {qaf:Int→Nat} {E:List Int} {l l2:Int} (hn:f s.name=none) (he:fC ns es s ((f prev).getD 0) l=(E,l2)) (hrec:∀(e l:Int) (rows:List Row),(qaf e:Int)≤l→∃l',bH ns es cl r s.name ⟨l,fD f s.name (some e),rows⟩=⟨l',fD f s.name (some e),rows++Rf e⟩∧l - qaf e≤l') (rows:List Row) (hl:(((E.map fun e=>qaf e+1).sum:Nat):Int)≤l2):
  ∃l',bH ns es cl (s::r) prev ⟨l,f,rows⟩=⟨l',f,rows++E.flatMap (fun e=>if qX ns s none e then [] else Rf e)⟩∧l2 - ((E.map fun e=>qaf e+1).sum:Nat)≤l':=by
 obtain⟨l',f',h1,h2,h3⟩:=dc (skip:=qX ns s none) hrec E l2 f rows (fun v=>rfl) hl
 refine⟨l',?_,h2⟩
 rw[bH]
 simp only
 rw[he,hn]
 simp only
 rw[h1]
 simp only[Option.isSome_none]
 rw[if_neg (by decide),if_neg (by decide),h3,od hn]
theorem di (ns:List aq) (es:List aJ) (cl:List bP) (prev:ByteArray) (f:Row) (l:Int) (rows:List Row):∃l',bH ns es cl [] prev ⟨l,f,rows⟩=⟨l',f,rows++(if cl.all (kD ns f) then [f] else [])⟩∧l - ((0:Nat):Int)≤l':=by
 refine⟨l,?_,by simp⟩
 rw[bH]
 split
 ·rfl
 ·rw[List.append_nil]
theorem b8 {ns:List aq} {es:List aJ} {s:aN} {p l:Int} (h:s.type.toList.isEmpty=true):fC ns es s p l=(ns.map (·.num),l):=by
 unfold fC
 rw[if_pos h]
theorem gi (k:Nat):∀(l:List Int),(l.map fun _=>k+1).sum=l.length*(k+1)
 | []=>by simp
 | _::r=>by rw[List.map_cons,List.sum_cons,gi k r,List.length_cons,Nat.add_mul,Nat.one_mul,Nat.add_comm]
theorem iB (ns:List aq) (k:Nat):((ns.map (·.num)).map fun _=>k+1).sum=ns.length*(k+1):=by rw[gi,List.length_map]
theorem Mj {ns:List aq} {es:List aJ} {q:au} {s:aN} {b:Int} (hq:q.ai=[s]) (h:s.type.toList.isEmpty=true) (hb:(ns.length:Int)≤b):∃l',aR ns es q b=⟨l',jN,(ns.map (·.num)).flatMap (fun e=>if qX ns s none e then [] else if q.conds.all (kD ns (fD jN s.name (some e))) then [fD jN s.name (some e)] else [])⟩∧0≤l':=by
 have hsum:(((ns.map (·.num)).map fun _=>0+1).sum:Nat)=ns.length:=by rw[iB];omega
 unfold aR
 rw[hq]
 obtain⟨l',h1,h2⟩:=bb (ns:=ns) (es:=es) (cl:=q.conds) (s:=s) (r:=[]) (prev:=⟨#[]⟩) (f:=jN) (Rf:=fun e=>if q.conds.all (kD ns (fD jN s.name (some e))) then [fD jN s.name (some e)] else []) (qaf:=fun _=>0) (l:=b) rfl (b8 h) (fun e l rows _=>di ns es q.conds _ _ l rows) [] (by rw[hsum];exact hb)
 rw[hsum] at h2
 exact⟨l',by rw[h1,List.nil_append],by omega⟩
theorem Mo {ns:List aq} {es:List aJ} {q:au} {s t:aN} {b:Int} (hq:q.ai=[s,t]) (h:s.type.toList.isEmpty=true) (h':t.type.toList.isEmpty=true) (hne:t.name≠s.name) (hb:((ns.length*(ns.length+1):Nat):Int)≤b):∃l',aR ns es q b=⟨l',jN,(ns.map (·.num)).flatMap (fun e=>if qX ns s none e then [] else (ns.map (·.num)).flatMap (fun d=>if qX ns t none d then [] else if q.conds.all (kD ns (fD (fD jN s.name (some e)) t.name (some d))) then [fD (fD jN s.name (some e)) t.name (some d)] else []))⟩∧0≤l':=by
 have hsum:(((ns.map (·.num)).map fun _=>0+1).sum:Nat)=ns.length:=by rw[iB];omega
 have hsum2:∀(k:Nat),(((ns.map (·.num)).map fun _=>k+1).sum:Nat)=ns.length*(k+1):=iB ns
 unfold aR
 rw[hq]
 obtain⟨l',h1,h2⟩:=bb (ns:=ns) (es:=es) (cl:=q.conds) (s:=s) (r:=[t]) (prev:=⟨#[]⟩) (f:=jN) (Rf:=fun e=>(ns.map (·.num)).flatMap (fun d=>if qX ns t none d then [] else if q.conds.all (kD ns (fD (fD jN s.name (some e)) t.name (some d))) then [fD (fD jN s.name (some e)) t.name (some d)] else [])) (qaf:=fun _=>ns.length) (l:=b) rfl (b8 h) (fun e l rows hl=>by
  obtain⟨l',h3,h4⟩:=bb (ns:=ns) (es:=es) (cl:=q.conds) (s:=t) (r:=[]) (prev:=s.name) (f:=fD jN s.name (some e)) (Rf:=fun d=>if q.conds.all (kD ns (fD (fD jN s.name (some e)) t.name (some d))) then [fD (fD jN s.name (some e)) t.name (some d)] else []) (qaf:=fun _=>0) (l:=l) (by rw[b7 _ hne];rfl) (b8 h') (fun e l rows _=>di ns es q.conds _ _ l rows) rows (by rw[hsum];exact hl)
  rw[hsum] at h4
  exact⟨l',h3,h4⟩) [] (by rw[hsum2];exact hb)
 rw[hsum2] at h2
 exact⟨l',by rw[h1,List.nil_append],by omega⟩
end
end Go.Proofs.YtobgbmfpicmpcaaGreatDoor
