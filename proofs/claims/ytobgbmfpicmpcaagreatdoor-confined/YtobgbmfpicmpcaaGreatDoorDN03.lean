/- Dump, walked. -/
import Derived.Test.YtobgbmfpicmpcaaGreatDoorDN02
import Derived.Test.YtobgbmfpicmpcaaGreatDoorC37
import Derived.Test.YtobgbmfpicmpcaaGreatDoorC38
import Derived.KernelRfl
import Derived.Test.YtobgbmfpicmpcaaGreatDoorC41
import Derived.Test.YtobgbmfpicmpcaaGreatDoorC42
import Derived.Lib.Hide
set_option maxRecDepth 100000
set_option maxHeartbeats 8000000
namespace Go.Proofs.YtobgbmfpicmpcaaGreatDoor
open Go.Lib (hid)
section
open Go.RowKit Go.Maps Go.Sort
def bx (ns:List aq) (ts:List ByteArray):Prop:=∀(i:Nat) (x:aq) (t:ByteArray),ns[i]?=some x→ts[i]?=some t→dc x t
def gr (ns:List aq) (es:List aJ) (L:List ByteArray):Prop:=∃ts,ts.length=ns.length∧bx ns ts∧L=ts++es.map bu
theorem gr.one {ns ns':List aq} {es:List aJ} {L L':List ByteArray} (h:gr ns es L) (h':gr ns' es L') (e:ns'.map de=ns.map de):L=L':=by
 obtain⟨ts,hl,ht,rfl⟩:=h
 obtain⟨ts',hl',ht',rfl⟩:=h'
 have hn:ns'.length=ns.length:=by have:=congrArg List.length e;simpa using this
 congr 1
 refine List.ext_getElem (by omega) fun i h1 h2=>?_
 have hi:i<ns.length:=by omega
 have hi':i<ns'.length:=by omega
 refine(ht i ns[i] ts[i] (List.getElem?_eq_getElem hi) (List.getElem?_eq_getElem h1)).one (ht' i ns'[i] ts'[i] (List.getElem?_eq_getElem hi') (List.getElem?_eq_getElem h2)) ?_
 have h3:(ns.map de)[i]?=(ns'.map de)[i]?:=by rw[e]
 rw[List.getElem?_map,List.getElem?_map,List.getElem?_eq_getElem hi,List.getElem?_eq_getElem hi'] at h3
 exact Option.some.inj h3
structure Ly (ns:List aq) (es:List aJ):Prop where
 num:∀x∈ns,ux x.num
 wy:∀x∈ns,x.label.size≤1000
 key:∀x∈ns,∀s,(x.aW s).isSome=true→s.size≤1000
 ends:∀x∈es,ux x.src∧ux x.dst
 ty:∀x∈es,x.type.size≤1000
 rF:ns.length≤1000∧es.length≤1000
theorem F9 {W:World} {G m:Nat} {cs:Array Value} {vn ve:Value} {ns:List aq} {es:List aJ} {last:Int} (h:ed G 1 129 cs vn ve ns es last m W) (hok:Ly ns es) (hm:m≤1000000) (ht:BG W):
  Calls Tryz.prog 32 #[.pointer (some ⟨G,0,none⟩)] W fun e W'=>∃v L,e=.returned v∧W'.ownsRow W.heap.size 9 1 v L.length (strs L)∧gr ns es L∧Below W.heap.size W W':=by
 obtain⟨i1,hj,hy0,hy1,hy2⟩:=info_parts Tryz.tN
 have HI0:=hid (And.intro hj (And.intro hy0 (And.intro hy1 hy2)))
 obtain⟨na,nc,rfl⟩:=bB h.on
 obtain⟨ea,ec,rfl⟩:=bB h.oe
 have g1:W.cell? ⟨G,1,none⟩=some (.slice na ns.length nc):=(h.bZ.cell 1).trans h.c0
 have g2:W.cell? ⟨G,2,none⟩=some (.slice ea es.length ec):=(h.bZ.cell 2).trans h.c1
 have HG2:=hid g2
 have HSN:=hid (aP h.on h.on.1)
 have HSE:=hid (aP h.oe h.oe.1)
 have HPR:=hid h.aW
 have HOK:=hid hok
 have HT:=hid ht
 have hn1:ns.length≤1000:=hok.rF.1
 have he1:es.length≤1000:=hok.rF.2
 have HMM:=hid hm
 clear h hok ht hj hy0 hy1 hy2 g2 hm
 go_enter Tryz.func32,Tryz.ntmps32
 go_wp2_with fail
 clear g1
 go_loopg [3,14] ns.length (fun c lv iv w=>∃(k:Nat) (ts:List ByteArray),iv=.int .i64 (k:Int)∧k+c=ns.length∧ts.length=k∧bx ns ts∧w.ownsRow W.heap.size 9 1 lv k (strs ts)∧Below W.heap.size W w)
 case atStart=>exact⟨0,[],rfl,by omega,rfl,(fun i x t _ ht=>by simp at ht),World.ownsRow_nil _ _ _ _,Below.refl _ _⟩
 case round=>
  obtain⟨k,ts,rfl,hk,hts,hnt,ho,hb⟩:=hrel
  have HNT:=hid hnt
  have HTL:=hid hts
  have HO:=hid ho
  have HB:=hid hb
  clear hnt ho hb hts
  by_cases hlt:k<ns.length
  ·have hki:(k:Int)<(ns.length:Int):=by omega
   obtain⟨g,oo,rfl,hcell⟩:=bY (l:=ns) eD (fun _=>rfl) (HSN.out.below HB.out) hlt
   obtain⟨y,hy⟩:∃y,ns[k]=y:=⟨_,rfl⟩
   have hym:y∈ns:=by rw[←hy];exact List.getElem_mem hlt
   have HYK:Hid (ns[k]?=some y):=hid (by rw[List.getElem?_eq_getElem hlt,hy])
   rw[hy] at hcell
   have HP1:=hid (HPR.out y hym)
   have HQ1:=hid (And.intro (HOK.out.num y hym) (And.intro (HOK.out.wy y hym) (HOK.out.key y hym)))
   obtain⟨num,label,bZ,aW⟩:=y
   simp only at HP1 HQ1
   have p0:wr.cell? ⟨g,oo+k*3,none⟩=some (.int .i64 num):=hcell 0 (by decide)
   have p1:wr.cell? ⟨g,oo+k*3+1,none⟩=some (.string label):=hcell 1 (by decide)
   have p2:wr.cell? ⟨g,oo+k*3+2,none⟩=some (.map (some bZ)):=hcell 2 (by decide)
   have HB2:=hid (HB.out.alloc HB.out.size (.cells #[.int .i64 num,.string label,.map (some bZ)] 139))
   have HO2:=hid (HO.out.alloc (.cells #[.int .i64 num,.string label,.map (some bZ)] 139))
   have HZ2:=hid (Loc.new wr #[.int .i64 num,.string label,.map (some bZ)] 139)
   clear hcell hy hym HB HO
   go_upto_region 5 with fail
   obtain⟨Z,hZ⟩:∃Z,Z=wr.heap.size:=⟨_,rfl⟩
   rw[←hZ] at HZ2⊢
   clear hZ p0 p1 p2
   generalize wr.alloc (.cells #[.int .i64 num,.string label,.map (some bZ)] 139)=W2 at HB2 HO2 HZ2⊢
   have z0:=HZ2.out.at_ 0 (.int .i64 num) rfl
   have z1:=HZ2.out.at_ 1 (.string label) rfl
   have z2:=HZ2.out.at_ 2 (.map (some bZ)) rfl
   have HNX:=hid (vo (x:=⟨num,label,bZ,aW⟩) (HP1.out.kept (af HB2.out none) (by simp)) HMM.out HQ1.out.1 HQ1.out.2.1 HQ1.out.2.2 (HT.out.below HB2.out))
   simp only at HNX
   go_wp2_with fail
   refine HNX.out.mono ?_
   rintro e W3 ⟨⟨t,rfl,hnt⟩,hb3⟩
   have HNT3:=hid hnt
   have HO3:=hid (HO2.out.kept (af hb3 none) (by cases (Value.ownBlock _)<;>simp))
   have HB3:=hid (HB2.out.trans (hb3.mono HB2.out.size))
   clear hnt hb3 z0 z1 z2 HNX HB2 HO2 HZ2
   go_wp2_with (at_builtin;go_must (refine wpList_append_own _ rfl _ _ 56 rfl W.heap.size 9 i1 (.string ⟨#[]⟩) 1 16 Tryz.underlying56 HI0.out.1 HI0.out.2.1 HI0.out.2.2.1 HI0.out.2.2.2 rfl (by decide) _ _ _ rfl (HO3.out.alloc _) ⟨W3.heap.size,0,none⟩ 1 1 [.string t] rfl rfl (World.news_of_block (heap_alloc_new W3 _)) (by simp[Value.oneCell']) (by unfold maxLen;omega) (by omega) (by have h1:=HB3.out.size;simp;omega) ?_);intro v4 w4 hown hgrow _;have HO4:=hid hown;have HG4:=hid hgrow;clear hown hgrow)
   go_roundg (gk - 1)
   case rel=>
    refine⟨k+1,ts++[t],by simp,by omega,by rw[List.length_append,HTL.out];rfl,?_,?_,?_⟩
    ·intro i x t' hx ht'
     by_cases hi:i<ts.length
     ·rw[List.getElem?_append_left hi] at ht'
      exact HNT.out i x t' hx ht'
     ·have hlen:i<(ts++[t]).length:=by
       rcases Nat.lt_or_ge i (ts++[t]).length with h|h
       ·exact h
       ·rw[List.getElem?_eq_none h] at ht';cases ht'
      have hik:i=k:=by rw[List.length_append] at hlen;have:=HTL.out;simp at hlen;omega
      subst hik
      have e1:ns[i]?=some ⟨num,label,bZ,aW⟩:=HYK.out
      rw[e1] at hx
      injection hx with hx
      rw[List.getElem?_append_right (by omega),HTL.out] at ht'
      have e2:t=t':=by simpa using ht'
      rw[←hx,←e2]
      exact HNT3.out
    ·have h1:=HO4.out
     rw[nz]
     exact h1
    ·exact(HB3.out.alloc HB3.out.size _).grown HG4.out (by have h1:=HB3.out.size;simp;omega) (fun b hb=>((HO3.out.alloc (.cells #[.string t] 9)).lt b hb).1)
   case measure=>omega
  ·have hki:¬(k:Int)<(ns.length:Int):=by omega
   obtain rfl:k=ns.length:=by omega
   have g2:wr.cell? ⟨G,2,none⟩=some (.slice ea es.length ec):=(HB.out.cell (block_lt_of_cell HG2.out)).trans HG2.out
   clear hlt
   go_wp2_with fail
   clear g2
   go_loopg [3,30] es.length (fun c lv iv w=>∃(j:Nat),iv=.int .i64 (j:Int)∧j+c=es.length∧w.ownsRow W.heap.size 9 1 lv (ns.length+j) (strs (ts++(es.take j).map bu))∧Below W.heap.size W w)
   case atStart=>exact⟨0,rfl,by omega,by have h1:=HO.out;simpa using h1,HB.out⟩
   case round=>
    obtain⟨j,rfl,hj,ho,hb⟩:=hrel
    have HO:=hid ho
    have HB:=hid hb
    clear ho hb
    by_cases hlt:j<es.length
    ·have hji:(j:Int)<(es.length:Int):=by omega
     obtain⟨g,oo,rfl,hcell⟩:=bY (l:=es) fL (fun _=>rfl) (HSE.out.below HB.out) hlt
     obtain⟨y,hy⟩:∃y,es[j]=y:=⟨_,rfl⟩
     have hym:y∈es:=by rw[←hy];exact List.getElem_mem hlt
     have HTK:Hid (es.take (j+1)=es.take j++[y]):=hid (by rw[List.take_add_one,List.getElem?_eq_getElem hlt,hy];rfl)
     rw[hy] at hcell
     have HQ1:=hid (And.intro (HOK.out.ends y hym) (HOK.out.ty y hym))
     have HET:Hid (bu y=bu ⟨y.type,y.src,y.dst⟩):=hid rfl
     obtain⟨ty,src,dst⟩:=y
     simp only at HQ1
     have p0:wr.cell? ⟨g,oo+j*3,none⟩=some (.string ty):=hcell 0 (by decide)
     have p1:wr.cell? ⟨g,oo+j*3+1,none⟩=some (.int .i64 src):=hcell 1 (by decide)
     have p2:wr.cell? ⟨g,oo+j*3+2,none⟩=some (.int .i64 dst):=hcell 2 (by decide)
     have HB2:=hid (HB.out.alloc HB.out.size (.cells #[.string ty,.int .i64 src,.int .i64 dst] 142))
     have HO2:=hid (HO.out.alloc (.cells #[.string ty,.int .i64 src,.int .i64 dst] 142))
     have HZ2:=hid (Loc.new wr #[.string ty,.int .i64 src,.int .i64 dst] 142)
     clear hcell hy hym HB HO HET
     go_upto_region 10 with fail
     obtain⟨Z,hZ⟩:∃Z,Z=wr.heap.size:=⟨_,rfl⟩
     rw[←hZ] at HZ2⊢
     clear hZ p0 p1 p2
     generalize wr.alloc (.cells #[.string ty,.int .i64 src,.int .i64 dst] 142)=W2 at HB2 HO2 HZ2⊢
     have z0:=HZ2.out.at_ 0 (.string ty) rfl
     have z1:=HZ2.out.at_ 1 (.int .i64 src) rfl
     have z2:=HZ2.out.at_ 2 (.int .i64 dst) rfl
     have HNX:=hid (vb (x:=⟨ty,src,dst⟩) HQ1.out.1.1 HQ1.out.1.2 HQ1.out.2 (HT.out.below HB2.out))
     simp only at HNX
     obtain⟨t,ht⟩:∃t,bu ⟨ty,src,dst⟩=t:=⟨_,rfl⟩
     rw[ht] at HNX
     have HTT:=hid ht
     clear ht
     go_wp2_with fail
     refine HNX.out.mono ?_
     rintro e W3 ⟨rfl,hb3⟩
     have HO3:=hid (HO2.out.kept (af hb3 none) (by cases (Value.ownBlock _)<;>simp))
     have HB3:=hid (HB2.out.trans (hb3.mono HB2.out.size))
     clear hb3 z0 z1 z2 HNX HB2 HO2 HZ2
     go_wp2_with (at_builtin;go_must (refine wpList_append_own _ rfl _ _ 56 rfl W.heap.size 9 i1 (.string ⟨#[]⟩) 1 16 Tryz.underlying56 HI0.out.1 HI0.out.2.1 HI0.out.2.2.1 HI0.out.2.2.2 rfl (by decide) _ _ _ rfl (HO3.out.alloc _) ⟨W3.heap.size,0,none⟩ 1 1 [.string t] rfl rfl (World.news_of_block (heap_alloc_new W3 _)) (by simp[Value.oneCell']) (by unfold maxLen;omega) (by omega) (by have h1:=HB3.out.size;simp;omega) ?_);intro v4 w4 hown hgrow _;have HO4:=hid hown;have HG4:=hid hgrow;clear hown hgrow)
     go_roundg (gk - 1)
     case rel=>
      refine⟨j+1,by simp,by omega,?_,?_⟩
      ·have h1:=HO4.out
       rw[HTK.out,List.map_append,←List.append_assoc,nz,List.map_singleton,HTT.out]
       exact h1
      ·exact(HB3.out.alloc HB3.out.size _).grown HG4.out (by have h1:=HB3.out.size;simp;omega) (fun b hb=>((HO3.out.alloc (.cells #[.string t] 9)).lt b hb).1)
     case measure=>omega
    ·have hji:¬(j:Int)<(es.length:Int):=by omega
     obtain rfl:j=es.length:=by omega
     go_wp2_with fail
     go_ret
     refine⟨_,rfl,ts++es.map bu,?_,⟨ts,HTL.out,HNT.out,rfl⟩,HB.out⟩
     have h1:=HO.out
     rw[List.take_of_length_le (Nat.le_refl _)] at h1
     rw[List.length_append,List.length_map,HTL.out]
     exact h1
end
section
open Go.RowKit
def qx (rl qad:List UInt8):Bool:=qad.isPrefixOf rl&&(match rl.drop qad.length with|[]=>true|c::_=>c==32)
theorem iB:∀(wl qad tail:List UInt8),(∀c∈wl,c≠32)→(∀c∈qad,c≠32)→(tail=[]∨∃t,tail=32::t)→qx (wl++tail) qad=decide (wl=qad)
 | [],[],tail,_,_,ht=>by
  unfold qx
  rcases ht with rfl|⟨t,rfl⟩<;>simp
 | [],c::qad,tail,_,hl,ht=>by
  unfold qx
  rcases ht with rfl|⟨t,rfl⟩
  ·simp
  ·have h1:c≠32:=hl c List.mem_cons_self
   simp[List.isPrefixOf,h1]
 | a::wl,[],tail,hw,_,_=>by
  unfold qx
  have h1:a≠32:=hw a List.mem_cons_self
  simp[h1]
 | a::wl,c::qad,tail,hw,hl,ht=>by
  have ih:=iB wl qad tail (fun x hx=>hw x (List.mem_cons_of_mem _ hx)) (fun x hx=>hl x (List.mem_cons_of_mem _ hx)) ht
  unfold qx at ih⊢
  by_cases e:c=a
  ·subst e
   simp only[List.cons_append,List.isPrefixOf,beq_self_eq_true,Bool.true_and,List.length_cons,List.drop_succ_cons]
   rw[ih]
   simp
  ·have e':¬a=c:=fun h=>e h.symm
   simp[List.isPrefixOf,e,e']
theorem dp (s:ByteArray) (k:Nat):bt s k=(s.data.toList[k]?).elim (-1) (fun c=>(c.toNat:Int)):=by
 unfold bt
 split
 ·rename_i h
  have h1:k<s.data.toList.length:=by rw[Array.length_toList];exact h
  rw[List.getElem?_eq_getElem h1]
  rfl
 ·rename_i h
  rw[List.getElem?_eq_none (by rw[Array.length_toList];exact Nat.le_of_not_lt h)]
  rfl
theorem u1 (rs wy:ByteArray):di rs wy=qx rs.data.toList wy.data.toList:=by
 unfold di qx
 have hr:rs.size=rs.data.toList.length:=by rw[Array.length_toList];rfl
 have hl:wy.size=wy.data.toList.length:=by rw[Array.length_toList];rfl
 have hx:(rs.extract 0 wy.size).toList=rs.data.toList.take wy.data.toList.length:=by
  rw[ByteArray.toList_eq,ByteArray.data_extract,Array.toList_extract,hl]
  simp
 rw[hx,ByteArray.toList_eq wy,hr,dp,hl]
 generalize rs.data.toList=rl
 generalize wy.data.toList=qad
 by_cases h1:qad.length≤rl.length
 ·rw[if_pos h1]
  by_cases h2:rl.take qad.length=qad
  ·have h3:qad.isPrefixOf rl=true:=by rw[List.isPrefixOf_iff_prefix,List.prefix_iff_eq_take];exact h2.symm
   rw[if_pos (by simpa using h2),h3,Bool.true_and]
   by_cases h4:rl.length=qad.length
   ·rw[if_pos h4,List.drop_eq_nil_of_le (by omega)]
   ·rw[if_neg h4]
    have h5:qad.length<rl.length:=by omega
    rw[List.getElem?_eq_getElem h5,List.drop_eq_getElem_cons h5]
    simp only[Option.elim]
    rw[Bool.eq_iff_iff]
    constructor
    ·intro h
     have h7:(rl[qad.length].toNat:Int)=((32:UInt8).toNat:Int):=of_decide_eq_true h
     exact beq_iff_eq.2 (UInt8.toNat_inj.1 (by omega))
    ·intro h
     have h7:=beq_iff_eq.1 h
     exact decide_eq_true (by rw[h7];rfl)
  ·have h3:qad.isPrefixOf rl=false:=by
    cases hh:qad.isPrefixOf rl with
    | false=>rfl
    | true=>rw[List.isPrefixOf_iff_prefix,List.prefix_iff_eq_take] at hh;exact absurd hh.symm h2
   rw[if_neg (by simpa using h2),h3];rfl
 ·have h3:qad.isPrefixOf rl=false:=by
   cases hh:qad.isPrefixOf rl with
   | false=>rfl
   | true=>rw[List.isPrefixOf_iff_prefix] at hh;exact absurd hh.length_le h1
  rw[if_neg h1,h3];rfl
def th (w:ByteArray):Prop:=∀c∈w.data.toList,c≠32
theorem lI (n:Int):th (dB n):=by
 have h10:∀i,i<10→UInt8.ofNat (48+i)≠32:=by decide
 have hd:∀u:Nat,∀c∈Lib.decDigits u,c≠32:=by
  intro u
  induction u using Nat.strongRecOn with
  | ind u ih=>
   intro c hc
   rw[Lib.decDigits] at hc
   split at hc
   ·rename_i h
    rw[List.mem_singleton.1 hc];exact h10 u h
   ·rename_i h
    rcases List.mem_append.1 hc with hc|hc
    ·exact ih (u / 10) (by omega) c hc
    ·rw[List.mem_singleton.1 hc];exact h10 _ (by omega)
 intro c hc
 have e:(dB n).data.toList=Lib.itoa n:=by simp[dB]
 rw[e] at hc
 unfold Lib.itoa at hc
 split at hc
 ·rcases List.mem_cons.1 hc with rfl|hc
  ·decide
  ·exact hd _ c hc
 ·exact hd _ c hc
theorem gA {s:ByteArray} (h:isWord s=true):th s:=by
 unfold isWord at h
 simp only[Bool.and_eq_true,decide_eq_true_eq] at h
 intro c hc e
 obtain⟨j,hj,rfl⟩:=List.getElem_of_mem hc
 have hjs:j<s.size:=by rw[Array.length_toList] at hj;exact hj
 have h1:=h.2 j hjs
 rw[dp,List.getElem?_eq_getElem hj,e] at h1
 revert h1
 decide
theorem ky {d w wy:ByteArray} {r:List ByteArray} (hd:th d) (hw:th w) (hl:th wy):d.size<(ba (d::w::r)).size∧bt (ba (d::w::r)) d.size=32∧(∀k,k<d.size→bt (ba (d::w::r)) k≠32)∧di ((ba (d::w::r)).extract (d.size+1) (ba (d::w::r)).size) wy=decide (w=wy):=by
 obtain⟨tail,ht,hj⟩:∃tail,(tail=[]∨∃t,tail=32::t)∧(ba (d::w::r)).data.toList=d.data.toList++32::(w.data.toList++tail):=by
  have h1:(ba (d::w::r)).data.toList=iy (d::w::r):=by unfold ba iy;simp;rfl
  refine⟨Pure.ju r,?_,?_⟩
  ·cases r with
   | nil=>exact Or.inl Pure.o5
   | cons a r=>exact Or.inr ⟨_,Pure.nj a r⟩
  ·rw[h1,Pure.qR,Pure.nj];rfl
 generalize ba (d::w::r)=s at hj⊢
 have hs:s.size=s.data.toList.length:=by rw[Array.length_toList];rfl
 have hds:d.size=d.data.toList.length:=by rw[Array.length_toList];rfl
 refine⟨by rw[hs,hj,hds];simp,?_,fun k hk=>?_,?_⟩
 ·rw[dp,hj,hds,List.getElem?_append_right (Nat.le_refl _)]
  simp
 ·rw[hds] at hk
  rw[dp,hj,List.getElem?_append_left hk,List.getElem?_eq_getElem hk]
  simp only[Option.elim]
  intro e
  exact hd _ (List.getElem_mem hk) (UInt8.toNat_inj.1 (by have:(d.data.toList[k].toNat:Int)=((32:UInt8).toNat:Int):=e;omega))
 ·rw[u1]
  have e:(s.extract (d.size+1) s.size).data.toList=w.data.toList++tail:=by
   rw[ByteArray.data_extract,Array.toList_extract,hs,hj,hds]
   rw[List.extract_eq_take_drop,List.drop_append,List.drop_eq_nil_of_le (by omega),List.nil_append]
   have e2:d.data.toList.length+1 - d.data.toList.length=1:=by omega
   rw[e2,List.drop_succ_cons,List.drop_zero]
   exact List.take_of_length_le (by simp;omega)
  rw[e,iB _ _ _ hw hl ht]
  rw[Bool.eq_iff_iff]
  simp only[decide_eq_true_eq]
  constructor
  ·intro h;cases w;cases wy;simp only[ByteArray.mk.injEq];exact Array.toList_inj.1 h
  ·intro h;rw[h]
end
namespace Pure
theorem Lz:e0.toList.isEmpty=true:=dY
theorem LA:(⟨#[65]⟩:ByteArray).toList.isEmpty=false:=kq z6
end Pure
def hH:ByteArray:=⟨#[72]⟩
section
open Go.RowKit Go.Maps Go.Sort
theorem tw {a b:ByteArray} (h:(a.toList==b.toList)=true):a=b:=by
 have h1:a.toList=b.toList:=by simpa using h
 rw[ByteArray.toList_eq,ByteArray.toList_eq] at h1
 cases a;cases b
 simp only[ByteArray.mk.injEq]
 exact Array.toList_inj.1 h1
theorem zi {S:aI→Bool} {ns:List aq} {x:aq} (h:x∈gq S ns):∃y∈ns,rW S y=true∧y.num=x.num∧y.label=x.label:=by
 unfold gq dP at h
 rw[List.map_map] at h
 obtain⟨y,hy,rfl⟩:=List.mem_map.1 h
 obtain⟨h1,h2⟩:=List.mem_filter.1 hy
 exact⟨y,h1,h2,rfl,rfl⟩
theorem xl {S:aI→Bool} {ns:List aq} {n:Int} {l:ByteArray} (hl:l.toList.isEmpty=false) (h:mJ (gq S ns) n l=true):∃y∈ns,y.num=n∧y.label=l:=by
 unfold mJ at h
 rw[hl,Bool.false_or] at h
 cases hx:nodeAt (gq S ns) n with
 | none=>
  rw[hx] at h
  have h2:l=e0:=tw h
  rw[h2,Pure.Lz] at hl
  cases hl
 | some x=>
  rw[hx] at h
  obtain⟨y,h1,_,h2,h3⟩:=zi (mm hx)
  exact⟨y,h1,h2.trans (tO hx),h3.trans (tw h).symm⟩
theorem tH:∀{ns:List aq},ns.Pairwise (fun a b=>a.num<b.num)→∀{x y:aq},x∈ns→y∈ns→x.num=y.num→x=y
 | [],_,_,_,hx,_,_=>by cases hx
 | a::r,h,x,y,hx,hy,e=>by
  obtain⟨h1,h2⟩:=List.pairwise_cons.1 h
  rcases List.mem_cons.1 hx with ex|hx'
  ·rcases List.mem_cons.1 hy with ey|hy'
   ·rw[ex,ey]
   ·have:=h1 y hy';rw[ex] at e;omega
  ·rcases List.mem_cons.1 hy with ey|hy'
   ·have:=h1 x hx';rw[ey] at e;omega
   ·exact tH h2 hx' hy' e
def xd (ns:List aq) (l:ByteArray) (n:Int):Prop:=∀x∈ns,x.num=n→x.label=l
theorem F6 {S:aI→Bool} {ns:List aq} {n:Int} {l:ByteArray} (hs:ns.Pairwise (fun a b=>a.num<b.num)) (hl:l.toList.isEmpty=false) (h:mJ (gq S ns) n l=true):xd ns l n:=by
 obtain⟨y,h1,h2,h3⟩:=xl hl h
 intro x hx e
 rw[tH hs hx h1 (e.trans h2.symm)]
 exact h3
theorem vk {ns:List aq} {n:Int} {k:ByteArray} {v:Option Int} {y:aq} (h:y∈iQ ns n k v):∃x∈ns,x.num=y.num∧x.label=y.label:=by
 unfold iQ at h
 obtain⟨x,hx,rfl⟩:=List.mem_map.1 h
 refine⟨x,hx,?_⟩
 split<;>exact⟨rfl,rfl⟩
variable {g:oJ} {b:Int}
end
section
open Go.RowKit Go.Maps Go.Sort
structure qae (g:oJ):Prop where
 wy:∀x∈g.ns,cD x.label=true
 key:∀x∈g.ns,∀s,(x.aW s).isSome=true→s.size≤8
 ty:∀x∈g.es,x.type=tB∨x.type=uB
theorem j6 {s:ByteArray} (h:bN s=true):isWord s=true:=by
 unfold bN at h
 simp only[Bool.and_eq_true] at h
 exact h.1
theorem mN {s:ByteArray} (h:cD s=true):isWord s=true:=by
 unfold cD at h
 simp only[Bool.and_eq_true] at h
 exact h.1.1
theorem cr {s:ByteArray} (h:isWord s=true):s.size≤8:=by
 unfold isWord at h
 simp only[Bool.and_eq_true,decide_eq_true_eq] at h
 exact h.1.1.2
theorem B2 {t:ByteArray} (h:SR (7,t,⟨#[]⟩)=true):t=tB∨t=uB:=by
 rw[Ks] at h
 simpa [GF,tB,uB] using h
theorem E0 {t:ByteArray} (h:SG (7,t,⟨#[]⟩)=true):t=tB∨t=uB:=by
 rw[FI] at h
 exact Or.inl (by simpa [Ar,tB] using h)
theorem F0 {t:ByteArray} (h:SG (4,t,⟨#[]⟩)=true):t=⟨#[65]⟩:=by
 rw[FI] at h
 simpa [Ar] using h
theorem Lt {t k:ByteArray} (h:SG (5,t,k)=true):t=⟨#[65]⟩:=by
 rw[FI] at h
 have h1:t=⟨#[65]⟩∧k=⟨#[107]⟩:=by simpa [Ar] using h
 exact h1.1
theorem B1 {t:ByteArray} (h:SG (6,t,⟨#[]⟩)=true):t=⟨#[65]⟩:=by
 rw[FI] at h
 simpa [Ar] using h
theorem ft:∀(l:List dR) (f:ByteArray→Option Int) (s:ByteArray),((l.foldl (fun f p=>fD f p.key (some p.val)) f) s).isSome=true→(f s).isSome=true∨∃p∈l,p.key=s
 | [],f,s,h=>Or.inl h
 | p::r,f,s,h=>by
  rcases ft r _ s h with h1|⟨q,hq,e⟩
  ·simp only[fD] at h1
   split at h1
   ·rename_i e
    exact Or.inr ⟨p,List.mem_cons_self,e.symm⟩
   ·exact Or.inl h1
  ·exact Or.inr ⟨q,List.mem_cons_of_mem _ hq,e⟩
theorem pp {ns:List aq} {n:Int} {k:ByteArray} {v:Option Int} {y:aq} (h:y∈iQ ns n k v):∃x∈ns,x.label=y.label∧∀s,(y.aW s).isSome=true→(x.aW s).isSome=true∨s=k:=by
 unfold iQ at h
 obtain⟨x,hx,rfl⟩:=List.mem_map.1 h
 refine⟨x,hx,?_⟩
 split
 ·refine⟨rfl,fun s hs=>?_⟩
  simp only[fD] at hs
  split at hs
  ·rename_i e;exact Or.inr e
  ·exact Or.inl hs
 ·exact⟨rfl,fun s hs=>Or.inl hs⟩
theorem x7 {sn:List aq} {q:au} (hk:q.key.size≤8):∀(l:List Int) (ns:List aq),(∀x∈ns,cD x.label=true∧∀s,(x.aW s).isSome=true→s.size≤8)→∀x∈dh sn q ns l,cD x.label=true∧∀s,(x.aW s).isSome=true→s.size≤8
 | [],ns,h=>h
 | n::r,ns,h=>x7 hk r (iQ ns n q.key (eH sn q.value n)) (fun y hy=>by
  obtain⟨x,hx,h1,h2⟩:=pp hy
  refine⟨by rw[←h1];exact(h x hx).1,fun s hs=>?_⟩
  rcases h2 s hs with h3|h3
  ·exact(h x hx).2 s h3
  ·rw[h3];exact hk)
theorem Lx {S:aI→Bool} (h7:∀t,S (7,t,⟨#[]⟩)=true→t=tB∨t=uB) {g:oJ} {q:au} {b:Int} (h:qae g) (hq:mM q∨kz q∨km q∨iS q):qae (tA S g q b).2.2:=by
 unfold tA
 rcases hq with hq|hq|hq|hq
 ·have hk:=(qj hq).2.1
  rw[if_neg (by rw[hk];decide),if_neg (by rw[hk];decide),if_pos hk]
  unfold D8
  split
  ·split
   ·have h1:=x7 (sn:=gq S g.ns) (q:=q) (cr (j6 hq.2.2.1)) (fQ q.name (iD S g q b).rows) g.ns (fun x hx=>⟨h.wy x hx,h.key x hx⟩)
    exact⟨fun x hx=>(h1 x hx).1,fun x hx=>(h1 x hx).2,h.ty⟩
   ·exact h
  ·exact h
 ·have hk:=(ol hq).2.1
  rw[if_neg (by rw[hk];decide),if_neg (by rw[hk];decide),if_neg (by rw[hk];decide)]
  unfold BK
  split
  ·split
   ·exact⟨fun x hx=>h.wy x (List.mem_filter.1 hx).1,fun x hx=>h.key x (List.mem_filter.1 hx).1,fun x hx=>h.ty x (List.mem_filter.1 hx).1⟩
   ·exact h
  ·exact h
 ·have hk:=(og hq).2.1
  rw[if_neg (by rw[hk];decide),if_pos hk]
  unfold BL
  split
  ·split
   ·rename_i h1
    split
    ·refine⟨h.wy,h.key,fun x hx=>?_⟩
     rcases List.mem_append.1 hx with hx|hx
     ·exact h.ty x hx
     ·obtain⟨p,_,rfl⟩:=List.mem_map.1 hx
      exact h7 _ h1
    ·exact h
   ·exact h
  ·exact h
 ·have hk:=(mQ hq).1
  rw[if_pos hk]
  unfold ER
  split
  ·refine⟨fun x hx=>?_,fun x hx s hs=>?_,h.ty⟩
   ·rcases List.mem_append.1 hx with hx|hx
    ·exact h.wy x hx
    ·rw[List.mem_singleton.1 hx];exact hq.1
   ·rcases List.mem_append.1 hx with hx|hx
    ·exact h.key x hx s hs
    ·rw[List.mem_singleton.1 hx] at hs
     rcases ft q.ay _ s hs with h1|⟨p,hp,e⟩
     ·cases h1
     ·rw[←e];exact cr (j6 (hq.2.1 p hp).1)
  ·exact h
theorem tV {t:ByteArray} (he:(parseText (fg t)).2=0):jk (parseText (fg t)).1:=by
 rcases qU t with h1|h1|h1
 ·exact h1.2.1
 ·rw[h1] at he;cases he
 ·rw[h1] at he;cases he
theorem b9 (pol:List cU) (g:oJ) (role t:ByteArray) (b:Int):((lK pol g role t b).2=g∧((lK pol g role t b).1.2≠0→(lK pol g role t b).1.1=[]))∨∃r q,jg pol role=some r∧(mM q∨kz q∨km q∨iS q)∧lK pol g role t b=(Jm r.2.2 g q (uj b),(tA r.2.2 g q (uj b)).2.2):=by
 unfold lK
 cases hf:jg pol role with
 | none=>exact Or.inl ⟨rfl,fun _=>rfl⟩
 | some r=>
  simp only
  by_cases he:(parseText (fg t)).2=0
  ·rw[if_pos he]
   have hg:=tV he
   generalize (parseText (fg t)).1=q at hg
   unfold uq
   split
   ·refine Or.inl ⟨rfl,fun h=>?_⟩
    rcases ri (ns:=gq r.2.2 g.ns) (es:=jS r.2.2 g.ns g.es) (q:=q) (a:=uj b) with h1|h1
    ·exact absurd h1 h
    ·simp only;rw[h1]
   ·rename_i h1
    split
    ·exact Or.inl ⟨rfl,fun _=>rfl⟩
    ·rename_i h6
     refine Or.inr ⟨r,q,rfl,?_,rfl⟩
     rcases hg with h|h|h|h|h|h
     ·exact absurd (Cq h).2.2 h1
     ·exact Or.inl h
     ·exact Or.inr (Or.inl h)
     ·exact Or.inr (Or.inr (Or.inl h))
     ·exact Or.inr (Or.inr (Or.inr h))
     ·exact absurd (wO h).1 h6
  ·rw[if_neg he]
   exact Or.inl ⟨rfl,fun _=>rfl⟩
theorem ti {b1 b2:Nat} {g:oJ} (h:qae g) (role t:ByteArray) (b:Int):qae (lK [(fH,b1,SR),(fm,b2,SG)] g role t b).2:=by
 rcases b9 [(fH,b1,SR),(fm,b2,SG)] g role t b with ⟨h1,_⟩|⟨r,q,hf,hq,e⟩
 ·rw[h1];exact h
 ·rw[e]
  have hm:=List.mem_of_find?_eq_some hf
  refine Lx (fun t ht=>?_) h hq
  rcases List.mem_cons.1 hm with rfl|hm
  ·exact B2 ht
  ·rw[List.mem_singleton.1 hm] at ht;exact E0 ht
theorem qae.cM {ns ns':List aq} {es:List aJ} {l l':Int} (h:qae ⟨ns,es,l⟩) (e:ns'.map de=ns.map de):qae ⟨ns',es,l'⟩:=by
 have hm:∀x∈ns',∃y∈ns,y.label=x.label∧y.aW=x.aW:=fun x hx=>by
  have h1:de x∈ns.map de:=by rw[←e];exact List.mem_map_of_mem hx
  obtain⟨y,hy,e2⟩:=List.mem_map.1 h1
  unfold de at e2
  simp only[aq.mk.injEq,true_and] at e2
  exact⟨y,hy,e2.2.1,e2.2.2⟩
 refine⟨fun x hx=>?_,fun x hx s hs=>?_,h.ty⟩
 ·obtain⟨y,hy,e1,_⟩:=hm x hx
  rw[←e1];exact h.wy y hy
 ·obtain⟨y,hy,_,e2⟩:=hm x hx
  exact h.key y hy s (by rw[e2];exact hs)
theorem F5 {S:aI→Bool} {g:oJ} {q:au} {b:Int} (h:(Jm S g q b).2≠0):(tA S g q b).2.2=g∧(Jm S g q b).1=[]:=by
 unfold Jm at h⊢
 split at h
 ·exact absurd rfl h
 ·rename_i h0
  rw[if_neg h0]
  refine⟨?_,rfl⟩
  revert h0
  unfold tA
  split
  ·unfold ER
   split
   ·intro h;exact absurd rfl h
   ·intro _;rfl
  ·split
   ·unfold BL
    split
    ·split
     ·split
      ·intro h;exact absurd rfl h
      ·intro _;rfl
     ·intro _;rfl
    ·intro _;rfl
   ·split
    ·unfold D8
     split
     ·split
      ·intro h;exact absurd rfl h
      ·intro _;rfl
     ·intro _;rfl
    ·unfold BK
     split
     ·split
      ·intro h;exact absurd rfl h
      ·intro _;rfl
     ·intro _;rfl
theorem F3 {pol:List cU} {g:oJ} {role t:ByteArray} {b:Int} (h:(lK pol g role t b).1.2≠0):(lK pol g role t b).2=g∧(lK pol g role t b).1.1=[]:=by
 rcases b9 pol g role t b with ⟨h1,h2⟩|⟨r,q,_,_,e⟩
 ·exact⟨h1,h2 h⟩
 ·rw[e] at h⊢
  exact F5 h
def qaf (x:aq):Bool:=!(decide (x.label=⟨#[65]⟩))
theorem A4 {n:Int} {k:ByteArray} {v:Option Int}:∀{ns:List aq},(∀x∈ns,x.num=n→x.label=⟨#[65]⟩)→(iQ ns n k v).filter qaf=ns.filter qaf
 | [],_=>rfl
 | x::r,h=>by
  have ih:=A4 (k:=k) (v:=v) (fun y hy=>h y (List.mem_cons_of_mem _ hy))
  unfold iQ at ih⊢
  rw[List.map_cons,List.filter_cons,List.filter_cons,ih]
  by_cases e:x.num=n
  ·have hl:=h x List.mem_cons_self e
   rw[if_pos e]
   have h1:qaf {x with aW:=fD x.aW k v}=false:=by unfold qaf;simp[hl]
   have h2:qaf x=false:=by unfold qaf;simp[hl]
   rw[h1,h2];simp
  ·rw[if_neg e]
theorem iK {sn:List aq} {q:au}:∀{l:List Int} {ns:List aq},(∀n∈l,∀x∈ns,x.num=n→x.label=⟨#[65]⟩)→(dh sn q ns l).filter qaf=ns.filter qaf
 | [],_,_=>rfl
 | n::r,ns,h=>by
  have e:dh sn q ns (n::r)=dh sn q (iQ ns n q.key (eH sn q.value n)) r:=rfl
  rw[e,iK (fun m hm y hy ey=>?_),A4 (fun x hx ex=>h n List.mem_cons_self x hx ex)]
  obtain⟨x,hx,h1,h2⟩:=vk hy
  rw[←h2]
  exact h m (List.mem_cons_of_mem _ hm) x hx (h1.trans ey)
theorem F7 {g:oJ} (hs:g.ns.Pairwise (fun a b=>a.num<b.num)) {n:Int} (h:jU (gq SG g.ns) n=⟨#[65]⟩):xd g.ns ⟨#[65]⟩ n:=by
 refine F6 (S:=SG) hs Pure.LA ?_
 unfold mJ
 unfold jU at h
 rw[h]
 simp
theorem FD {g:oJ} {q:au} {b:Int} (hs:g.ns.Pairwise (fun a b=>a.num<b.num)):(tA SG g q b).2.2.ns.filter qaf=g.ns.filter qaf:=by
 unfold tA
 split
 ·unfold ER
  split
  ·rename_i h
   have h4:q.label=⟨#[65]⟩:=by
    unfold iH at h
    split at h
    ·cases h
    ·split at h
     ·rename_i h1
      unfold gI at h1
      rw[Bool.and_eq_true] at h1
      exact F0 h1.2
     ·cases h
   rw[List.filter_append]
   have h5:qaf ⟨g.last+1,q.label,0,lj q.ay⟩=false:=by unfold qaf;simp[h4]
   rw[List.filter_cons,h5]
   simp
  ·rfl
 ·split
  ·unfold BL
   split
   ·split
    ·split<;>rfl
    ·rfl
   ·rfl
  ·split
   ·unfold D8
    split
    ·split
     ·rename_i h
      refine iK (fun n hn x hx e=>?_)
      unfold gX at h
      have h1:=List.all_eq_true.1 h n hn
      exact F7 hs (Lt h1) x hx e
     ·rfl
    ·rfl
   ·unfold BK
    split
    ·split
     ·rename_i h
      rw[Bool.and_eq_true] at h
      have h0:=h.1
      unfold gX at h0
      simp only
      rw[List.filter_filter]
      refine List.filter_congr fun x hx=>?_
      cases hn:qaf x with
      | false=>rfl
      | true=>
       rw[Bool.true_and]
       cases hc:cW (fQ q.name (iD SG g q b).rows) x.num with
       | false=>rfl
       | true=>
        have hm:x.num∈fQ q.name (iD SG g q b).rows:=by unfold cW at hc;simpa using hc
        have h1:=F7 hs (B1 (List.all_eq_true.1 h0 _ hm)) x hx rfl
        unfold qaf at hn
        rw[h1] at hn
        simp at hn
     ·rfl
    ·rfl
theorem yi {b1 b2:Nat} {g:oJ} (hs:g.ns.Pairwise (fun a b=>a.num<b.num)) (t:ByteArray) (b:Int):(lK [(fH,b1,SR),(fm,b2,SG)] g fm t b).2.ns.filter qaf=g.ns.filter qaf:=by
 rcases b9 [(fH,b1,SR),(fm,b2,SG)] g fm t b with ⟨h1,_⟩|⟨r,q,hf,_,e⟩
 ·rw[h1]
 ·rw[AI] at hf
  injection hf with hf
  rw[e,←hf]
  exact FD hs
end
end Go.Proofs.YtobgbmfpicmpcaaGreatDoor
