/- A policy while it is read: addRole, addRight. -/
import Derived.Test.YtobgbmfpicmpcaaGreatDoorC05
import Derived.Test.YtobgbmfpicmpcaaGreatDoorC07
import Derived.OwnWalk
import Derived.Lib.SplitLaws
import Derived.Lib.ReplaceLaws
import Derived.Shelf.LaysM
import Derived.Shelf.Strconv.Clone
import Derived.Shelf.LaysC
import Derived.Shelf.Strconv.AtoiAll
import Derived.Shelf.Strings.Prefix
import Derived.Test.YtobgbmfpicmpcaaGreatDoorProg
import Derived.Test.YtobgbmfpicmpcaaGreatDoorC01
import Derived.Lib.Hide
set_option maxRecDepth 100000
set_option maxHeartbeats 8000000
namespace Go.Proofs.YtobgbmfpicmpcaaGreatDoor
open Go.Lib (hid)
section
open Go.RowKit Go.Maps
theorem bm.kept {W w:World} {b n:Nat} {S:aI→Bool} {row:Option Nat} (h:bm W b n S) (hg:W.grownBy w row) (hne:some b≠row):bm w b n S:=by
 obtain⟨D,ho,hS⟩:=h
 exact⟨D,ho.kept hg hne,hS⟩
theorem bm.more {W:World} {b n m:Nat} {S:aI→Bool} (h:bm W b n S) (hn:n≤m):bm W b m S:=by
 obtain⟨D,ho,hS⟩:=h
 exact⟨D,ho.mono hn,hS⟩
theorem bm.lt {W:World} {b n:Nat} {S:aI→Bool} (h:bm W b n S):b<W.heap.size:=by
 obtain⟨D,ho,hS⟩:=h
 exact ho.lt
theorem bm.isMap {W:World} {b n:Nat} {S:aI→Bool} (h:bm W b n S):∃es c,W.heap[b]?=some (.map es c):=by
 obtain⟨D,⟨es,c,hb,_⟩,_⟩:=h
 exact⟨es,c,hb⟩
theorem bm.made (W:World) (n:Nat):bm (W.alloc (.map #[] 0)) W.heap.size n (fun _=>false):=
 ⟨.map [],(World.ownsMap_made W _ _ _).mono (Nat.zero_le _),fun _ _=>rfl⟩
theorem bm.aV {W:World} {b n g:Nat} {S:aI→Bool} (h:bm W b n S) {cs:Array Value} {T:TypeId} {f:Nat × Nat} (hg:W.heap[g]?=some (.cells cs T f)):b≠g:=by
 obtain⟨es,c,hb⟩:=h.isMap
 intro e
 subst e
 rw[hb] at hg
 cases hg
theorem bm.eh {W:World} {b n:Nat} {S:aI→Bool} (h:bm W b n S) {B k m:Nat} {T:TypeId} {v:Value} {xs:List Value} (ho:W.ownsRow B T k v m xs):some b≠v.ownBlock:=by
 rcases ho.2 with ⟨rfl,_⟩|⟨g,cap,cur,rfl,_,hg,_⟩
 ·simp[Value.ownBlock]
 ·intro e
  injection e with e
  exact h.aV hg e
structure fq (W0:World) (X:Nat) (l:List cU) (m:Nat) (W:World):Prop where
 list:∃v,Loc W X #[v] 122∧W.ownsRow W0.heap.size 118 2 v l.length (l.flatMap kL)
 right:∀x∈l,bm W x.2.1 m x.2.2
 apart:(l.map (·.2.1)).Nodup
 low:∀x∈l,W0.heap.size≤x.2.1
 frame:W0.grownBy W (some X)
theorem kv {a b c:World} {r r':Option Nat} (h:a.grownBy b r) (k:b.grownBy c r') (hr:∀j,r'=some j→a.heap.size≤j):a.grownBy c r:=
 ⟨k.os.trans h.os,k.tape.trans h.tape,k.output.trans h.output,Nat.le_trans h.size k.size,fun j hj hjr=>(k.block j (Nat.lt_of_lt_of_le hj h.size) (fun e=>absurd (hr j e.symm) (by omega))).trans (h.block j hj hjr)⟩
theorem fq.later {W0 W w:World} {X m:Nat} {l:List cU} (h:fq W0 X l m W) (hb:Below W.heap.size W w):fq W0 X l m w:=by
 obtain⟨v,hx,ho⟩:=h.list
 have g:=af hb none
 exact⟨⟨v,hx.grown g (by simp),ho.kept g (by cases v.ownBlock<;>simp)⟩,fun x hxl=>(h.right x hxl).kept g (by simp),h.apart,h.low,kv h.frame g (by simp)⟩
end
section
open Go.RowKit Go.Maps
def eZ (s:ByteArray):ByteArray:=⟨(Lib.trimPrefix s.data.toList [114,111,108,101,32]).toArray⟩
def jt (s:ByteArray):Bool:=Lib.hasPrefix s.data.toList [114,111,108,101,32]
def kZ (l:List cU) (s:ByteArray):Bool:=jt s&&(bj (eZ s)==1)&&!(l.length==6)&&(jg l (eZ s)).isNone
theorem B9 (s:ByteArray) (w:World):Calls Tryz.prog 226 #[.string s,.string ⟨#[114,111,108,101,32]⟩] w fun e w'=>e=.returned (.tuple #[.string (eZ s),.bool (jt s)])∧w'=w:=
 Tryz.strings_CutPrefix s ⟨#[114,111,108,101,32]⟩ w
theorem zy {w:World} {B k n:Nat} {T:TypeId} {v:Value} {xs:List Value} (h:w.ownsRow B T k v (n+1) xs):∃g cap,v=.slice (some ⟨g,0,none⟩) (n+1) cap:=by
 rcases h.2 with ⟨_,h0⟩|⟨g,cap,cur,rfl,_⟩
 ·omega
 ·exact⟨g,cap,rfl⟩
theorem Da {w:World} {a b:Value} {T:TypeId}:∀(j:Nat) (u:Value),[a,b][j]?=some u→(w.alloc (.cells #[a,b] T)).cell? ((⟨w.heap.size,0,none⟩:Addr).add j)=some u:=by
 intro j u hj
 match j,hj with
 | 0,hj=>simp at hj;subst hj;simp[Addr.add]
 | 1,hj=>simp at hj;subst hj;simp[Addr.add]
theorem FM {a:ByteArray} {b:Nat}:∀u∈[Value.string a,.map (some b)],u.oneCell'=true:=by
 intro u hu
 simp at hu
 rcases hu with rfl|rfl<;>rfl
theorem Tryz.En:(Tryz.prog.info? 118).map (fun i=>(i.zero,i.size,i.bytes))=some (some (.agg #[.string ⟨#[]⟩,.map none]),2,24):=by kernel_rfl
theorem Dc {W0 W:World} {X m:Nat} {l:List cU} {s:ByteArray} (h:fq W0 X l m W) (hl:l.length≤6) (hr:kZ l s=false):
  Calls Tryz.prog 176 #[.pointer (some ⟨X,0,none⟩),.string s] W fun e W'=>e=.returned (.bool false)∧fq W0 X l m W':=by
 have H:=hid h
 obtain⟨v,hx,ho⟩:=h.list
 have HS:=hid (aP ho ho.1)
 obtain⟨ao,cap,rfl,hcap⟩:=eI HS.out
 have x0:=hx.at_ 0 (.slice ao l.length cap) rfl
 clear h hx ho
 unfold kZ at hr
 go_enter Tryz.func176,Tryz.ntmps176
 go_wp2_with fail
 refine(B9 s W).mono ?_
 rintro e w' ⟨rfl,hw⟩
 obtain rfl:=hw.symm
 generalize jt s=r at hr⊢
 generalize eZ s=nm at hr⊢
 cases r with
 | false=>
  go_wp2_with fail
  go_ret
  exact⟨rfl,H.out⟩
 | true=>
  by_cases hw:bj nm=1
  ·have HW:=hid hw
   clear hw
   by_cases h6:l.length=6
   ·have h6i:((l.length:Int)==6)=true:=by simp;omega
    clear h6 hr
    go_wp2_with (go_at_call 73;refine(eC _ _).mono ?_;rintro e w' ⟨rfl,hw'⟩;obtain rfl:=hw'.symm;rw[HW.out])
    go_ret
    exact⟨rfl,H.out⟩
   ·have h6i:((l.length:Int)==6)=false:=by simp;omega
    obtain⟨y,hy⟩:∃y,jg l nm=some y:=by
     rw[HW.out] at hr
     have h6':(l.length==6)=false:=by simpa using h6
     rw[h6'] at hr
     cases hf:jg l nm with
     | none=>rw[hf] at hr;cases hr
     | some y=>exact⟨y,rfl⟩
    have HY:=hid hy
    clear h6 hr hy
    go_upto_region 4 with (go_at_call 73;refine(eC _ _).mono ?_;rintro e w' ⟨rfl,hw'⟩;obtain rfl:=hw'.symm;rw[HW.out])
    go_wp2_with fail
    refine(Gq hl HS.out).mono ?_
    rintro e W1 ⟨rfl,hb⟩
    have H1:=hid ((H.out.later hb).later ((Below.refl _ _).alloc (Nat.le_refl _) (.cells #[.string y.1,.map (some y.2.1)] 118)))
    rw[HY.out]
    unfold zu
    clear x0 hb
    go_wp2_with fail
    go_ret
    exact⟨rfl,H1.out⟩
  ·have hw':(bj nm != 1)=true:=by simpa using hw
   go_wp2_with (go_at_call 73;refine(eC _ _).mono ?_;rintro e w' ⟨rfl,hw'⟩;obtain rfl:=hw'.symm)
   go_ret
   exact⟨rfl,H.out⟩
theorem fq.Kt {W0 W w5:World} {X m:Nat} {l:List cU} {v v':Value} {nm:ByteArray} (h:fq W0 X l m W) (ho:W.ownsRow W0.heap.size 118 2 v l.length (l.flatMap kL))
  (hg:((W.alloc (.map #[] 0)).alloc (.cells #[.string nm,.map (some W.heap.size)] 118)).grownBy w5 v.ownBlock) (hx5:Loc w5 X #[v] 122)
  (ho':w5.ownsRow W0.heap.size 118 2 v' (l.length+1) (l.flatMap kL++[.string nm,.map (some W.heap.size)])):
  fq W0 X (l++[(nm,W.heap.size,fun _=>false)]) m (w5.setCell ⟨X,0,none⟩ v'):=by
 have hs:=h.frame.size
 have hne:∀{b n:Nat} {S:aI→Bool},bm w5 b n S→bm (w5.setCell ⟨X,0,none⟩ v') b n S:=fun hr=>hr.kept (aC w5 X 0 v') (by intro e;injection e with e;exact hr.aV hx5 e)
 have hold:∀x∈l,bm w5 x.2.1 m x.2.2:=fun x hxl=>(((h.right x hxl).kept (ar W _ none) (by simp)).kept (ar _ _ none) (by simp)).kept hg ((h.right x hxl).eh ho)
 have hnew:bm w5 W.heap.size m (fun _=>false):=((bm.made W m).kept (ar _ _ none) (by simp)).kept hg (by
  intro e
  have:=(ho.lt _ e.symm).2
  omega)
 have hb5:W0.grownBy w5 (some X):=kv (kv (kv h.frame (ar _ _ none) (by simp)) (ar _ _ none) (by simp)) hg (fun k hk=>(ho.lt k hk).1)
 have hX:v'.ownBlock≠some X:=fun e=>aQ ho' hx5 (by decide) e
 refine⟨⟨v',?_,?_⟩,?_,?_,?_,aB hb5 (aC w5 X 0 v')⟩
 ·exact hx5.set 0 v'
 ·have e:(l++[((nm,W.heap.size,fun _=>false):cU)]).length=l.length+1:=by simp
  have e2:(l++[((nm,W.heap.size,fun _=>false):cU)]).flatMap kL=l.flatMap kL++[.string nm,.map (some W.heap.size)]:=by simp[kL]
  rw[e,e2]
  exact ho'.kept (aC w5 X 0 v') (Or.inr hX)
 ·intro x hxl
  rcases List.mem_append.1 hxl with hxl|hxl
  ·exact hne (hold x hxl)
  ·simp only[List.mem_singleton] at hxl
   subst hxl
   exact hne hnew
 ·rw[List.map_append,List.nodup_append]
  refine⟨h.apart,by simp,?_⟩
  intro a ha b hb
  simp only[List.map_cons,List.map_nil,List.mem_singleton] at hb
  obtain⟨x,hxl,rfl⟩:=List.mem_map.1 ha
  have:=(h.right x hxl).lt
  omega
 ·intro x hxl
  rcases List.mem_append.1 hxl with hxl|hxl
  ·exact h.low x hxl
  ·simp only[List.mem_singleton] at hxl
   subst hxl
   exact hs
theorem Bb {W0 W:World} {X m:Nat} {l:List cU} {s:ByteArray} (h:fq W0 X l m W) (hl:l.length≤6) (hr:kZ l s=true):
  Calls Tryz.prog 176 #[.pointer (some ⟨X,0,none⟩),.string s] W fun e W'=>e=.returned (.bool true)∧∃b,fq W0 X (l++[(eZ s,b,fun _=>false)]) m W':=by
 obtain⟨i0,hi,hz0,hz1,hz2⟩:=info_parts Tryz.En
 have H:=hid h
 obtain⟨v,hx,ho⟩:=h.list
 have HS:=hid (aP ho ho.1)
 obtain⟨ao,cap,rfl,hcap⟩:=eI HS.out
 have x0:=hx.at_ 0 (.slice ao l.length cap) rfl
 clear h hx ho
 unfold kZ at hr
 simp only[Bool.and_eq_true,Bool.not_eq_true',beq_iff_eq,beq_eq_false_iff_ne,Option.isNone_iff_eq_none] at hr
 obtain⟨⟨⟨h1,h2⟩,h6⟩,hf⟩:=hr
 have H1:=hid h1
 have H2:=hid h2
 have HF:=hid hf
 have h6i:((l.length:Int)==6)=false:=by simp;omega
 have HL:=hid (show l.length<6 by omega)
 clear h1 h2 h6 hf
 go_enter Tryz.func176,Tryz.ntmps176
 go_wp2_with fail
 refine(B9 s W).mono ?_
 rintro e w' ⟨rfl,hw⟩
 obtain rfl:=hw.symm
 rw[H1.out]
 obtain⟨nm,hnm⟩:∃nm,eZ s=nm:=⟨_,rfl⟩
 rw[hnm] at H2 HF⊢
 have HNM:=hid hnm
 clear hnm
 go_upto_region 4 with (go_at_call 73;refine(eC _ _).mono ?_;rintro e w' ⟨rfl,hw'⟩;obtain rfl:=hw'.symm;rw[H2.out])
 go_wp2_with fail
 refine(Gq hl HS.out).mono ?_
 rintro e W1 ⟨rfl,hb⟩
 have H3:=hid ((H.out.later hb).later ((Below.refl _ _).alloc (Nat.le_refl _) (.cells #[.string ⟨#[]⟩,.map none] 118)))
 rw[HF.out]
 unfold zu
 clear x0 hb
 go_upto_region 7 with fail
 generalize W1.alloc (.cells #[.string ⟨#[]⟩,.map none] 118)=W2 at H3⊢
 obtain⟨v,hx,ho⟩:=H3.out.list
 have HX:=hid hx
 have HO:=hid ho
 obtain⟨ao',cap',rfl,hcap'⟩:=eI (aP ho ho.1)
 have x0:=hx.at_ 0 (.slice ao' l.length cap') rfl
 have hsz:=H3.out.frame.size
 have hmm:=@run_makeMap Tryz.prog
 have hl6:=HL.out
 have tc:∀(j:Nat) (u:Value),[Value.string nm,.map (some W2.heap.size)][j]?=some u→((W2.alloc (.map #[] 0)).alloc (.cells #[.string nm,.map (some W2.heap.size)] 118)).cell? ((⟨W2.heap.size+1,0,none⟩:Addr).add j)=some u:=by
  have e:(W2.alloc (.map #[] 0)).heap.size=W2.heap.size+1:=by simp
  rw[←e];exact Da
 have TC:=hid tc
 clear hx ho HS H tc
 go_wp2_with (at_builtin;go_must (refine wpList_append_own _ rfl _ _ 120 rfl W0.heap.size 118 i0 (.agg #[.string ⟨#[]⟩,.map none]) 2 24 Tryz.underlying120 hi hz0 hz1 hz2 rfl (by decide) _ _ _ rfl ((HO.out.alloc _).alloc _) _ 1 1 [.string nm,.map (some W2.heap.size)] rfl rfl TC.out FM (by unfold maxLen;omega) (by omega) (by simp;omega) ?_);intro v' w5 hown' hgrow _;have HG:Hid (((W2.alloc (.map #[] 0)).alloc (.cells #[.string nm,.map (some W2.heap.size)] 118)).grownBy w5 (Value.slice ao' l.length cap').ownBlock):=hid hgrow;clear hgrow;have HX5:=hid (((HX.out.alloc _).alloc _).fs ((HO.out.alloc _).alloc _) HG.out (by decide));have cc:w5.cell? ⟨X,0,none⟩=some (.slice ao' l.length cap'):=(HX5.out.cell 0).trans rfl;have ff:=HX5.out.free 0;obtain⟨gg,gcap,hshape⟩:=zy hown';subst hshape;have HO':=hid hown';clear hown')
 go_ret
 exact⟨rfl,W2.heap.size,by rw[HNM.out];exact fq.Kt H3.out HO.out HG.out HX5.out HO'.out⟩
end
section
open Go.RowKit Go.Maps
def iR (S:aI→Bool) (x:aI):aI→Bool:=fun r=>S r || decide (r=x)
theorem bm.put {w:World} {b n:Nat} {D:DataW Unit} {S:aI→Bool} {x:aI} (hD:IsMap D) (hS:∀r,D5 r→Maps.has D (AZ r)=S r) (hx:D5 x) (ho:w.ownsMap Tryz.prog 224 unitElem b n (D.put (AZ x) (.agg []))):bm w b n (iR S x):=by
 refine⟨_,ho,fun r hr=>?_⟩
 unfold iR
 by_cases e:r=x
 ·subst e
  rw[has_put_same hD (Ie.key (FR hx))]
  simp
 ·rw[has_put_other (fun h=>e (FB hr hx h)),hS r hr]
  simp[e]
theorem DL (l:List cU):(l.flatMap kL).length=l.length*2:=by
 induction l with
 | nil=>rfl
 | cons a l ih=>simp[kL,ih];omega
theorem xh (s:ByteArray):0≤kO s∧kO s≤9:=by
 unfold kO
 repeat' split
 all_goals omega
theorem C8 {s:ByteArray} (hs:s.size≤2000):D5 (ct s).1:=by
 have hv:=xh (jO s 32)
 have h1:=qt s 32
 have h2:=Cx (jf s 32) 46
 have h3:=qt (jf s 32) 46
 have wf:∀v:Int,0≤v→v≤10→(Lit.int .i64 v).wf=true:=fun v a b=>WalkArith.wf_i64 (by omega)
 have hm:∀n:Nat,n≤2000→n≤maxLen:=fun n hn=>by unfold maxLen;omega
 unfold ct
 split
 ·exact⟨wf 10 (by decide) (by decide),hm 0 (by decide),hm 0 (by decide)⟩
 split
 ·exact⟨wf 0 (by decide) (by decide),hm 0 (by decide),hm 0 (by decide)⟩
 split
 ·exact⟨wf 9 (by decide) (by decide),hm (jf s 32).size (by omega),hm 0 (by decide)⟩
 split
 ·exact⟨wf (kO (jO s 32)) hv.1 (by omega),hm (jO (jf s 32) 46).size (by omega),hm (jf (jf s 32) 46).size (by omega)⟩
 ·exact⟨wf (kO (jO s 32)) hv.1 (by omega),hm (jf s 32).size (by omega),hm 0 (by decide)⟩
theorem fq.BC {W0 W w:World} {X m:Nat} {l:List cU} {y:cU} {x:aI} (h:fq W0 X (l++[y]) m W) (hg:W.grownBy w (some y.2.1)) (hr:bm w y.2.1 (m+1) (iR y.2.2 x)):
  fq W0 X (l++[(y.1,y.2.1,iR y.2.2 x)]) (m+1) w:=by
 obtain⟨v,hx,ho⟩:=h.list
 have hy:=h.right y (by simp)
 have ha:=h.apart
 rw[List.map_append,List.nodup_append] at ha
 refine⟨⟨v,hx.grown hg (fun e=>hy.aV hx (by injection e with e;exact e.symm)),?_⟩,?_,?_,?_,kv h.frame hg (fun k hk=>by injection hk with hk;rw[←hk];exact h.low y (by simp))⟩
 ·have e:(l++[((y.1,y.2.1,iR y.2.2 x):cU)]).length=(l++[y]).length:=by simp
  have e2:(l++[((y.1,y.2.1,iR y.2.2 x):cU)]).flatMap kL=(l++[y]).flatMap kL:=by simp[kL]
  rw[e,e2]
  exact ho.kept hg (Or.inr (fun e=>hy.eh ho e.symm))
 ·intro z hz
  rcases List.mem_append.1 hz with hz|hz
  ·refine((h.right z (by simp[hz])).kept hg ?_).more (Nat.le_succ m)
   intro e
   injection e with e
   exact ha.2.2 z.2.1 (List.mem_map.2 ⟨z,hz,rfl⟩) y.2.1 (by simp) e
  ·simp only[List.mem_singleton] at hz
   subst hz
   exact hr
 ·rw[List.map_append,List.nodup_append]
  exact ha
 ·intro z hz
  rcases List.mem_append.1 hz with hz|hz
  ·exact h.low z (by simp[hz])
  ·simp only[List.mem_singleton] at hz
   subst hz
   exact h.low y (by simp)
theorem sw {W0 W:World} {X m:Nat} {l:List cU} {s:ByteArray} {mx:Int} (h:fq W0 X l m W) (hs:s.size≤2000) (hm:W.cell? ⟨1,0,none⟩=some (.int .i64 mx)) (hr:(ct s).2=false∨l=[]):
  Calls Tryz.prog 177 #[.pointer (some ⟨X,0,none⟩),.string s] W fun e W'=>e=.returned (.bool false)∧fq W0 X l m W':=by
 have H:=hid h
 have HM:=hid hm
 clear h hm
 go_enter Tryz.func177,Tryz.ntmps177
 go_wp2_with fail
 refine(zj (by omega) HM.out).mono ?_
 rintro e W1 ⟨rfl,hb⟩
 have H1:=hid (H.out.later hb)
 clear H hb HM
 generalize (ct s).2=ok at hr⊢
 generalize (ct s).1=r
 obtain⟨v,a,k⟩:=r
 have H2:=hid (H1.out.later ((Below.refl _ _).alloc (Nat.le_refl _) (.cells #[.int .i64 v,.string a,.string k] 224)))
 clear H1
 unfold nf
 simp only
 go_upto_region 2 with fail
 generalize W1.alloc (.cells #[.int .i64 v,.string a,.string k] 224)=W2 at H2⊢
 cases ok with
 | false=>
  go_wp2_with fail
  go_ret
  exact⟨rfl,H2.out⟩
 | true=>
  have hl:l=[]:=by rcases hr with hr|hr;cases hr;exact hr
  subst hl
  obtain⟨u,hx,ho⟩:=H2.out.list
  obtain⟨ao,cap,rfl,hcap⟩:=eI (l:=([]:List cU)) (aP ho ho.1)
  have x0:=hx.at_ 0 (.slice ao 0 cap) rfl
  clear hx ho hr
  go_wp2_with fail
  go_ret
  exact⟨rfl,H2.out⟩
theorem xw {W0 W:World} {X m:Nat} {l:List cU} {y:cU} {s:ByteArray} {mx:Int} (h:fq W0 X (l++[y]) m W) (hl:l.length<6) (hmm:m<maxLen) (hs:s.size≤2000) (hm:W.cell? ⟨1,0,none⟩=some (.int .i64 mx)) (hr:(ct s).2=true):
  Calls Tryz.prog 177 #[.pointer (some ⟨X,0,none⟩),.string s] W fun e W'=>e=.returned (.bool true)∧fq W0 X (l++[(y.1,y.2.1,iR y.2.2 (ct s).1)]) (m+1) W':=by
 have H:=hid h
 have HM:=hid hm
 have HK:=hid (C8 hs)
 have HMM:=hid hmm
 clear h hm hmm
 go_enter Tryz.func177,Tryz.ntmps177
 go_wp2_with fail
 refine(zj (by omega) HM.out).mono ?_
 rintro e W1 ⟨rfl,hb⟩
 have H1:=hid (H.out.later hb)
 clear H hb HM
 rw[hr]
 clear hr
 obtain⟨r,hre⟩:∃r,(ct s).1=r:=⟨_,rfl⟩
 rw[hre] at HK⊢
 have HRE:=hid hre
 clear hre
 obtain⟨v,a,k⟩:=r
 have H2:=hid (H1.out.later ((Below.refl _ _).alloc (Nat.le_refl _) (.cells #[.int .i64 v,.string a,.string k] 224)))
 have HR2:=hid (Loc.new W1 #[.int .i64 v,.string a,.string k] 224)
 clear H1
 unfold nf
 simp only
 go_upto_region 2 with fail
 obtain⟨Z,hZ⟩:∃Z,Z=W1.heap.size:=⟨_,rfl⟩
 rw[←hZ] at HR2⊢
 clear hZ
 generalize W1.alloc (.cells #[.int .i64 v,.string a,.string k] 224)=W2 at H2 HR2⊢
 obtain⟨u,hx,ho⟩:=H2.out.list
 have HO:=hid ho
 have e1:(l++[y]).length=l.length+1:=by simp
 rw[e1] at ho
 obtain⟨g,cap,rfl⟩:=zy ho
 have x0:=hx.at_ 0 (.slice (some ⟨g,0,none⟩) (l.length+1) cap) rfl
 have r0:=HR2.out.at_ 0 (.int .i64 v) rfl
 have r1:=HR2.out.at_ 1 (.string a) rfl
 have r2:=HR2.out.at_ 2 (.string k) rfl
 have p1:W2.cell? ⟨g,l.length*2+1,none⟩=some (.map (some y.2.1)):=by
  rw[ho.cellAt (l.length*2+1) (by omega)]
  have hfl:=DL l
  rw[List.flatMap_append,List.getElem?_append_right (by omega),hfl]
  have:l.length*2+1 - l.length*2=1:=by omega
  rw[this]
  rfl
 obtain⟨D,hown,hS⟩:=H2.out.right y (by simp)
 have hown':W2.drew.ownsMap Tryz.prog 224 unitElem y.2.1 m D:=hown
 obtain⟨w3,hrun,hown3,hturn⟩:=hown'.store Ie Tryz.underlying116 HMM.out (FR HK.out) (unitElem_mk (H:=Unit))
 have HG:Hid (W2.grownBy w3 (some y.2.1)):=hid (by have:=hturn.grown;exact⟨this.os,this.tape,this.output,this.size,this.block⟩)
 have HN:Hid (bm w3 y.2.1 (m+1) (iR y.2.2 (v,a,k))):=hid (bm.put (hown.isMap) hS HK.out hown3)
 unfold nf at hrun
 simp only at hrun
 clear hx ho hown hown' hown3 hturn hS
 have hll:(0:Int)≤(l.length:Int):=by omega
 go_upto_region 4 with fail
 go_region
 go_wp2_with fail
 go_ret
 exact⟨rfl,by rw[HRE.out];exact H2.out.BC HG.out HN.out⟩
end
section
open Go.RowKit Go.Maps
def fb (s:ByteArray):ByteArray:=⟨(Lib.trimSuffix s.data.toList [10]).toArray⟩
def gd (s:ByteArray):List ByteArray:=if s.toList.isEmpty then [] else Lib.splitB ⟨#[10]⟩ 0 (Lib.countB (fb s) ⟨#[10]⟩) (fb s)
theorem mj (s:ByteArray):(fb s).size≤s.size:=by
 unfold fb Lib.trimSuffix
 split
 ·show (List.take _ s.data.toList).toArray.size≤s.data.size
  rw[List.size_toArray,List.length_take,Array.length_toList];omega
 ·exact Nat.le_refl _
theorem qN (sep:ByteArray):∀(k:Nat) (s:ByteArray),∀x∈Lib.splitB sep 0 k s,x.size≤s.size
 | 0,s,x,hx=>by simp[Lib.splitB] at hx;subst hx;exact Nat.le_refl _
 | k+1,s,x,hx=>by
  unfold Lib.splitB at hx
  split at hx
  ·simp at hx;subst hx;exact Nat.le_refl _
  ·rcases List.mem_cons.1 hx with rfl|hx
   ·rw[ByteArray.size_extract];omega
   ·have:=qN sep k _ x hx
    rw[ByteArray.size_extract] at this
    omega
theorem zM {s x:ByteArray} (hx:x∈gd s):x.size≤s.size:=by
 unfold gd at hx
 split at hx
 ·cases hx
 ·exact Nat.le_trans (qN _ _ _ x hx) (mj s)
theorem Dw {s:ByteArray} (hs:s.size≤2000):(gd s).length≤2001:=by
 unfold gd
 split
 ·simp
 ·rw[Lib.splitB_all _ (by decide) 0 _ _ rfl]
  have h1:=Lib.countB_mul_le ⟨#[10]⟩ (by decide) (fb s).size (fb s) (Nat.le_refl _)
  have h2:=mj s
  have h3:(⟨#[10]⟩:ByteArray).size=1:=rfl
  rw[h3] at h1
  omega
theorem Gk {w:World} {l:List ByteArray} {T:TypeId}:bO (w.alloc (.cells (l.map Value.string).toArray T)) 1 (.slice (some ⟨w.heap.size,0,none⟩) l.length l.length) l.length (l.map Value.string):=by
 refine⟨by simp,_,_,rfl,Nat.le_refl _,fun _=>⟨w.heap.size,0,rfl,fun j u hu=>?_⟩⟩
 rw[Nat.zero_add,(Loc.new w _ T).cell j,List.getElem?_toArray]
 exact hu
theorem EB (w:World):bO w 1 (.slice none 0 0) 0 []:=⟨rfl,_,_,rfl,Nat.le_refl _,fun h=>absurd h (by omega)⟩
theorem Fk {s:ByteArray} {m:Int} {W:World} (hs:s.size≤2000) (hm:W.cell? ⟨1,0,none⟩=some (.int .i64 m)):
  Calls Tryz.prog 175 #[.string s] W fun e W'=>∃ao cap,e=.returned (.slice ao (gd s).length cap)∧bO W' 1 (.slice ao (gd s).length cap) (gd s).length ((gd s).map Value.string)∧Below W.heap.size W W':=by
 cases he:s.toList.isEmpty with
 | true=>
  have HL:Hid (gd s=[]):=hid (by unfold gd;rw[if_pos he])
  go_enter Tryz.func175,Tryz.ntmps175
  go_wp2_with fail
  go_ret
  rw[HL.out]
  exact⟨none,0,rfl,EB W,Below.refl _ _⟩
 | false=>
  have HL:Hid (gd s=Lib.splitB ⟨#[10]⟩ 0 (Lib.countB (fb s) ⟨#[10]⟩) (fb s)):=hid (by unfold gd;rw[if_neg (by simp[he])])
  have HM:=hid hm
  clear hm
  go_enter Tryz.func175,Tryz.ntmps175
  go_wp2_with fail
  refine(Tryz.strings_TrimSuffix s ⟨#[10]⟩ W (by omega)).mono ?_
  rintro e w' ⟨rfl,hw⟩
  obtain rfl:=hw.symm
  go_wp2_with fail
  refine(Tryz.strings_Split (fb s) ⟨#[10]⟩ m W (by have:=mj s;omega) HM.out (by decide)).mono ?_
  rintro e w' ⟨rfl,hw⟩
  have HN:=hid (Lib.splitB_all ⟨#[10]⟩ (by decide) 0 _ (fb s) rfl)
  have HW:=hid hw
  clear hw
  go_wp2_with fail
  go_ret
  rw[HL.out,HN.out,HW.out]
  refine⟨some ⟨W.heap.size,0,none⟩,_,rfl,?_,(Below.refl _ _).alloc (Nat.le_refl _) _⟩
  have:=Gk (w:=W) (l:=Lib.splitB ⟨#[10]⟩ 0 (Lib.countB (fb s) ⟨#[10]⟩) (fb s)) (T:=9)
  rw[HN.out] at this
  exact this
end
end Go.Proofs.YtobgbmfpicmpcaaGreatDoor
namespace Go.Proofs
open Go.Shelf
def Tryz.laysM316_ren : Go.Shelf.Ren := ⟨fun | 316 => 148 | n => n, fun | 9 => 9 | 3 => 3 | 4 => 4 | 37 => 168 | 0 => 0 | 127 => 247 | 5 => 5 | n => n, fun | n => n⟩
theorem Tryz.laysM316 : Go.Proofs.LaysM.n316 Tryz.prog Tryz.laysM316_ren := {
  mixed := by kernel_rfl
  f316 := Tryz.func148.trans (congrArg some (by kernel_rfl))
  t0 := Tryz.underlying0
  a0 := Tryz.isAgg0
  z0 := Tryz.sizeOf0
  v0 := Tryz.zeroValue0
  t3 := Tryz.underlying3
  a3 := Tryz.isAgg3
  z3 := Tryz.sizeOf3
  v3 := Tryz.zeroValue3
  t4 := Tryz.underlying4
  a4 := Tryz.isAgg4
  z4 := Tryz.sizeOf4
  v4 := Tryz.zeroValue4
  t9 := Tryz.underlying9
  a9 := Tryz.isAgg9
  z9 := Tryz.sizeOf9
  v9 := Tryz.zeroValue9
  t37 := Tryz.underlying168
  a37 := Tryz.isAgg168
  z37 := Tryz.sizeOf168
  v37 := Tryz.zeroValue168
  t127 := Tryz.underlying247
  a127 := Tryz.isAgg247
  z127 := Tryz.sizeOf247
  v127 := Tryz.zeroValue247
  t5 := Tryz.underlying5
  a5 := Tryz.isAgg5
  z5 := Tryz.sizeOf5
  v5 := Tryz.zeroValue5
  i0 := by kernel_rfl
  i3 := by kernel_rfl
  i4 := by kernel_rfl
  i5 := by kernel_rfl
  i9 := by kernel_rfl
  i37 := by kernel_rfl
  i127 := by kernel_rfl }
open Go.RowKit in
theorem Tryz.stringslite_Clone (s : ByteArray) (w : World) (hlim : s.size ≤ 281474976710656) :
    Calls Tryz.prog 148 #[.string s] w fun e w' => e = .returned (.string s) ∧ Below w.heap.size w w' := Any.stringslite_Clone Tryz.laysM316 s w hlim
def Tryz.laysC172_ren : Go.Shelf.Ren := ⟨fun | 172 => 274 | 244 => 319 | 245 => 320 | 247 => 346 | 279 => 347 | 280 => 348 | 281 => 349 | 282 => 350 | 287 => 360 | 316 => 148 | 171 => 36 | 205 => 361 | 321 => 384 | 322 => 385 | 243 => 77 | 246 => 149 | 283 => 206 | 284 => 207 | 285 => 208 | 286 => 209 | 129 => 253 | 317 => 269 | 318 => 270 | 319 => 271 | 320 => 272 | 337 => 316 | 338 => 317 | n => n, fun | 9 => 9 | 3 => 3 | 75 => 177 | 76 => 178 | 4 => 4 | 5 => 5 | 167 => 409 | 37 => 168 | 0 => 0 | 85 => 410 | 2 => 2 | 168 => 412 | 53 => 278 | 175 => 423 | 46 => 204 | 210 => 426 | 127 => 247 | 145 => 442 | 143 => 440 | 21 => 21 | 171 => 277 | 173 => 281 | 212 => 348 | 51 => 327 | 20 => 20 | 213 => 349 | 232 => 407 | 233 => 408 | 80 => 79 | n => n, fun | 15 => 4 | 16 => 5 | 17 => 0 | 18 => 2 | 19 => 3 | n => n⟩
theorem Tryz.laysC172 : Go.Proofs.LaysC.n172 Tryz.prog Tryz.laysC172_ren := {
  mixed := by kernel_rfl
  f129 := Tryz.func253.trans (congrArg some (by kernel_rfl))
  f171 := Tryz.func36.trans (congrArg some (by kernel_rfl))
  f172 := Tryz.func274.trans (congrArg some (by kernel_rfl))
  f205 := Tryz.func361.trans (congrArg some (by kernel_rfl))
  f243 := Tryz.func77.trans (congrArg some (by kernel_rfl))
  f244 := Tryz.func319.trans (congrArg some (by kernel_rfl))
  f245 := Tryz.func320.trans (congrArg some (by kernel_rfl))
  f246 := Tryz.func149.trans (congrArg some (by kernel_rfl))
  f247 := Tryz.func346.trans (congrArg some (by kernel_rfl))
  f279 := Tryz.func347.trans (congrArg some (by kernel_rfl))
  f280 := Tryz.func348.trans (congrArg some (by kernel_rfl))
  f281 := Tryz.func349.trans (congrArg some (by kernel_rfl))
  f282 := Tryz.func350.trans (congrArg some (by kernel_rfl))
  f283 := Tryz.func206.trans (congrArg some (by kernel_rfl))
  f284 := Tryz.func207.trans (congrArg some (by kernel_rfl))
  f285 := Tryz.func208.trans (congrArg some (by kernel_rfl))
  f286 := Tryz.func209.trans (congrArg some (by kernel_rfl))
  f287 := Tryz.func360.trans (congrArg some (by kernel_rfl))
  f316 := Tryz.func148.trans (congrArg some (by kernel_rfl))
  f317 := Tryz.func269.trans (congrArg some (by kernel_rfl))
  f318 := Tryz.func270.trans (congrArg some (by kernel_rfl))
  f319 := Tryz.func271.trans (congrArg some (by kernel_rfl))
  f320 := Tryz.func272.trans (congrArg some (by kernel_rfl))
  f321 := Tryz.func384.trans (congrArg some (by kernel_rfl))
  f322 := Tryz.func385.trans (congrArg some (by kernel_rfl))
  f337 := Tryz.func316.trans (congrArg some (by kernel_rfl))
  f338 := Tryz.func317.trans (congrArg some (by kernel_rfl))
  t0 := Tryz.underlying0
  a0 := Tryz.isAgg0
  z0 := Tryz.sizeOf0
  v0 := Tryz.zeroValue0
  t2 := Tryz.underlying2
  a2 := Tryz.isAgg2
  z2 := Tryz.sizeOf2
  v2 := Tryz.zeroValue2
  t3 := Tryz.underlying3
  a3 := Tryz.isAgg3
  z3 := Tryz.sizeOf3
  v3 := Tryz.zeroValue3
  t4 := Tryz.underlying4
  a4 := Tryz.isAgg4
  z4 := Tryz.sizeOf4
  v4 := Tryz.zeroValue4
  t5 := Tryz.underlying5
  a5 := Tryz.isAgg5
  z5 := Tryz.sizeOf5
  v5 := Tryz.zeroValue5
  t9 := Tryz.underlying9
  a9 := Tryz.isAgg9
  z9 := Tryz.sizeOf9
  v9 := Tryz.zeroValue9
  t20 := Tryz.underlying20
  a20 := Tryz.isAgg20
  z20 := Tryz.sizeOf20
  v20 := Tryz.zeroValue20
  t21 := Tryz.underlying21
  a21 := Tryz.isAgg21
  z21 := Tryz.sizeOf21
  v21 := Tryz.zeroValue21
  t37 := Tryz.underlying168
  a37 := Tryz.isAgg168
  z37 := Tryz.sizeOf168
  v37 := Tryz.zeroValue168
  t46 := Tryz.underlying204
  a46 := Tryz.isAgg204
  z46 := Tryz.sizeOf204
  v46 := Tryz.zeroValue204
  t51 := Tryz.underlying327
  a51 := Tryz.isAgg327
  z51 := Tryz.sizeOf327
  v51 := Tryz.zeroValue327
  t53 := Tryz.underlying278
  a53 := Tryz.isAgg278
  z53 := Tryz.sizeOf278
  v53 := Tryz.zeroValue278
  t75 := Tryz.underlying177
  a75 := Tryz.isAgg177
  z75 := Tryz.sizeOf177
  v75 := Tryz.zeroValue177
  t76 := Tryz.underlying178
  a76 := Tryz.isAgg178
  z76 := Tryz.sizeOf178
  v76 := Tryz.zeroValue178
  t85 := Tryz.underlying410
  a85 := Tryz.isAgg410
  z85 := Tryz.sizeOf410
  v85 := Tryz.zeroValue410
  t127 := Tryz.underlying247
  a127 := Tryz.isAgg247
  z127 := Tryz.sizeOf247
  v127 := Tryz.zeroValue247
  t143 := Tryz.underlying440
  a143 := Tryz.isAgg440
  z143 := Tryz.sizeOf440
  v143 := Tryz.zeroValue440
  t145 := Tryz.underlying442
  a145 := Tryz.isAgg442
  z145 := Tryz.sizeOf442
  v145 := Tryz.zeroValue442
  t167 := Tryz.underlying409
  a167 := Tryz.isAgg409
  z167 := Tryz.sizeOf409
  v167 := Tryz.zeroValue409
  t168 := Tryz.underlying412
  a168 := Tryz.isAgg412
  z168 := Tryz.sizeOf412
  v168 := Tryz.zeroValue412
  t171 := Tryz.underlying277
  a171 := Tryz.isAgg277
  z171 := Tryz.sizeOf277
  v171 := Tryz.zeroValue277
  t173 := Tryz.underlying281
  a173 := Tryz.isAgg281
  z173 := Tryz.sizeOf281
  v173 := Tryz.zeroValue281
  t175 := Tryz.underlying423
  a175 := Tryz.isAgg423
  z175 := Tryz.sizeOf423
  v175 := Tryz.zeroValue423
  t210 := Tryz.underlying426
  a210 := Tryz.isAgg426
  z210 := Tryz.sizeOf426
  v210 := Tryz.zeroValue426
  t212 := Tryz.underlying348
  a212 := Tryz.isAgg348
  z212 := Tryz.sizeOf348
  v212 := Tryz.zeroValue348
  t213 := Tryz.underlying349
  a213 := Tryz.isAgg349
  z213 := Tryz.sizeOf349
  t232 := Tryz.underlying407
  a232 := Tryz.isAgg407
  z232 := Tryz.sizeOf407
  v232 := Tryz.zeroValue407
  t233 := Tryz.underlying408
  a233 := Tryz.isAgg408
  z233 := Tryz.sizeOf408
  v233 := Tryz.zeroValue408
  g15 := by kernel_rfl
  g16 := by kernel_rfl
  g17 := by kernel_rfl
  g18 := by kernel_rfl
  g19 := by kernel_rfl
  t80 := Tryz.underlying79
  a80 := Tryz.isAgg79
  z80 := Tryz.sizeOf79
  v80 := Tryz.zeroValue79
  i0 := by kernel_rfl
  i2 := by kernel_rfl
  i3 := by kernel_rfl
  i4 := by kernel_rfl
  i5 := by kernel_rfl
  i9 := by kernel_rfl
  i20 := by kernel_rfl
  i21 := by kernel_rfl
  i37 := by kernel_rfl
  i46 := by kernel_rfl
  i51 := by kernel_rfl
  i53 := by kernel_rfl
  i75 := by kernel_rfl
  i76 := by kernel_rfl
  i80 := by kernel_rfl
  i85 := by kernel_rfl
  i127 := by kernel_rfl
  i143 := by kernel_rfl
  i145 := by kernel_rfl
  i167 := by kernel_rfl
  i168 := by kernel_rfl
  i171 := by kernel_rfl
  i173 := by kernel_rfl
  i175 := by kernel_rfl
  i210 := by kernel_rfl
  i212 := by kernel_rfl
  i232 := by kernel_rfl
  i233 := by kernel_rfl
  m15 := by kernel_rfl
  m16 := by kernel_rfl
  m17 := by kernel_rfl
  m18 := by kernel_rfl
  m19 := by kernel_rfl
  c0 := by kernel_rfl
  c2 := by kernel_rfl
  c3 := by kernel_rfl
  c4 := by kernel_rfl
  c5 := by kernel_rfl
  c9 := by kernel_rfl
  c20 := by kernel_rfl
  c21 := by kernel_rfl
  c37 := by kernel_rfl
  c46 := by kernel_rfl
  c51 := by kernel_rfl
  c53 := by kernel_rfl
  c75 := by kernel_rfl
  c76 := by kernel_rfl
  c80 := by kernel_rfl
  c85 := by kernel_rfl
  c127 := by kernel_rfl
  c143 := by kernel_rfl
  c145 := by kernel_rfl
  c167 := by kernel_rfl
  c168 := by kernel_rfl
  c171 := by kernel_rfl
  c173 := by kernel_rfl
  c175 := by kernel_rfl
  c210 := by kernel_rfl
  c212 := by kernel_rfl
  c213 := by kernel_rfl
  c232 := by kernel_rfl
  c233 := by kernel_rfl }
open Go.RowKit in
theorem Tryz.strconv_Atoi_ok (s : ByteArray) (hmax : s.size ≤ 9223372036854775806) (v : Int) (h : Lib.atoiAll s.data.toList = .ok v) (w : World) :
    Calls Tryz.prog 274 #[.string s] w fun e w' => e = .returned (.tuple #[.int .i64 v, .nilIface]) ∧ (w' = w ∨ ∃ t, w' = Lib.bytesWorld w 5 t) := Any.strconv_Atoi_ok Tryz.laysC172 s hmax v h w
open Go.RowKit in
theorem Tryz.strconv_Atoi_range (s : ByteArray) (hlim : s.size ≤ 281474976710656) (h : Lib.atoiAll s.data.toList = .range) (ev : Value) (w : World) (hv : w.cell? ⟨5, 0, none⟩ = some ev) (hev : ev = .nilIface ∨ ∃ te pe, ev = .iface te pe) :
    Calls Tryz.prog 274 #[.string s] w fun e w' => ∃ N, e = .returned (.tuple #[.int .i64 (Lib.atoiSat s.data.toList), .iface 412 (.pointer (some ⟨N, 0, none⟩))]) ∧ w.heap.size ≤ N ∧ w'.heap[N]? = some (.cells #[.string ⟨#[65, 116, 111, 105]⟩, .string s, ev] 426 (0, 0)) ∧ Below w.heap.size w w' := Any.strconv_Atoi_range Tryz.laysC172 s hlim h ev w hv hev
def Tryz.lays101_ren : Go.Shelf.Ren := ⟨fun | 101 => 273 | 208 => 318 | 206 => 326 | n => n, fun | 9 => 9 | 4 => 4 | 3 => 3 | n => n, fun | n => n⟩
theorem Tryz.lays101 : Go.Proofs.Lays.n101 Tryz.prog Tryz.lays101_ren := {
  mixed := by kernel_rfl
  f101 := Tryz.func273.trans (congrArg some (by kernel_rfl))
  f206 := Tryz.func326.trans (congrArg some (by kernel_rfl))
  f208 := Tryz.func318.trans (congrArg some (by kernel_rfl))
  t3 := Tryz.underlying3
  a3 := Tryz.isAgg3
  z3 := Tryz.sizeOf3
  v3 := Tryz.zeroValue3
  t4 := Tryz.underlying4
  a4 := Tryz.isAgg4
  z4 := Tryz.sizeOf4
  v4 := Tryz.zeroValue4
  t9 := Tryz.underlying9
  a9 := Tryz.isAgg9
  z9 := Tryz.sizeOf9
  v9 := Tryz.zeroValue9 }
open Go.RowKit Go.Lib in
theorem Tryz.strings_TrimPrefix (s p : ByteArray) (w : World) :
    Calls Tryz.prog 273 #[.string s, .string p] w fun e w' => e = .returned (.string ⟨(Lib.trimPrefix s.data.toList p.data.toList).toArray⟩) ∧ w' = w := Any.strings_TrimPrefix Tryz.lays101 s p w
end Go.Proofs
namespace Go.Proofs.YtobgbmfpicmpcaaGreatDoor
open Go.Lib (hid)
section
open Go.RowKit
def oK (W:World) (b:Nat) (s:ByteArray) (f a:Int) (lv:Value):Prop:=
 W.heap[b]?=some (.cells #[.string s,.int .i64 f,.int .i64 a,lv] 163 (0,0))
structure Inv (w0:World) (b:Nat) (s:ByteArray) (f a:Int) (acc:List Tok) (W:World):Prop where
 below:Below w0.heap.size w0 W
 JV:w0.heap.size≤b
 cut:∃lv,oK W b s f a lv∧W.ownsRow w0.heap.size 153 3 lv acc.length (dy acc)
theorem oK.lt {W:World} {b:Nat} {s:ByteArray} {f a:Int} {lv:Value} (h:oK W b s f a lv):b<W.heap.size:=lt_of_block h
theorem oK.cells {W:World} {b:Nat} {s:ByteArray} {f a:Int} {lv:Value} (h:oK W b s f a lv):
  W.cell? ⟨b,0,none⟩=some (.string s)∧W.cell? ⟨b,1,none⟩=some (.int .i64 f)∧W.cell? ⟨b,2,none⟩=some (.int .i64 a)∧W.cell? ⟨b,3,none⟩=some lv:=by
 unfold oK at h
 refine⟨?_,?_,?_,?_⟩<;>simp[World.cell?,h]
theorem oK.free {W:World} {b:Nat} {s:ByteArray} {f a:Int} {lv:Value} (h:oK W b s f a lv) (j:Nat):W.frozen? ⟨b,j,none⟩=false:=by
 unfold oK at h
 simp[World.frozen?,h]
theorem jL {w:World} {b j:Nat} {cs:Array Value} {t:TypeId} {u:Value} (h:w.heap[b]?=some (.cells cs t (0,0))):(w.setCell ⟨b,j,none⟩ u).heap[b]?=some (.cells (cs.setIfInBounds j u) t (0,0)):=by
 simp[World.setCell,Array.getElem?_modify,h]
theorem oK.setAt {W:World} {b:Nat} {s:ByteArray} {f a:Int} {lv:Value} (h:oK W b s f a lv) (a':Int):oK (W.setCell ⟨b,2,none⟩ (.int .i64 a')) b s f a' lv:=jL h
theorem oK.wT {W:World} {b:Nat} {s:ByteArray} {f a:Int} {lv:Value} (h:oK W b s f a lv) (f':Int):oK (W.setCell ⟨b,1,none⟩ (.int .i64 f')) b s f' a lv:=jL h
theorem oK.I2 {W:World} {b:Nat} {s:ByteArray} {f a:Int} {lv:Value} (h:oK W b s f a lv) (lv':Value):oK (W.setCell ⟨b,3,none⟩ lv') b s f a lv':=jL h
theorem oK.old {W W':World} {b:Nat} {s:ByteArray} {f a:Int} {lv:Value} (h:oK W b s f a lv) (hb:Below W.heap.size W W'):oK W' b s f a lv:=by
 unfold oK;rw[hb.block b h.lt];exact h
theorem oK.ne {W:World} {b B:Nat} {s:ByteArray} {f a:Int} {lv v:Value} {n:Nat} {xs:List Value} (h:oK W b s f a lv) (ho:W.ownsRow B 153 3 v n xs):v.ownBlock≠some b:=by
 intro he
 rcases ho.2 with ⟨rfl,_⟩|⟨g,cap,cur,rfl,hb,hg,_⟩
 ·simp[Value.ownBlock] at he
 ·simp[Value.ownBlock] at he
  subst he
  unfold oK at h
  rw[hg] at h
  simp at h
theorem Inv.drew {w0 W:World} {b:Nat} {s:ByteArray} {f a:Int} {acc:List Tok} (h:Inv w0 b s f a acc W) (n:Nat):Inv w0 b s f a acc (W.drewN n):=
 ⟨below_drewN h.below n,h.JV,h.cut⟩
theorem Inv.old {w0 W W':World} {b:Nat} {s:ByteArray} {f a:Int} {acc:List Tok} (h:Inv w0 b s f a acc W) (hb:Below W.heap.size W W'):Inv w0 b s f a acc W':=by
 obtain⟨lv,hx,ho⟩:=h.cut
 exact⟨h.below.trans (hb.mono h.below.size),h.JV,lv,hx.old hb,Cw ho hb⟩
theorem Inv.setAt {w0 W:World} {b:Nat} {s:ByteArray} {f a:Int} {acc:List Tok} (h:Inv w0 b s f a acc W) (a':Int):Inv w0 b s f a' acc (W.setCell ⟨b,2,none⟩ (.int .i64 a')):=by
 obtain⟨lv,hx,ho⟩:=h.cut
 exact⟨h.below.setCell h.JV _,h.JV,lv,hx.setAt a',ownsRow_setCell_other ho (hx.ne ho) _⟩
theorem Inv.wT {w0 W:World} {b:Nat} {s:ByteArray} {f a:Int} {acc:List Tok} (h:Inv w0 b s f a acc W) (f':Int):Inv w0 b s f' a acc (W.setCell ⟨b,1,none⟩ (.int .i64 f')):=by
 obtain⟨lv,hx,ho⟩:=h.cut
 exact⟨h.below.setCell h.JV _,h.JV,lv,hx.wT f',ownsRow_setCell_other ho (hx.ne ho) _⟩
theorem Inv.alloc {w0 W:World} {b:Nat} {s:ByteArray} {f a:Int} {acc:List Tok} (h:Inv w0 b s f a acc W) (o:Obj):Inv w0 b s f a acc (W.alloc o):=
 h.old ((Below.refl _ _).alloc (Nat.le_refl _) o)
end
end Go.Proofs.YtobgbmfpicmpcaaGreatDoor
