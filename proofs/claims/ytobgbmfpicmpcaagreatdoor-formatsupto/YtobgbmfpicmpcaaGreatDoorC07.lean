/- The program's writer in memory: the words so far; numerals; a slice that is only read. -/
import Derived.Test.YtobgbmfpicmpcaaGreatDoorC05
import Derived.Test.YtobgbmfpicmpcaaGreatDoorC06
import Derived.Deep.DeepMust
import Derived.Sort.Grow
import Derived.Lib.SmallJoins
import Derived.Lib.AtoiErrMem
import Derived.Deep.QuietTactic
import Derived.BigQuiet
import Derived.Deep.LoopGhost
import Derived.Deep.CutBlock
import Derived.Deep.DeepCutAuto
import Derived.Laws.IdiomStrings
import Derived.Test.YtobgbmfpicmpcaaGreatDoorC02
import Derived.Test.YtobgbmfpicmpcaaGreatDoorC03
namespace Go.Proofs.YtobgbmfpicmpcaaGreatDoor
open Go.RowKit
def Sees (w:World) (k:Nat) (v:Value) (n:Nat) (xs:List Value):Prop:=
 xs.length=n*k∧∃ao cap,v=.slice ao n cap∧n≤cap∧(0<n→∃g o,ao=some ⟨g,o,none⟩∧∀j u,xs[j]?=some u→w.cell? ⟨g,o+j,none⟩=some u)
theorem sees_of_own {w:World} {B k n:Nat} {T:TypeId} {v:Value} {xs:List Value} (h:w.ownsRow B T k v n xs) (hl:xs.length=n*k):Sees w k v n xs:=by
 refine⟨hl,?_⟩
 rcases h.2 with ⟨hv,h0⟩|⟨g,cap,cur,hv,hb,hg,hnc,_⟩
 ·exact⟨none,0,by rw[hv,h0],by omega,fun h=>by omega⟩
 ·refine⟨_,cap,hv,hnc,fun _=>⟨g,0,rfl,fun j u hu=>?_⟩⟩
  have hj:j<xs.length:=by
   by_cases hj:j<xs.length
   ·exact hj
   ·rw[List.getElem?_eq_none (by omega)] at hu;cases hu
  rw[hv] at h
  rw[Nat.zero_add,←hu]
  exact h.cellAt _ (by omega)
theorem Sees.below {w w':World} {k n:Nat} {v:Value} {xs:List Value} (h:Sees w k v n xs) (hb:Below w.heap.size w w'):Sees w' k v n xs:=by
 obtain⟨hl,ao,cap,rfl,hc,hs⟩:=h
 refine⟨hl,ao,cap,rfl,hc,fun hn=>?_⟩
 obtain⟨g,o,rfl,hx⟩:=hs hn
 refine⟨g,o,rfl,fun j u hu=>?_⟩
 have h1:=hx j u hu
 have hg:(⟨g,o+j,none⟩:Addr).block<w.heap.size:=Lib.lt_of_cell h1
 rw[hb.cell hg];exact h1
theorem sees_at {α:Type} {w:World} {k n cap:Nat} {ao:Option Addr} {l:List α} (f:α→List Value) (hk:∀a,(f a).length=k) (h:Sees w k (.slice ao n cap) l.length (l.flatMap f)) {i:Nat} (hi:i<l.length):
  ∃g o,ao=some ⟨g,o,none⟩∧∀j,j<k→w.cell? ⟨g,o+i*k+j,none⟩=(f l[i])[j]?:=by
 obtain⟨hl,ao',cap',e,hc,hs⟩:=h
 injection e with e1 e2 e3
 subst e1
 obtain⟨g,o,rfl,hx⟩:=hs (by omega)
 refine⟨g,o,rfl,fun j hj=>?_⟩
 have hget:=flat_at f hk l i hi j hj
 have hsome:(f l[i])[j]?=some ((f l[i])[j]'(by rw[hk];exact hj)):=List.getElem?_eq_getElem _
 rw[Nat.add_assoc,hx _ _ (by rw[hget,hsome]),hsome]
theorem sees_slice {α:Type} {w:World} {k:Nat} {v:Value} {l:List α} {xs:List Value} (h:Sees w k v l.length xs):∃ao cap,v=.slice ao l.length cap∧l.length≤cap:=by
 obtain⟨_,ao,cap,e,hc,_⟩:=h
 exact⟨ao,cap,e,hc⟩
def I64 (n:Int):Prop:=-9223372036854775808≤n∧n≤9223372036854775807
def Tab (w : World) : Prop := Lib.TabIs Tryz.prog w "internal/strconv.uint64pow10" .u64 Lib.pow10Tab
theorem gPow : Tryz.prog.globalNamed "internal/strconv.uint64pow10" = some 0 := by kernel_rfl
theorem Tab.below {w w':World} (h:Tab w) (hb:Below w.heap.size w w'):Tab w':=Joins.tab_stays gPow h hb (Nat.le_refl _)
theorem below_grow (w:World) (os:Array Obj):Below w.heap.size w (Sort.grow w os):=
 ⟨rfl,rfl,rfl,by simp[Sort.grow],fun k hk=>by simp only[Sort.grow];rw[Array.getElem?_append_left hk]⟩
theorem itoa_ {W:World} {n:Int} (hn:I64 n) (ht:Tab W):Calls Tryz.prog 36 #[.int .i64 n] W fun e W'=>e=.returned (.string (decB n))∧Below W.heap.size W W':=by
 refine(Tryz.strconv_Itoa n hn.1 hn.2 W ht).mono ?_
 rintro e W' ⟨rfl,k,os,rfl⟩
 exact⟨rfl,(Joins.below_draws _ W k).trans (below_grow (W.drewN k) os)⟩
structure WI (W0:World) (b:Nat) (ws:List ByteArray) (w:World):Prop where
 low:Below W0.heap.size W0 w
 nb:W0.heap.size≤b
 box:∃v,Loc w b #[v] 97∧w.ownsRow W0.heap.size 9 1 v ws.length (strs ws)
section
variable {W0 w w2:World} {b:Nat} {ws:List ByteArray}
theorem WI.quiet (h:WI W0 b ws w) (g:w.grownBy w2 none):WI W0 b ws w2:=by
 obtain⟨v,hl,hr⟩:=h.box
 exact⟨⟨g.os.trans h.low.os,g.tape.trans h.low.tape,g.output.trans h.low.output,Nat.le_trans h.low.size g.size,fun k hk=>(g.block k (Nat.lt_of_lt_of_le hk h.low.size) (by simp)).trans (h.low.block k hk)⟩,h.nb,v,hl.grown g (by simp),kept_none hr g⟩
theorem WI.later (h:WI W0 b ws w) (hb:Below w.heap.size w w2):WI W0 b ws w2:=h.quiet (grown_below hb none)
theorem WI.alloc (h:WI W0 b ws w) (o:Obj):WI W0 b ws (w.alloc o):=h.quiet (grown_alloc w o none)
theorem WI.drew (h:WI W0 b ws w) (n:Nat):WI W0 b ws (w.drewN n):=h.quiet (grown_drew w n none)
theorem WI.tab (h:WI W0 b ws w) (ht:Tab W0):Tab w:=ht.below h.low
end
def FrW (w w':World):Prop:=∀x cs T',Loc w x cs T'→T'≠9→T'≠97→Loc w' x cs T'
theorem FrW.refl (w:World):FrW w w:=fun _ _ _ h _ _=>h
theorem FrW.trans {a b c:World} (h:FrW a b) (k:FrW b c):FrW a c:=fun x cs T hl h1 h2=>k x cs T (h x cs T hl h1 h2) h1 h2
theorem FrW.quiet {w w':World} (g:w.grownBy w' none):FrW w w':=fun _ _ _ hl _ _=>hl.grown g (by simp)
theorem FrW.alloc {w w':World} (h:FrW w w') (o:Obj):FrW w (w'.alloc o):=h.trans (FrW.quiet (grown_alloc w' o none))
theorem FrW.later {w w' w2:World} (h:FrW w w') (hb:Below w'.heap.size w' w2):FrW w w2:=h.trans (FrW.quiet (grown_below hb none))
set_option maxRecDepth 100000 in
set_option maxHeartbeats 2000000 in
theorem add_ {W0 W:World} {b g m:Nat} {ws new:List ByteArray} {cs:Array Value} (h:WI W0 b ws W) (hg:Loc W g cs 9) (hcs:cs.toList=strs new) (hm:new.length=m) (hm0:0<m) (hl:ws.length+m≤3000):
  Calls Tryz.prog 104 #[.pointer (some ⟨b,0,none⟩),.slice (some ⟨g,0,none⟩) m m] W fun e W'=>e=.returned (.tuple #[])∧WI W0 b (ws++new) W'∧FrW W W':=by
 obtain⟨i1,hj,hy0,hy1,hy2⟩:=info_parts Tryz.infoString
 obtain⟨v,hb,hr⟩:=h.box
 obtain⟨ao,cap,rfl,hcap⟩:=row_slice (l:=ws) hr
 have c0:=hb.at_ 0 (.slice ao ws.length cap) rfl
 have HN:Hid (∀j u,(strs new)[j]?=some u→W.cell? ((⟨g,0,none⟩:Addr).add j)=some u):=by
  show ∀j u,(strs new)[j]?=some u→_
  rw[←hcs]
  exact World.news_of_block hg
 have HO:Hid (∀u∈strs new,u.oneCell'=true):=by
  intro u hu
  obtain⟨s,_,rfl⟩:=List.mem_map.1 hu
  rfl
 have HL:Hid ((strs new).length=m*1):=by show _=_;rw[strs_length,hm,Nat.mul_one]
 have HB:=Lib.hid hb
 have HR:=Lib.hid hr
 have HH:=Lib.hid h
 have HM:=Lib.hid hm
 clear h hb hr hg hcs hm
 go_enter Tryz.func104,Tryz.ntmps104
 go_wp2_with (at_builtin;go_must (refine wpList_append_lies _ rfl _ _ 56 rfl W0.heap.size 9 i1 (.string ⟨#[]⟩) 1 16 Tryz.underlying56 hj hy0 hy1 hy2 rfl (by decide) (.slice ao ws.length cap) _ _ rfl HR.out _ m m (strs new) rfl HL.out HN.out HO.out hm0 (by unfold maxLen;omega) (by omega) HH.out.low.size _ rfl ?_;intro g2 cap2 w5 hown hgrow _ _;have l5:=HB.out.byRow HR.out hgrow (by decide);have c5:w5.cell? ⟨b,0,none⟩=some (.slice ao ws.length cap):=(l5.cell 0).trans rfl;have f5:w5.frozen? ⟨b,0,none⟩=false:=l5.free 0;have HL5:=Lib.hid l5;have HO5:=Lib.hid hown;have HG5:=Lib.hid hgrow;clear l5 hown hgrow c0))
 go_end0
 refine⟨rfl,⟨?_,HH.out.nb,_,HL5.out.set 0 _,?_⟩,?_⟩
 ·have hB:=HH.out.low
  have hb1:Below W0.heap.size W0 w5:=by
   refine⟨HG5.out.os.trans hB.os,HG5.out.tape.trans hB.tape,HG5.out.output.trans hB.output,Nat.le_trans hB.size HG5.out.size,fun k hk=>?_⟩
   refine(HG5.out.block k (Nat.lt_of_lt_of_le hk hB.size) ?_).trans (hB.block k hk)
   intro e
   have:=(HR.out.lt k e.symm).1
   omega
  exact hb1.setCell (by show W0.heap.size≤b;exact HH.out.nb) _
 ·have hg2:=grown_set w5 b 0 (.slice (some ⟨g2,0,none⟩) (ws.length+m) cap2)
  have hk:=HO5.out.kept hg2 (Or.inr (row_loc HO5.out HL5.out (by decide)))
  rw[strs_append,List.length_append,HM.out]
  exact hk
 ·intro x cs' T' hx h1 h2
  have h3:=hx.byRow HR.out HG5.out (fun e=>h1 e.symm)
  refine h3.setOther ?_ 0 _
  rintro rfl
  have h4:=HL5.out
  unfold Loc at h3 h4
  rw[h3] at h4
  injection h4 with h4
  injection h4 with _ h4
  exact h2 h4
set_option maxRecDepth 100000 in
set_option maxHeartbeats 2000000 in
theorem betweenNo {W0 W:World} {b:Nat} {n:Int} {ws:List ByteArray} {s:ByteArray} (h:WI W0 b ws W) (hn:¬0<n):
  Calls Tryz.prog 168 #[.pointer (some ⟨b,0,none⟩),.int .i64 n,.string s] W fun e W'=>e=.returned (.tuple #[])∧WI W0 b ws W'∧FrW W W':=by
 have HH:=Lib.hid h
 clear h
 go_enter Tryz.func168,Tryz.ntmps168
 go_wp2_with fail
 go_end0
 exact⟨rfl,HH.out,FrW.refl _⟩
set_option maxRecDepth 100000 in
set_option maxHeartbeats 2000000 in
theorem betweenYes {W0 W:World} {b k:Nat} {ws:List ByteArray} {s:ByteArray} (h:WI W0 b ws W) (hk:0<k) (hl:ws.length≤2900):
  Calls Tryz.prog 168 #[.pointer (some ⟨b,0,none⟩),.int .i64 (k:Int),.string s] W fun e W'=>e=.returned (.tuple #[])∧WI W0 b (ws++[s]) W'∧FrW W W':=by
 have hki:0<(k:Int):=by omega
 have HH:=Lib.hid (h.alloc (.cells #[.string s] 9))
 have HG:=Lib.hid (Loc.new W #[.string s] 9)
 clear h hk
 go_enter Tryz.func168,Tryz.ntmps168
 go_wp2_with fail
 refine(add_ (m:=1) (new:=[s]) HH.out HG.out rfl rfl (by omega) (by omega)).mono ?_
 rintro e W1 ⟨rfl,h1,f1⟩
 have H1:=Lib.hid h1
 have F1:Hid (FrW W W1):=((FrW.refl W).alloc _).trans f1
 clear h1 f1
 go_wp2_with fail
 go_end0
 exact⟨rfl,H1.out,F1.out⟩
end Go.Proofs.YtobgbmfpicmpcaaGreatDoor

/- What is read can be written; two queries that are the same; what Format answers, by either text. No program in this text. -/
namespace Go.Proofs.YtobgbmfpicmpcaaGreatDoor
def eqTerm (a b:PTerm):Bool:=eqB a.name b.name&&eqB a.key b.key&&decide (a.val=b.val)
def eqSpot (a b:PSpot):Bool:=eqB a.name b.name&&eqB a.label b.label&&eqB a.type b.type&&decide (a.least=b.least)&&decide (a.most=b.most)
def eqCond (a b:PCond):Bool:=decide (a.op=b.op)&&eqTerm a.a b.a&&eqTerm a.b b.b
def eqItem (a b:PItem):Bool:=eqB a.name b.name&&eqB a.key b.key
def eqPair (a b:PPair):Bool:=eqB a.key b.key&&decide (a.val=b.val)
def eqL {α:Type} (f:α→α→Bool):List α→List α→Bool
 | [],[]=>true
 | a::r,b::s=>f a b&&eqL f r s
 | _,_=>false
def eqRest (a b:PQuery):Bool:=
 decide (a.kind=b.kind)&&decide (a.order=b.order)&&decide (a.down=b.down)&&decide (a.skip=b.skip)&&decide (a.limit=b.limit)&&eqB a.name b.name&&eqB a.key b.key&&eqTerm a.value b.value&&eqB a.type b.type&&eqB a.to b.to&&eqB a.label b.label
def eqQ (a b:PQuery):Bool:=eqL eqSpot a.spots b.spots&&eqL eqCond a.conds b.conds&&eqL eqItem a.items b.items&&eqL eqPair a.pairs b.pairs&&eqRest a b
def tooMany (q:PQuery):Bool:=decide (6<q.spots.length) || decide (6<q.conds.length) || decide (6<q.items.length) || decide (6<q.pairs.length)
def fmtOf (tk:ByteArray→Option (List Tok)) (t:List UInt8) (q:PQuery):ByteArray × Int:=
 if tooMany q then (e0,3)
 else if decide ((parseText (tk ⟨t.toArray⟩)).2≠0) || !eqQ (parseText (tk ⟨t.toArray⟩)).1 q then (e0,3) else (⟨t.toArray⟩,0)
end Go.Proofs.YtobgbmfpicmpcaaGreatDoor
namespace Go.Proofs.YtobgbmfpicmpcaaGreatDoor.Pure
theorem eqB_refl (a:ByteArray):eqB a a=true:=by unfold eqB;simp
theorem eqB_iff {a b:ByteArray}:eqB a b=true↔a=b:=⟨eqB_eq,fun h=>h▸eqB_refl a⟩
theorem eqTerm_iff {a b:PTerm}:eqTerm a b=true↔a=b:=by
 cases a;cases b;simp[eqTerm,eqB_iff,and_assoc]
theorem eqSpot_iff {a b:PSpot}:eqSpot a b=true↔a=b:=by
 cases a;cases b;simp[eqSpot,eqB_iff,and_assoc]
theorem eqCond_iff {a b:PCond}:eqCond a b=true↔a=b:=by
 cases a;cases b;simp[eqCond,eqTerm_iff,and_assoc]
theorem eqItem_iff {a b:PItem}:eqItem a b=true↔a=b:=by
 cases a;cases b;simp[eqItem,eqB_iff]
theorem eqPair_iff {a b:PPair}:eqPair a b=true↔a=b:=by
 cases a;cases b;simp[eqPair,eqB_iff]
theorem eqL_iff {α:Type} {f:α→α→Bool} (hf:∀{a b},f a b=true↔a=b):∀{l m:List α},eqL f l m=true↔l=m
 | [],[]=>by simp[eqL]
 | [],_::_=>by simp[eqL]
 | _::_,[]=>by simp[eqL]
 | a::r,b::s=>by simp[eqL,hf,eqL_iff hf]
theorem eqQ_iff {a b:PQuery}:eqQ a b=true↔a=b:=by
 cases a;cases b
 simp only[eqQ,eqRest,Bool.and_eq_true,eqL_iff eqSpot_iff,eqL_iff eqCond_iff,eqL_iff eqItem_iff,eqL_iff eqPair_iff,eqB_iff,eqTerm_iff,decide_eq_true_eq,PQuery.mk.injEq]
 constructor
 ·rintro ⟨⟨⟨⟨h1,h2⟩,h3⟩,h4⟩,⟨⟨⟨⟨⟨⟨⟨⟨⟨⟨h5,h6⟩,h7⟩,h8⟩,h9⟩,h10⟩,h11⟩,h12⟩,h13⟩,h14⟩,h15⟩⟩
  exact⟨h5,h1,h2,h3,h6,h7,h8,h9,h10,h11,h12,h13,h14,h15,h4⟩
 ·rintro ⟨h5,h1,h2,h3,h6,h7,h8,h9,h10,h11,h12,h13,h14,h15,h4⟩
  exact⟨⟨⟨⟨h1,h2⟩,h3⟩,h4⟩,⟨⟨⟨⟨⟨⟨⟨⟨⟨⟨h5,h6⟩,h7⟩,h8⟩,h9⟩,h10⟩,h11⟩,h12⟩,h13⟩,h14⟩,h15⟩⟩
theorem good_of {a b:Bool} (h:a=true→b=true) (hb:b=false):a=false:=by
 cases a
 ·rfl
 ·rw[h rfl] at hb;cases hb
theorem opLoop_range:∀(l:List ByteArray) (i:Int) (st:RS),1≤i→(opLoop l i st).1=0∨(1≤(opLoop l i st).1∧(opLoop l i st).1<i+l.length)
 | [],i,st,_=>by simp[opLoop]
 | m::r,i,st,h=>by
  unfold opLoop
  split
  ·right;simp;omega
  ·rcases opLoop_range r (i+1) st (by omega) with e|⟨a,b⟩
   ·exact Or.inl e
   ·right;refine⟨a,?_⟩;simp only[List.length_cons];omega
theorem cond_op {st:RS} (h:(condR st).2.bad=false):1≤(condR st).1.op∧(condR st).1.op≤8:=by
 unfold condR at h⊢
 simp only at h⊢
 split
 ·simp only
  split<;>omega
 ·rename_i hp
  rw[if_neg hp] at h
  simp only at h⊢
  have h1:=good_of (termR_bad (st:=(opLoop opsR 1 (termR st).2).2.orBad (decide ((opLoop opsR 1 (termR st).2).1=0)))) h
  have hr:=opLoop_range opsR 1 (termR st).2 (by omega)
  have hl:opsR.length=6:=rfl
  rw[hl] at hr
  unfold RS.orBad at h1
  simp only[Bool.or_eq_false_iff,decide_eq_false_iff_not] at h1
  omega
theorem condLoop_op (n:Nat):∀(out:List PCond) (st:RS),(condLoop n out st).2.bad=false→(∀c∈out,1≤c.op∧c.op≤8)→∀c∈(condLoop n out st).1,1≤c.op∧c.op≤8:=by
 induction n with
 | zero=>intro out st _ h;exact h
 | succ n ih=>
  intro out st hb h
  unfold condLoop at hb⊢
  simp only at hb⊢
  split
  ·rename_i hp
   rw[if_pos hp] at hb
   refine ih _ _ hb ?_
   intro c hc
   rcases List.mem_append.1 hc with hc|hc
   ·exact h c hc
   ·rw[List.mem_singleton.1 hc]
    exact cond_op (by simpa using (Bool.and_eq_true_iff.1 hp).1)
  ·rename_i hp
   rw[if_neg hp] at hb
   intro c hc
   rcases List.mem_append.1 hc with hc|hc
   ·exact h c hc
   ·rw[List.mem_singleton.1 hc]
    exact cond_op hb
theorem match_op {st:RS} (h:(matchR st).2.bad=false):∀c∈(matchR st).1.2,1≤c.op∧c.op≤8:=by
 unfold matchR at h⊢
 simp only[RS.orBad,Bool.or_eq_false_iff] at h⊢
 by_cases hp:(!(matchLoop (st.rest.length+1) [] (mustR kMATCH st)).2.bad&&peekR kWHERE (matchLoop (st.rest.length+1) [] (mustR kMATCH st)).2)=true
 ·simp only[hp,if_true] at h⊢
  exact condLoop_op _ _ _ h.1 (fun c hc=>by cases hc)
 ·simp only[hp] at h⊢
  intro c hc;cases hc
theorem itemLoop_ge (n:Nat):∀(out:List PItem) (st:RS),out.length≤(itemLoop n out st).1.length:=by
 induction n with
 | zero=>intro out st;exact Nat.le_refl _
 | succ n ih=>
  intro out st
  unfold itemLoop
  simp only
  split
  ·exact Nat.le_refl _
  ·split
   ·exact Nat.le_trans (by simp) (ih _ _)
   ·simp
theorem items_ne {st:RS} (h:(itemsR st).2.bad=false):(itemsR st).1.items≠[]:=by
 have hb:st.bad=false:=by
  refine good_of (fun e=>?_) h
  unfold itemsR
  refine orBad_bad (partR_bad (partR_bad (orderR_bad ?_)))
  unfold itemLoop
  simp[e]
 have:1≤(itemsR st).1.items.length:=by
  unfold itemsR
  simp only
  unfold itemLoop
  simp only[hb,Bool.false_eq_true,if_false]
  split
  ·exact Nat.le_trans (by simp) (itemLoop_ge _ _ _)
  ·simp
 intro e
 rw[e] at this
 simp at this
theorem query_writable {st:RS} (h:(queryR st).2.bad=false):Writable (queryR st).1:=by
 have hk:=(shape st h).kin
 refine⟨hk,?_,?_⟩
 ·unfold queryR at h⊢
  by_cases h1:peekR kCREATE st=true
  ·simp[h1,query0]
  ·by_cases h2:peekR kCALL st=true
   ·simp[h1,h2,query0]
   ·simp only[h1,h2,if_false,Bool.false_eq_true] at h⊢
    by_cases hb:(matchR st).2.bad=true
    ·simp[hb] at h
    ·have hb2:(matchR st).2.bad=false:=by simpa using hb
     simp only[hb2,Bool.false_eq_true,if_false] at h⊢
     have hc:(behindR {query0 with spots:=(matchR st).1.1,conds:=(matchR st).1.2} (matchR st).2).1.conds=(matchR st).1.2:=by
      unfold behindR
      split
      ·rfl
      ·split
       ·rfl
       ·split<;>rfl
     rw[hc]
     exact match_op hb2
 ·unfold queryR at h⊢
  by_cases h1:peekR kCREATE st=true
  ·simp[h1]
  ·by_cases h2:peekR kCALL st=true
   ·simp[h1,h2]
   ·simp only[h1,h2,if_false,Bool.false_eq_true] at h⊢
    by_cases hb:(matchR st).2.bad=true
    ·simp[hb] at h
    ·have hb2:(matchR st).2.bad=false:=by simpa using hb
     simp only[hb2,Bool.false_eq_true,if_false] at h⊢
     unfold behindR at h⊢
     by_cases h3:peekR kRETURN (matchR st).2=true
     ·simp only[h3,if_true] at h⊢
      intro _
      exact items_ne h
     ·by_cases h4:peekR kSET (matchR st).2=true
      ·simp[h3,h4]
      ·by_cases h5:peekR kDELETE (matchR st).2=true
       ·simp[h3,h4,h5]
       ·simp[h3,h4,h5]
theorem parse_writable (t:Option (List Tok)) (h:(parseText t).2=0):Writable (parseText t).1:=by
 cases t with
 | none=>simp[parseText] at h
 | some ts=>
  unfold parseText parseR at h⊢
  simp only at h⊢
  split
  ·rename_i hb;rw[if_pos hb] at h;simp at h
  ·rename_i hb
   rw[if_neg hb] at h
   split
   ·refine query_writable ?_
    simp only[Bool.or_eq_true,not_or] at hb
    simpa using hb.1
   ·rename_i hs;rw[if_neg hs] at h;simp at h
theorem fmt_eq (tk:ByteArray→Option (List Tok)) (q:PQuery):fmtOf tk (joined (queryW q)) q=fmtOf tk (queryT q) q:=by
 by_cases hw:Writable q
 ·rw[text_eq hw]
 ·have key:∀t:List UInt8,fmtOf tk t q=(e0,3):=by
   intro t
   unfold fmtOf
   split
   ·rfl
   ·by_cases he:(parseText (tk ⟨t.toArray⟩)).2=0
    ·have hn:eqQ (parseText (tk ⟨t.toArray⟩)).1 q=false:=by
      cases h:eqQ (parseText (tk ⟨t.toArray⟩)).1 q
      ·rfl
      ·rw[←eqQ_iff.1 h] at hw
       exact absurd (parse_writable _ he) hw
     rw[hn];simp
    ·rw[if_pos (by simp[he])]
  rw[key,key]
end Go.Proofs.YtobgbmfpicmpcaaGreatDoor.Pure

/- slices.Equal of the lists of a query: are they the same? -/
namespace Go.Proofs.YtobgbmfpicmpcaaGreatDoor
open Go.RowKit
theorem eqL_len {α:Type} (f:α→α→Bool):∀{l m:List α},eqL f l m=true→l.length=m.length
 | [],[],_=>rfl
 | [],_::_,h=>by simp[eqL] at h
 | _::_,[],h=>by simp[eqL] at h
 | a::r,b::s,h=>by
  simp only[eqL,Bool.and_eq_true] at h
  simp[eqL_len f h.2]
theorem eqL_next {α:Type} (f:α→α→Bool):∀{l m:List α} {k:Nat} (h1:k<l.length) (h2:k<m.length),eqL f (l.take k) (m.take k)=true→f l[k] m[k]=true→eqL f (l.take (k+1)) (m.take (k+1))=true
 | [],_,_,h,_,_,_=>by simp at h
 | _::_,[],_,_,h,_,_=>by simp at h
 | a::r,b::s,0,_,_,_,e=>by simpa [eqL] using e
 | a::r,b::s,k+1,h1,h2,ht,e=>by
  simp only[List.take_succ_cons,eqL,Bool.and_eq_true] at ht⊢
  exact⟨ht.1,eqL_next f (by simpa using h1) (by simpa using h2) ht.2 (by simpa using e)⟩
theorem eqL_diff {α:Type} (f:α→α→Bool):∀{l m:List α} {k:Nat} (h1:k<l.length) (h2:k<m.length),f l[k] m[k]=false→eqL f l m=false
 | [],_,_,h,_,_=>by simp at h
 | _::_,[],_,_,h,_=>by simp at h
 | a::r,b::s,0,_,_,e=>by simp only[List.getElem_cons_zero] at e;simp[eqL,e]
 | a::r,b::s,k+1,h1,h2,e=>by
  have:=eqL_diff f (l:=r) (m:=s) (k:=k) (by simpa using h1) (by simpa using h2) (by simpa using e)
  simp[eqL,this]
theorem toList_ne {a b:ByteArray} (h:a≠b):(a.toList==b.toList)=false:=by
 cases he:(a.toList==b.toList)
 ·rfl
 ·exact absurd (Pure.eqB_eq (a:=a) (b:=b) he) h
theorem drew_drew (w:World) (a b:Nat):(w.drewN a).drewN b=w.drewN (a+b):=by simp[World.drewN,Nat.add_assoc]
set_option maxRecDepth 100000 in
set_option maxHeartbeats 9000000 in
theorem eqSpots {W:World} {v1 v2:Value} {l m:List PSpot} (h1:Sees W 5 v1 l.length (spotCells l)) (h2:Sees W 5 v2 m.length (spotCells m)) (n2:m.length≤3000):
  Calls Tryz.prog 112 #[v1,v2] W fun e W'=>e=.returned (.bool (eqL eqSpot l m))∧∃n,W'=W.drewN n:=by
 obtain⟨a1,k1,rfl,hk1⟩:=sees_slice (l:=l) h1
 obtain⟨a2,k2,rfl,hk2⟩:=sees_slice (l:=m) h2
 have HS1:=Lib.hid h1
 have HS2:=Lib.hid h2
 clear h1 h2
 by_cases hlen:l.length=m.length
 ·rw[hlen]
  have HL:=Lib.hid hlen
  have hnb:((m.length:Int) != (m.length:Int))=false:=by simp
  clear hlen
  go_enter Tryz.func112,Tryz.ntmps112
  go_wp2_with fail
  go_loopg [13] m.length (fun n iv w=>∃k:Nat,iv=.int .i64 (k:Int)∧k+n=m.length∧eqL eqSpot (l.take k) (m.take k)=true∧∃d,w=W.drewN d)
  case atStart=>exact⟨0,rfl,by omega,rfl,0,rfl⟩
  case round=>
   obtain⟨k,rfl,hk,he,d,rfl⟩:=hrel
   have HE:=Lib.hid he
   clear he
   by_cases hlt:k<m.length
   ·have hlt1:k<l.length:=by have:=HL.out;omega
    obtain⟨g,o,rfl,ca⟩:=sees_at (l:=l) fSpot (fun _=>rfl) HS1.out hlt1
    obtain⟨g',o',rfl,cb⟩:=sees_at (l:=m) fSpot (fun _=>rfl) HS2.out hlt
    have HD:Hid (eqSpot l[k] m[k]=false→eqL eqSpot l m=false):=eqL_diff eqSpot hlt1 hlt
    have HN:Hid (eqSpot l[k] m[k]=true→eqL eqSpot (l.take (k+1)) (m.take (k+1))=true):=eqL_next eqSpot hlt1 hlt HE.out
    obtain⟨p,hp⟩:∃p,l[k]=p:=⟨_,rfl⟩
    obtain⟨r,hr⟩:∃r,m[k]=r:=⟨_,rfl⟩
    rw[hp] at ca HD HN
    rw[hr] at cb HD HN
    clear hp hr
    obtain⟨p0,p1,p2,p3,p4⟩:=p
    obtain⟨r0,r1,r2,r3,r4⟩:=r
    have x0:W.cell? ⟨g,o+k*5,none⟩=some (.string p0):=ca 0 (by decide)
    have y0:W.cell? ⟨g',o'+k*5,none⟩=some (.string r0):=cb 0 (by decide)
    have x1:W.cell? ⟨g,o+k*5+1,none⟩=some (.string p1):=ca 1 (by decide)
    have y1:W.cell? ⟨g',o'+k*5+1,none⟩=some (.string r1):=cb 1 (by decide)
    have x2:W.cell? ⟨g,o+k*5+2,none⟩=some (.string p2):=ca 2 (by decide)
    have y2:W.cell? ⟨g',o'+k*5+2,none⟩=some (.string r2):=cb 2 (by decide)
    have x3:W.cell? ⟨g,o+k*5+3,none⟩=some (.int .i64 p3):=ca 3 (by decide)
    have y3:W.cell? ⟨g',o'+k*5+3,none⟩=some (.int .i64 r3):=cb 3 (by decide)
    have x4:W.cell? ⟨g,o+k*5+4,none⟩=some (.int .i64 p4):=ca 4 (by decide)
    have y4:W.cell? ⟨g',o'+k*5+4,none⟩=some (.int .i64 r4):=cb 4 (by decide)
    have hki:(k:Int)<(m.length:Int):=by omega
    clear ca cb hlt hlt1
    by_cases e0:p0≠r0
    ·have hne:(p0.toList==r0.toList)=false:=toList_ne e0
     have HQ:Hid (eqL eqSpot l m=false):=HD.out (by rw[Bool.eq_false_iff];intro h;have:=Pure.eqSpot_iff.1 h;simp at this;exact e0 (by simp[this]))
     clear e0 HD HN
     go_wp2_with fail
     go_quiet (fail)
     go_wp2_with fail
     go_ret
     exact⟨by rw[HQ.out];rfl,_,drew_drew _ _ _⟩
    rw[ne_eq,Classical.not_not] at e0
    subst e0
    by_cases e1:p1≠r1
    ·have hne:(p1.toList==r1.toList)=false:=toList_ne e1
     have HQ:Hid (eqL eqSpot l m=false):=HD.out (by rw[Bool.eq_false_iff];intro h;have:=Pure.eqSpot_iff.1 h;simp at this;exact e1 (by simp[this]))
     clear e1 HD HN
     go_wp2_with fail
     go_quiet (fail)
     go_wp2_with fail
     go_ret
     exact⟨by rw[HQ.out];rfl,_,drew_drew _ _ _⟩
    rw[ne_eq,Classical.not_not] at e1
    subst e1
    by_cases e2:p2≠r2
    ·have hne:(p2.toList==r2.toList)=false:=toList_ne e2
     have HQ:Hid (eqL eqSpot l m=false):=HD.out (by rw[Bool.eq_false_iff];intro h;have:=Pure.eqSpot_iff.1 h;simp at this;exact e2 (by simp[this]))
     clear e2 HD HN
     go_wp2_with fail
     go_quiet (fail)
     go_wp2_with fail
     go_ret
     exact⟨by rw[HQ.out];rfl,_,drew_drew _ _ _⟩
    rw[ne_eq,Classical.not_not] at e2
    subst e2
    by_cases e3:p3≠r3
    ·have hne:(p3==r3)=false:=by simpa using e3
     have HQ:Hid (eqL eqSpot l m=false):=HD.out (by rw[Bool.eq_false_iff];intro h;have:=Pure.eqSpot_iff.1 h;simp at this;exact e3 (by simp[this]))
     clear e3 HD HN
     go_wp2_with fail
     go_quiet (fail)
     go_wp2_with fail
     go_ret
     exact⟨by rw[HQ.out];rfl,_,drew_drew _ _ _⟩
    rw[ne_eq,Classical.not_not] at e3
    subst e3
    by_cases e4:p4≠r4
    ·have hne:(p4==r4)=false:=by simpa using e4
     have HQ:Hid (eqL eqSpot l m=false):=HD.out (by rw[Bool.eq_false_iff];intro h;have:=Pure.eqSpot_iff.1 h;simp at this;exact e4 (by simp[this]))
     clear e4 HD HN
     go_wp2_with fail
     go_quiet (fail)
     go_wp2_with fail
     go_ret
     exact⟨by rw[HQ.out];rfl,_,drew_drew _ _ _⟩
    rw[ne_eq,Classical.not_not] at e4
    subst e4
    have HQ:=Lib.hid (HN.out (Pure.eqSpot_iff.2 rfl))
    clear HD HN
    go_wp2_with fail
    go_quiet (fail)
    go_wp2_with fail
    go_roundg (gk - 1)
    case measure=>omega
    case rel=>exact⟨k+1,by simp,by omega,HQ.out,d+nq,by first|rfl|exact drew_drew _ _ _⟩
   ·have hki:¬(k:Int)<(m.length:Int):=by omega
    have HK:Hid (eqL eqSpot l m=true):=by
     have h:=HE.out
     have hkm:k=m.length:=by omega
     rw[hkm,List.take_length] at h
     rw[show m.length=l.length from HL.out.symm,List.take_length] at h
     exact h
    go_wp2_with fail
    go_ret
    exact⟨by rw[HK.out];rfl,_,rfl⟩
 ·have HF:Hid (eqL eqSpot l m=false):=by
   show _=_
   cases h:eqL eqSpot l m
   ·rfl
   ·exact absurd (eqL_len _ h) hlen
  have hnb:((l.length:Int) != (m.length:Int))=true:=by simp only[bne_iff_ne];omega
  clear hlen
  go_enter Tryz.func112,Tryz.ntmps112
  go_wp2_with fail
  go_ret
  exact⟨by rw[HF.out];rfl,0,rfl⟩
set_option maxRecDepth 100000 in
set_option maxHeartbeats 9000000 in
theorem eqConds {W:World} {v1 v2:Value} {l m:List PCond} (h1:Sees W 7 v1 l.length (condCells l)) (h2:Sees W 7 v2 m.length (condCells m)) (n2:m.length≤3000):
  Calls Tryz.prog 113 #[v1,v2] W fun e W'=>e=.returned (.bool (eqL eqCond l m))∧∃n,W'=W.drewN n:=by
 obtain⟨a1,k1,rfl,hk1⟩:=sees_slice (l:=l) h1
 obtain⟨a2,k2,rfl,hk2⟩:=sees_slice (l:=m) h2
 have HS1:=Lib.hid h1
 have HS2:=Lib.hid h2
 clear h1 h2
 by_cases hlen:l.length=m.length
 ·rw[hlen]
  have HL:=Lib.hid hlen
  have hnb:((m.length:Int) != (m.length:Int))=false:=by simp
  clear hlen
  go_enter Tryz.func113,Tryz.ntmps113
  go_wp2_with fail
  go_loopg [13] m.length (fun n iv w=>∃k:Nat,iv=.int .i64 (k:Int)∧k+n=m.length∧eqL eqCond (l.take k) (m.take k)=true∧∃d,w=W.drewN d)
  case atStart=>exact⟨0,rfl,by omega,rfl,0,rfl⟩
  case round=>
   obtain⟨k,rfl,hk,he,d,rfl⟩:=hrel
   have HE:=Lib.hid he
   clear he
   by_cases hlt:k<m.length
   ·have hlt1:k<l.length:=by have:=HL.out;omega
    obtain⟨g,o,rfl,ca⟩:=sees_at (l:=l) fCond (fun _=>rfl) HS1.out hlt1
    obtain⟨g',o',rfl,cb⟩:=sees_at (l:=m) fCond (fun _=>rfl) HS2.out hlt
    have HD:Hid (eqCond l[k] m[k]=false→eqL eqCond l m=false):=eqL_diff eqCond hlt1 hlt
    have HN:Hid (eqCond l[k] m[k]=true→eqL eqCond (l.take (k+1)) (m.take (k+1))=true):=eqL_next eqCond hlt1 hlt HE.out
    obtain⟨p,hp⟩:∃p,l[k]=p:=⟨_,rfl⟩
    obtain⟨r,hr⟩:∃r,m[k]=r:=⟨_,rfl⟩
    rw[hp] at ca HD HN
    rw[hr] at cb HD HN
    clear hp hr
    obtain⟨p0,⟨p1,p2,p3⟩,⟨p4,p5,p6⟩⟩:=p
    obtain⟨r0,⟨r1,r2,r3⟩,⟨r4,r5,r6⟩⟩:=r
    have x0:W.cell? ⟨g,o+k*7,none⟩=some (.int .i64 p0):=ca 0 (by decide)
    have y0:W.cell? ⟨g',o'+k*7,none⟩=some (.int .i64 r0):=cb 0 (by decide)
    have x1:W.cell? ⟨g,o+k*7+1,none⟩=some (.string p1):=ca 1 (by decide)
    have y1:W.cell? ⟨g',o'+k*7+1,none⟩=some (.string r1):=cb 1 (by decide)
    have x2:W.cell? ⟨g,o+k*7+2,none⟩=some (.string p2):=ca 2 (by decide)
    have y2:W.cell? ⟨g',o'+k*7+2,none⟩=some (.string r2):=cb 2 (by decide)
    have x3:W.cell? ⟨g,o+k*7+3,none⟩=some (.int .i64 p3):=ca 3 (by decide)
    have y3:W.cell? ⟨g',o'+k*7+3,none⟩=some (.int .i64 r3):=cb 3 (by decide)
    have x4:W.cell? ⟨g,o+k*7+4,none⟩=some (.string p4):=ca 4 (by decide)
    have y4:W.cell? ⟨g',o'+k*7+4,none⟩=some (.string r4):=cb 4 (by decide)
    have x5:W.cell? ⟨g,o+k*7+5,none⟩=some (.string p5):=ca 5 (by decide)
    have y5:W.cell? ⟨g',o'+k*7+5,none⟩=some (.string r5):=cb 5 (by decide)
    have x6:W.cell? ⟨g,o+k*7+6,none⟩=some (.int .i64 p6):=ca 6 (by decide)
    have y6:W.cell? ⟨g',o'+k*7+6,none⟩=some (.int .i64 r6):=cb 6 (by decide)
    have hki:(k:Int)<(m.length:Int):=by omega
    clear ca cb hlt hlt1
    by_cases e0:p0≠r0
    ·have hne:(p0==r0)=false:=by simpa using e0
     have HQ:Hid (eqL eqCond l m=false):=HD.out (by rw[Bool.eq_false_iff];intro h;have:=Pure.eqCond_iff.1 h;simp at this;exact e0 (by simp[this]))
     clear e0 HD HN
     go_wp2_with fail
     go_quiet (fail)
     go_wp2_with fail
     go_ret
     exact⟨by rw[HQ.out];rfl,_,drew_drew _ _ _⟩
    rw[ne_eq,Classical.not_not] at e0
    subst e0
    by_cases e1:p1≠r1
    ·have hne:(p1.toList==r1.toList)=false:=toList_ne e1
     have HQ:Hid (eqL eqCond l m=false):=HD.out (by rw[Bool.eq_false_iff];intro h;have:=Pure.eqCond_iff.1 h;simp at this;exact e1 (by simp[this]))
     clear e1 HD HN
     go_wp2_with fail
     go_quiet (fail)
     go_wp2_with fail
     go_ret
     exact⟨by rw[HQ.out];rfl,_,drew_drew _ _ _⟩
    rw[ne_eq,Classical.not_not] at e1
    subst e1
    by_cases e2:p2≠r2
    ·have hne:(p2.toList==r2.toList)=false:=toList_ne e2
     have HQ:Hid (eqL eqCond l m=false):=HD.out (by rw[Bool.eq_false_iff];intro h;have:=Pure.eqCond_iff.1 h;simp at this;exact e2 (by simp[this]))
     clear e2 HD HN
     go_wp2_with fail
     go_quiet (fail)
     go_wp2_with fail
     go_ret
     exact⟨by rw[HQ.out];rfl,_,drew_drew _ _ _⟩
    rw[ne_eq,Classical.not_not] at e2
    subst e2
    by_cases e3:p3≠r3
    ·have hne:(p3==r3)=false:=by simpa using e3
     have HQ:Hid (eqL eqCond l m=false):=HD.out (by rw[Bool.eq_false_iff];intro h;have:=Pure.eqCond_iff.1 h;simp at this;exact e3 (by simp[this]))
     clear e3 HD HN
     go_wp2_with fail
     go_quiet (fail)
     go_wp2_with fail
     go_ret
     exact⟨by rw[HQ.out];rfl,_,drew_drew _ _ _⟩
    rw[ne_eq,Classical.not_not] at e3
    subst e3
    by_cases e4:p4≠r4
    ·have hne:(p4.toList==r4.toList)=false:=toList_ne e4
     have HQ:Hid (eqL eqCond l m=false):=HD.out (by rw[Bool.eq_false_iff];intro h;have:=Pure.eqCond_iff.1 h;simp at this;exact e4 (by simp[this]))
     clear e4 HD HN
     go_wp2_with fail
     go_quiet (fail)
     go_wp2_with fail
     go_ret
     exact⟨by rw[HQ.out];rfl,_,drew_drew _ _ _⟩
    rw[ne_eq,Classical.not_not] at e4
    subst e4
    by_cases e5:p5≠r5
    ·have hne:(p5.toList==r5.toList)=false:=toList_ne e5
     have HQ:Hid (eqL eqCond l m=false):=HD.out (by rw[Bool.eq_false_iff];intro h;have:=Pure.eqCond_iff.1 h;simp at this;exact e5 (by simp[this]))
     clear e5 HD HN
     go_wp2_with fail
     go_quiet (fail)
     go_wp2_with fail
     go_ret
     exact⟨by rw[HQ.out];rfl,_,drew_drew _ _ _⟩
    rw[ne_eq,Classical.not_not] at e5
    subst e5
    by_cases e6:p6≠r6
    ·have hne:(p6==r6)=false:=by simpa using e6
     have HQ:Hid (eqL eqCond l m=false):=HD.out (by rw[Bool.eq_false_iff];intro h;have:=Pure.eqCond_iff.1 h;simp at this;exact e6 (by simp[this]))
     clear e6 HD HN
     go_wp2_with fail
     go_quiet (fail)
     go_wp2_with fail
     go_ret
     exact⟨by rw[HQ.out];rfl,_,drew_drew _ _ _⟩
    rw[ne_eq,Classical.not_not] at e6
    subst e6
    have HQ:=Lib.hid (HN.out (Pure.eqCond_iff.2 rfl))
    clear HD HN
    go_wp2_with fail
    go_quiet (fail)
    go_wp2_with fail
    go_roundg (gk - 1)
    case measure=>omega
    case rel=>exact⟨k+1,by simp,by omega,HQ.out,d+nq,by first|rfl|exact drew_drew _ _ _⟩
   ·have hki:¬(k:Int)<(m.length:Int):=by omega
    have HK:Hid (eqL eqCond l m=true):=by
     have h:=HE.out
     have hkm:k=m.length:=by omega
     rw[hkm,List.take_length] at h
     rw[show m.length=l.length from HL.out.symm,List.take_length] at h
     exact h
    go_wp2_with fail
    go_ret
    exact⟨by rw[HK.out];rfl,_,rfl⟩
 ·have HF:Hid (eqL eqCond l m=false):=by
   show _=_
   cases h:eqL eqCond l m
   ·rfl
   ·exact absurd (eqL_len _ h) hlen
  have hnb:((l.length:Int) != (m.length:Int))=true:=by simp only[bne_iff_ne];omega
  clear hlen
  go_enter Tryz.func113,Tryz.ntmps113
  go_wp2_with fail
  go_ret
  exact⟨by rw[HF.out];rfl,0,rfl⟩
set_option maxRecDepth 100000 in
set_option maxHeartbeats 9000000 in
theorem eqItems {W:World} {v1 v2:Value} {l m:List PItem} (h1:Sees W 2 v1 l.length (itemCells l)) (h2:Sees W 2 v2 m.length (itemCells m)) (n2:m.length≤3000):
  Calls Tryz.prog 114 #[v1,v2] W fun e W'=>e=.returned (.bool (eqL eqItem l m))∧∃n,W'=W.drewN n:=by
 obtain⟨a1,k1,rfl,hk1⟩:=sees_slice (l:=l) h1
 obtain⟨a2,k2,rfl,hk2⟩:=sees_slice (l:=m) h2
 have HS1:=Lib.hid h1
 have HS2:=Lib.hid h2
 clear h1 h2
 by_cases hlen:l.length=m.length
 ·rw[hlen]
  have HL:=Lib.hid hlen
  have hnb:((m.length:Int) != (m.length:Int))=false:=by simp
  clear hlen
  go_enter Tryz.func114,Tryz.ntmps114
  go_wp2_with fail
  go_loopg [13] m.length (fun n iv w=>∃k:Nat,iv=.int .i64 (k:Int)∧k+n=m.length∧eqL eqItem (l.take k) (m.take k)=true∧∃d,w=W.drewN d)
  case atStart=>exact⟨0,rfl,by omega,rfl,0,rfl⟩
  case round=>
   obtain⟨k,rfl,hk,he,d,rfl⟩:=hrel
   have HE:=Lib.hid he
   clear he
   by_cases hlt:k<m.length
   ·have hlt1:k<l.length:=by have:=HL.out;omega
    obtain⟨g,o,rfl,ca⟩:=sees_at (l:=l) fItem (fun _=>rfl) HS1.out hlt1
    obtain⟨g',o',rfl,cb⟩:=sees_at (l:=m) fItem (fun _=>rfl) HS2.out hlt
    have HD:Hid (eqItem l[k] m[k]=false→eqL eqItem l m=false):=eqL_diff eqItem hlt1 hlt
    have HN:Hid (eqItem l[k] m[k]=true→eqL eqItem (l.take (k+1)) (m.take (k+1))=true):=eqL_next eqItem hlt1 hlt HE.out
    obtain⟨p,hp⟩:∃p,l[k]=p:=⟨_,rfl⟩
    obtain⟨r,hr⟩:∃r,m[k]=r:=⟨_,rfl⟩
    rw[hp] at ca HD HN
    rw[hr] at cb HD HN
    clear hp hr
    obtain⟨p0,p1⟩:=p
    obtain⟨r0,r1⟩:=r
    have x0:W.cell? ⟨g,o+k*2,none⟩=some (.string p0):=ca 0 (by decide)
    have y0:W.cell? ⟨g',o'+k*2,none⟩=some (.string r0):=cb 0 (by decide)
    have x1:W.cell? ⟨g,o+k*2+1,none⟩=some (.string p1):=ca 1 (by decide)
    have y1:W.cell? ⟨g',o'+k*2+1,none⟩=some (.string r1):=cb 1 (by decide)
    have hki:(k:Int)<(m.length:Int):=by omega
    clear ca cb hlt hlt1
    by_cases e0:p0≠r0
    ·have hne:(p0.toList==r0.toList)=false:=toList_ne e0
     have HQ:Hid (eqL eqItem l m=false):=HD.out (by rw[Bool.eq_false_iff];intro h;have:=Pure.eqItem_iff.1 h;simp at this;exact e0 (by simp[this]))
     clear e0 HD HN
     go_wp2_with fail
     go_quiet (fail)
     go_wp2_with fail
     go_ret
     exact⟨by rw[HQ.out];rfl,_,drew_drew _ _ _⟩
    rw[ne_eq,Classical.not_not] at e0
    subst e0
    by_cases e1:p1≠r1
    ·have hne:(p1.toList==r1.toList)=false:=toList_ne e1
     have HQ:Hid (eqL eqItem l m=false):=HD.out (by rw[Bool.eq_false_iff];intro h;have:=Pure.eqItem_iff.1 h;simp at this;exact e1 (by simp[this]))
     clear e1 HD HN
     go_wp2_with fail
     go_quiet (fail)
     go_wp2_with fail
     go_ret
     exact⟨by rw[HQ.out];rfl,_,drew_drew _ _ _⟩
    rw[ne_eq,Classical.not_not] at e1
    subst e1
    have HQ:=Lib.hid (HN.out (Pure.eqItem_iff.2 rfl))
    clear HD HN
    go_wp2_with fail
    go_quiet (fail)
    go_wp2_with fail
    go_roundg (gk - 1)
    case measure=>omega
    case rel=>exact⟨k+1,by simp,by omega,HQ.out,d+nq,by first|rfl|exact drew_drew _ _ _⟩
   ·have hki:¬(k:Int)<(m.length:Int):=by omega
    have HK:Hid (eqL eqItem l m=true):=by
     have h:=HE.out
     have hkm:k=m.length:=by omega
     rw[hkm,List.take_length] at h
     rw[show m.length=l.length from HL.out.symm,List.take_length] at h
     exact h
    go_wp2_with fail
    go_ret
    exact⟨by rw[HK.out];rfl,_,rfl⟩
 ·have HF:Hid (eqL eqItem l m=false):=by
   show _=_
   cases h:eqL eqItem l m
   ·rfl
   ·exact absurd (eqL_len _ h) hlen
  have hnb:((l.length:Int) != (m.length:Int))=true:=by simp only[bne_iff_ne];omega
  clear hlen
  go_enter Tryz.func114,Tryz.ntmps114
  go_wp2_with fail
  go_ret
  exact⟨by rw[HF.out];rfl,0,rfl⟩
set_option maxRecDepth 100000 in
set_option maxHeartbeats 9000000 in
theorem eqPairs {W:World} {v1 v2:Value} {l m:List PPair} (h1:Sees W 2 v1 l.length (pairCells l)) (h2:Sees W 2 v2 m.length (pairCells m)) (n2:m.length≤3000):
  Calls Tryz.prog 115 #[v1,v2] W fun e W'=>e=.returned (.bool (eqL eqPair l m))∧∃n,W'=W.drewN n:=by
 obtain⟨a1,k1,rfl,hk1⟩:=sees_slice (l:=l) h1
 obtain⟨a2,k2,rfl,hk2⟩:=sees_slice (l:=m) h2
 have HS1:=Lib.hid h1
 have HS2:=Lib.hid h2
 clear h1 h2
 by_cases hlen:l.length=m.length
 ·rw[hlen]
  have HL:=Lib.hid hlen
  have hnb:((m.length:Int) != (m.length:Int))=false:=by simp
  clear hlen
  go_enter Tryz.func115,Tryz.ntmps115
  go_wp2_with fail
  go_loopg [13] m.length (fun n iv w=>∃k:Nat,iv=.int .i64 (k:Int)∧k+n=m.length∧eqL eqPair (l.take k) (m.take k)=true∧∃d,w=W.drewN d)
  case atStart=>exact⟨0,rfl,by omega,rfl,0,rfl⟩
  case round=>
   obtain⟨k,rfl,hk,he,d,rfl⟩:=hrel
   have HE:=Lib.hid he
   clear he
   by_cases hlt:k<m.length
   ·have hlt1:k<l.length:=by have:=HL.out;omega
    obtain⟨g,o,rfl,ca⟩:=sees_at (l:=l) fPair (fun _=>rfl) HS1.out hlt1
    obtain⟨g',o',rfl,cb⟩:=sees_at (l:=m) fPair (fun _=>rfl) HS2.out hlt
    have HD:Hid (eqPair l[k] m[k]=false→eqL eqPair l m=false):=eqL_diff eqPair hlt1 hlt
    have HN:Hid (eqPair l[k] m[k]=true→eqL eqPair (l.take (k+1)) (m.take (k+1))=true):=eqL_next eqPair hlt1 hlt HE.out
    obtain⟨p,hp⟩:∃p,l[k]=p:=⟨_,rfl⟩
    obtain⟨r,hr⟩:∃r,m[k]=r:=⟨_,rfl⟩
    rw[hp] at ca HD HN
    rw[hr] at cb HD HN
    clear hp hr
    obtain⟨p0,p1⟩:=p
    obtain⟨r0,r1⟩:=r
    have x0:W.cell? ⟨g,o+k*2,none⟩=some (.string p0):=ca 0 (by decide)
    have y0:W.cell? ⟨g',o'+k*2,none⟩=some (.string r0):=cb 0 (by decide)
    have x1:W.cell? ⟨g,o+k*2+1,none⟩=some (.int .i64 p1):=ca 1 (by decide)
    have y1:W.cell? ⟨g',o'+k*2+1,none⟩=some (.int .i64 r1):=cb 1 (by decide)
    have hki:(k:Int)<(m.length:Int):=by omega
    clear ca cb hlt hlt1
    by_cases e0:p0≠r0
    ·have hne:(p0.toList==r0.toList)=false:=toList_ne e0
     have HQ:Hid (eqL eqPair l m=false):=HD.out (by rw[Bool.eq_false_iff];intro h;have:=Pure.eqPair_iff.1 h;simp at this;exact e0 (by simp[this]))
     clear e0 HD HN
     go_wp2_with fail
     go_quiet (fail)
     go_wp2_with fail
     go_ret
     exact⟨by rw[HQ.out];rfl,_,drew_drew _ _ _⟩
    rw[ne_eq,Classical.not_not] at e0
    subst e0
    by_cases e1:p1≠r1
    ·have hne:(p1==r1)=false:=by simpa using e1
     have HQ:Hid (eqL eqPair l m=false):=HD.out (by rw[Bool.eq_false_iff];intro h;have:=Pure.eqPair_iff.1 h;simp at this;exact e1 (by simp[this]))
     clear e1 HD HN
     go_wp2_with fail
     go_quiet (fail)
     go_wp2_with fail
     go_ret
     exact⟨by rw[HQ.out];rfl,_,drew_drew _ _ _⟩
    rw[ne_eq,Classical.not_not] at e1
    subst e1
    have HQ:=Lib.hid (HN.out (Pure.eqPair_iff.2 rfl))
    clear HD HN
    go_wp2_with fail
    go_quiet (fail)
    go_wp2_with fail
    go_roundg (gk - 1)
    case measure=>omega
    case rel=>exact⟨k+1,by simp,by omega,HQ.out,d+nq,by first|rfl|exact drew_drew _ _ _⟩
   ·have hki:¬(k:Int)<(m.length:Int):=by omega
    have HK:Hid (eqL eqPair l m=true):=by
     have h:=HE.out
     have hkm:k=m.length:=by omega
     rw[hkm,List.take_length] at h
     rw[show m.length=l.length from HL.out.symm,List.take_length] at h
     exact h
    go_wp2_with fail
    go_ret
    exact⟨by rw[HK.out];rfl,_,rfl⟩
 ·have HF:Hid (eqL eqPair l m=false):=by
   show _=_
   cases h:eqL eqPair l m
   ·rfl
   ·exact absurd (eqL_len _ h) hlen
  have hnb:((l.length:Int) != (m.length:Int))=true:=by simp only[bne_iff_ne];omega
  clear hlen
  go_enter Tryz.func115,Tryz.ntmps115
  go_wp2_with fail
  go_ret
  exact⟨by rw[HF.out];rfl,0,rfl⟩
end Go.Proofs.YtobgbmfpicmpcaaGreatDoor

/- The reference's decimal: the text of every number, as Itoa has it. -/
namespace Go.Proofs.YtobgbmfpicmpcaaGreatDoor
open Go.RowKit
def frontD (r:Nat):List UInt8:=if r=0 then [] else Lib.decDigits r
theorem digits_cut (r:Nat):Lib.decDigits r=frontD (r / 10)++[UInt8.ofNat (48+r % 10)]:=by
 by_cases h:r<10
 ·have h1:r / 10=0:=by omega
  have h2:r % 10=r:=by omega
  rw[Lib.decDigits_one h,h1,h2];simp[frontD]
 ·have h1:¬r / 10=0:=by omega
  rw[Lib.decDigits,dif_neg h];simp only[frontD,if_neg h1]
theorem nDigits_le:∀(k u:Nat),u<10 ^ (k+1)→Lib.nDigits u≤k+1
 | 0,u,h=>by rw[Lib.nDigits_small (by omega)];omega
 | k+1,u,h=>by
  by_cases hu:u<10
  ·rw[Lib.nDigits_small hu];omega
  ·rw[Lib.nDigits_big hu]
   have:=nDigits_le k (u / 10) (by rw[Nat.pow_succ] at h;omega)
   omega
def DecInv (u r:Nat) (out:List UInt8):Prop:=r≤u∧((out=[]∧r=u)∨(out≠[]∧Lib.decDigits u=frontD r++out))
theorem DecInv.step {u r:Nat} {out:List UInt8} (h:DecInv u r out) (hr:r≠0∨out=[]):DecInv u (r / 10) (UInt8.ofNat (48+r % 10)::out):=by
 refine⟨by have:=h.1;omega,Or.inr ⟨by simp,?_⟩⟩
 rcases h.2 with ⟨rfl,rfl⟩|⟨ho,h⟩
 ·exact digits_cut r
 ·have h0:r≠0:=by rcases hr with h|h;exact h;exact absurd h ho
  rw[h]
  simp only[frontD,if_neg h0]
  rw[digits_cut r]
  simp[frontD]
theorem DecInv.last {u:Nat} {out:List UInt8} (h:DecInv u 0 out) (ho:out≠[]):Lib.decDigits u=out:=by
 rcases h.2 with ⟨h,_⟩|⟨_,h⟩
 ·exact absurd h ho
 ·rw[h];simp[frontD]
theorem DecInv.small {u r:Nat} {out:List UInt8} (h:DecInv u r out) (hu:u≤9223372036854775808):out.length≤20:=by
 have hn:=nDigits_le 19 u (by omega)
 rcases h.2 with ⟨rfl,_⟩|⟨_,h⟩
 ·simp
 ·have:=Lib.decDigits_length u
  rw[h,List.length_append] at this
  omega
theorem conv_digit (w:World) (z:Int) {c:Nat} (hc:c≤9) (hz:z=(c:Int)):(convert 168 9 (.slice (some ⟨w.heap.size,0,none⟩) 1 1)).run Tryz.prog (w.alloc (.cells #[.int .u8 (48+z)] 5))=.ok (.string ⟨#[UInt8.ofNat (48+c)]⟩) (w.alloc (.cells #[.int .u8 (48+z)] 5)):=by
 subst hz
 refine run_convert_bytes_back (P:=Tryz.prog) (w.alloc (.cells #[.int .u8 (48+(c:Int))] 5)) 168 9 5 ⟨w.heap.size,0,none⟩ 1 [UInt8.ofNat (48+c)] Tryz.underlying168 Tryz.underlying5 Tryz.underlying9 (fun j hj=>?_)
 have hj0:j=0:=by simp at hj;exact hj
 subst hj0
 have h1:((UInt8.ofNat (48+c)).toNat:Int)=48+(c:Int):=by simp[UInt8.toNat_ofNat'];omega
 have:=World.cell?_alloc_mark w #[.int .u8 (48+(c:Int))] 5 (0,0) 0
 simp only[List.getElem_cons_zero]
 rw[h1]
 exact this
theorem conv_zero (w:World):(convert 168 9 (.slice (some ⟨w.heap.size,0,none⟩) 1 1)).run Tryz.prog (w.alloc (.cells #[.int .u8 48] 5))=.ok (.string ⟨#[48]⟩) (w.alloc (.cells #[.int .u8 48] 5)):=conv_digit w 0 (c:=0) (by omega) rfl
theorem bytes_cons (d:UInt8) (out:List UInt8):(⟨#[d]⟩++⟨out.toArray⟩:ByteArray)=⟨(d::out).toArray⟩:=by
 apply ByteArray.ext
 simp[ByteArray.data_append]
theorem text_some {s:ByteArray} (h:s≠⟨#[]⟩):s.toList.isEmpty=false:=by
 have:=toList_ne h
 have e:(⟨#[]⟩:ByteArray).toList=[]:=by first|rfl|decide +kernel|simp[ByteArray.toList,ByteArray.toList.loop]
 rw[e] at this
 cases hs:s.toList with
 | nil=>rw[hs] at this;cases this
 | cons _ _=>rfl
set_option maxRecDepth 100000 in
set_option maxHeartbeats 400000 in
theorem decimal_pos {W:World} {u:Nat} (hu:u≤9223372036854775807):
  Calls Tryz.prog 118 #[.int .i64 (u:Int)] W fun e W'=>e=.returned (.string ⟨(Lib.decDigits u).toArray⟩)∧Below W.heap.size W W':=by
 have hun:¬(u:Int)<0:=by omega
 go_enter Tryz.func118,Tryz.ntmps118
 go_wp2_with fail
 go_loopg [3,4] (2*u+2) (fun g vo vr w=>∃(r:Nat) (out:List UInt8),vo=.string ⟨out.toArray⟩∧vr=.int .i64 (r:Int)∧DecInv u r out∧g=2*r+(if out=[] then 2 else 1)∧Below W.heap.size W w)
 case atStart=>exact⟨u,[],rfl,rfl,⟨Nat.le_refl _,Or.inl ⟨rfl,rfl⟩⟩,by simp,Below.refl _ _⟩
 case round=>
  obtain⟨r,out,rfl,rfl,hi,hg,hb⟩:=hrel
  have HI:=Lib.hid hi
  have HB:=Lib.hid hb
  have HG:=Lib.hid hg
  have hr0:0≤(r:Int):=by omega
  have hr1:(r:Int)≤9223372036854775807:=by have:=hi.1;omega
  have hm1:(r:Int) % 10≤9:=by omega
  have hmn:¬(r:Int) % 10<0:=by omega
  have ho:(⟨out.toArray⟩:ByteArray).size≤20:=hi.small (by omega)
  have hb2:∀o,Below W.heap.size W (wr.alloc o):=fun o=>hb.alloc hb.size _
  have HW:=Lib.hid hb2
  clear hi hb hg hb2
  by_cases hz:r=0
  ·by_cases he:out=[]
   ·subst he
    subst hz
    have HS:=Lib.hid (HI.out.step (Or.inr rfl))
    have hcv:=conv_zero wr
    clear hr0 hr1 hm1 hmn ho
    go_wp2_with fail
    go_roundg 1
    case measure=>have:=HG.out;simp at this;omega
    case rel=>exact⟨0,[48],by rfl,rfl,HS.out,by simp,HW.out _⟩
   ·subst hz
    have HE:=Lib.hid (HI.out.last he)
    have hne:=text_some (s:=⟨out.toArray⟩) (fun h=>he (by have:=congrArg ByteArray.data h;simpa using this))
    obtain⟨os,hos⟩:∃os:ByteArray,⟨out.toArray⟩=os:=⟨_,rfl⟩
    have HO:=Lib.hid hos
    rw[hos] at hne⊢
    clear hr0 hr1 hm1 hmn ho hos
    go_wp2_with fail
    go_ret
    exact⟨by rw[HE.out,HO.out];rfl,HB.out⟩
  ·have hrz:((r:Int)==0)=false:=by simp;exact hz
   have HS:=Lib.hid (HI.out.step (Or.inl hz))
   have hcv:=conv_digit wr ((r:Int) % 10) (c:=r % 10) (by omega) (by omega)
   have hd:(⟨#[UInt8.ofNat (48+r % 10)]⟩:ByteArray).size≤1:=Nat.le_refl _
   have HC:=Lib.hid (bytes_cons (UInt8.ofNat (48+r % 10)) out)
   obtain⟨os,hos⟩:∃os:ByteArray,⟨out.toArray⟩=os:=⟨_,rfl⟩
   obtain⟨ds,hds⟩:∃ds:ByteArray,⟨#[UInt8.ofNat (48+r % 10)]⟩=ds:=⟨_,rfl⟩
   rw[hos] at ho HC⊢
   rw[hds] at hd hcv HC
   clear hos hds
   go_wp2_with fail
   go_roundg (2*(r / 10)+1)
   case measure=>have:=HG.out;split at this<;>omega
   case rel=>exact⟨r / 10,UInt8.ofNat (48+r % 10)::out,by rw[←HC.out],by simp,HS.out,by simp,HW.out _⟩
set_option maxRecDepth 100000 in
set_option maxHeartbeats 400000 in
theorem decimal_neg {W:World} {u:Nat} (hu:u≤9223372036854775808) (h0:0<u):
  Calls Tryz.prog 118 #[.int .i64 (-(u:Int))] W fun e W'=>e=.returned (.string ⟨(45::Lib.decDigits u).toArray⟩)∧Below W.heap.size W W':=by
 have hun:-(u:Int)<0:=by omega
 go_enter Tryz.func118,Tryz.ntmps118
 go_wp2_with fail
 go_loopg [3,4] (2*u+2) (fun g vo vr w=>∃(r:Nat) (out:List UInt8),vo=.string ⟨out.toArray⟩∧vr=.int .i64 (-(r:Int))∧DecInv u r out∧g=2*r+(if out=[] then 2 else 1)∧Below W.heap.size W w)
 case atStart=>exact⟨u,[],rfl,rfl,⟨Nat.le_refl _,Or.inl ⟨rfl,rfl⟩⟩,by simp,Below.refl _ _⟩
 case round=>
  obtain⟨r,out,rfl,rfl,hi,hg,hb⟩:=hrel
  have HI:=Lib.hid hi
  have HB:=Lib.hid hb
  have HG:=Lib.hid hg
  have hr0:-(r:Int)≤0:=by omega
  have hr1:-9223372036854775808≤-(r:Int):=by have:=hi.1;omega
  have ho:(⟨out.toArray⟩:ByteArray).size≤20:=hi.small (by omega)
  have hb2:∀o,Below W.heap.size W (wr.alloc o):=fun o=>hb.alloc hb.size _
  have HW:=Lib.hid hb2
  clear hi hb hg hb2
  by_cases hz:r=0
  ·have he:out≠[]:=by
    intro he
    rcases HI.out.2 with ⟨_,h⟩|⟨h,_⟩
    ·omega
    ·exact h he
   subst hz
   have HE:=Lib.hid (HI.out.last he)
   have hne:=text_some (s:=⟨out.toArray⟩) (fun h=>he (by have:=congrArg ByteArray.data h;simpa using this))
   have HC:=Lib.hid (bytes_cons 45 out)
   obtain⟨os,hos⟩:∃os:ByteArray,⟨out.toArray⟩=os:=⟨_,rfl⟩
   rw[hos] at hne ho HC⊢
   clear hr0 hr1 hos
   go_wp2_with fail
   go_ret
   exact⟨by rw[HE.out,←HC.out];rfl,HB.out⟩
  ·have hrz:(-(r:Int)==0)=false:=by simp;exact hz
   have HS:=Lib.hid (HI.out.step (Or.inl hz))
   have HC:=Lib.hid (bytes_cons (UInt8.ofNat (48+r % 10)) out)
   have HM:Hid (2*(r / 10)+1<gk):=by have:=HG.out;show _<_;split at this<;>omega
   obtain⟨os,hos⟩:∃os:ByteArray,⟨out.toArray⟩=os:=⟨_,rfl⟩
   rw[hos] at ho HC⊢
   clear hos
   by_cases hq:r % 10=0
   ·have hm:(r:Int) % 10=0:=by omega
    rw[hq] at HS HC
    have hcv:=conv_zero wr
    clear hq
    go_wp2_with fail
    go_roundg (2*(r / 10)+1)
    case measure=>exact HM.out
    case rel=>exact⟨r / 10,48::out,congrArg Value.string HC.out,by simp,HS.out,by simp,HW.out _⟩
   ·have hm:0<(r:Int) % 10:=by omega
    have hm9:(r:Int) % 10≤9:=by omega
    have hcv:=conv_digit wr ((r:Int) % 10) (c:=r % 10) (by omega) (by omega)
    have hd:(⟨#[UInt8.ofNat (48+r % 10)]⟩:ByteArray).size≤1:=Nat.le_refl _
    obtain⟨ds,hds⟩:∃ds:ByteArray,⟨#[UInt8.ofNat (48+r % 10)]⟩=ds:=⟨_,rfl⟩
    rw[hds] at hd hcv HC
    clear hds hq
    go_wp2_with fail
    go_roundg (2*(r / 10)+1)
    case measure=>exact HM.out
    case rel=>exact⟨r / 10,UInt8.ofNat (48+r % 10)::out,by rw[←HC.out],by simp,HS.out,by simp,HW.out _⟩
theorem decimal_ {W:World} {n:Int} (hn:I64 n):
  Calls Tryz.prog 118 #[.int .i64 n] W fun e W'=>e=.returned (.string (decB n))∧Below W.heap.size W W':=by
 obtain⟨h0,h1⟩:=hn
 by_cases h:n<0
 ·obtain⟨u,rfl⟩:∃u:Nat,n=-(u:Int):=⟨n.natAbs,by omega⟩
  have e:decB (-(u:Int))=⟨(45::Lib.decDigits u).toArray⟩:=by unfold decB Lib.itoa;rw[if_pos h];simp
  rw[e]
  exact decimal_neg (by omega) (by omega)
 ·obtain⟨u,rfl⟩:∃u:Nat,n=(u:Int):=⟨n.toNat,by omega⟩
  have e:decB (u:Int)=⟨(Lib.decDigits u).toArray⟩:=by unfold decB Lib.itoa;rw[if_neg h];simp
  rw[e]
  exact decimal_pos (by omega)
end Go.Proofs.YtobgbmfpicmpcaaGreatDoor

/- The reference's writer: a term's text. -/
namespace Go.Proofs.YtobgbmfpicmpcaaGreatDoor
open Go.RowKit
def B (l:List UInt8):ByteArray:=⟨l.toArray⟩
theorem B_bl (s:ByteArray):B (bl s)=s:=by unfold B bl;simp
theorem B_app (a b:List UInt8):B a++B b=B (a++b):=by
 apply ByteArray.ext
 simp[B,ByteArray.data_append]
theorem B_size (l:List UInt8):(B l).size=l.length:=by simp[B,ByteArray.size]
def Short (s:ByteArray):Prop:=s.size≤1048576
theorem dec_size {n:Int} (hn:I64 n):(decB n).size≤21:=by
 obtain⟨h0,h1⟩:=hn
 show (Lib.itoa n).length≤21
 unfold Lib.itoa
 split
 ·have:=nDigits_le 19 n.natAbs (by omega)
  rw[List.length_cons,Lib.decDigits_length];omega
 ·have:=nDigits_le 19 n.toNat (by omega)
  rw[Lib.decDigits_length];omega
set_option maxRecDepth 100000 in
set_option maxHeartbeats 400000 in
theorem termText_ {W:World} {t:PTerm} (hv:I64 t.val) (hn:Short t.name) (hk:Short t.key):
  Calls Tryz.prog 117 #[.agg #[.string t.name,.string t.key,.int .i64 t.val]] W fun e W'=>e=.returned (.string (B (termT t)))∧Below W.heap.size W W':=by
 obtain⟨nm,ky,v⟩:=t
 simp only at hv hn hk⊢
 unfold Short at hn hk
 have HV:=Lib.hid hv
 have HB:Hid (Below W.heap.size W (W.alloc (.cells #[.string nm,.string ky,.int .i64 v] 26))):=(Below.refl _ _).alloc (Nat.le_refl _) _
 clear hv
 by_cases he:nm.toList.isEmpty=true
 ·have HE:Hid (termT ⟨nm,ky,v⟩=Lib.itoa v):=by show _=_;unfold termT;rw[if_pos he]
  go_enter Tryz.func117,Tryz.ntmps117
  go_wp2_with fail
  refine(decimal_ HV.out).mono ?_
  rintro e W1 ⟨rfl,hb⟩
  have HB1:=Lib.hid (HB.out.trans (hb.mono HB.out.size))
  clear hb
  go_wp2_with fail
  go_ret
  exact⟨by rw[HE.out];rfl,HB1.out⟩
 ·have HE:Hid (termT ⟨nm,ky,v⟩=bl nm++[32,46,32]++bl ky):=by show _=_;unfold termT;rw[if_neg he]
  rw[Bool.not_eq_true] at he
  have HC:Hid (nm++⟨#[32,46,32]⟩++ky=B (bl nm++[32,46,32]++bl ky)):=by
   show _=_
   rw[←B_app,←B_app,B_bl,B_bl];rfl
  go_enter Tryz.func117,Tryz.ntmps117
  go_wp2_with fail
  go_ret
  exact⟨by rw[HE.out,←HC.out];rfl,HB.out⟩
end Go.Proofs.YtobgbmfpicmpcaaGreatDoor

/- The reference's writer: how long its texts may grow. -/
namespace Go.Proofs.YtobgbmfpicmpcaaGreatDoor
open Go.RowKit
theorem bl_len (s:ByteArray):(bl s).length=s.size:=by unfold bl;rw[Array.length_toList];rfl
theorem itoa_len {n:Int} (hn:I64 n):(Lib.itoa n).length≤21:=dec_size hn
def ShortTerm (t:PTerm):Prop:=Short t.name∧Short t.key∧I64 t.val
def ShortSpot (s:PSpot):Prop:=Short s.name∧Short s.label∧Short s.type∧I64 s.least∧I64 s.most
def ShortCond (c:PCond):Prop:=ShortTerm c.a∧ShortTerm c.b
def ShortItem (x:PItem):Prop:=Short x.name∧Short x.key
def ShortPair (p:PPair):Prop:=Short p.key∧I64 p.val
theorem termT_len {t:PTerm} (h:ShortTerm t):(termT t).length≤2097155:=by
 obtain⟨a,b,c⟩:=h
 unfold Short at a b
 unfold termT
 split
 ·have:=itoa_len c;omega
 ·simp only[List.length_append,bl_len,List.length_cons,List.length_nil];omega
theorem nodeT_len {s:PSpot} (h:ShortSpot s):(nodeT s).length≤2097160:=by
 obtain⟨a,b,c,d,e⟩:=h
 unfold Short at a b
 unfold nodeT
 split<;>simp only[List.length_append,bl_len,List.length_cons,List.length_nil]<;>omega
theorem stepT_len {s:PSpot} (h:ShortSpot s):(stepT s).length≤1048640:=by
 obtain⟨a,b,c,d,e⟩:=h
 unfold Short at c
 have:=itoa_len d
 have:=itoa_len e
 unfold stepT
 split<;>simp only[List.length_append,bl_len,List.length_cons,List.length_nil]<;>omega
theorem spotT_len (b:Bool) {s:PSpot} (h:ShortSpot s):(spotT b s).length≤3145800:=by
 have:=nodeT_len h
 have:=stepT_len h
 unfold spotT
 rw[List.length_append]
 split
 ·split<;>simp only[List.length_cons,List.length_nil]<;>omega
 ·omega
theorem markW_len (n:Int):(markW n).size≤2:=by
 unfold markW
 repeat' split
 all_goals decide
theorem opT_len {c:PCond} (h:ShortCond c):(opT c).length≤2097160:=by
 have:=termT_len h.2
 have:=markW_len c.op
 unfold opT
 repeat' split
 all_goals (simp only[List.length_append,bl_len,List.length_cons,List.length_nil];omega)
theorem condT_len (b:Bool) {c:PCond} (h:ShortCond c):(condT b c).length≤4194330:=by
 have:=termT_len h.1
 have:=opT_len h
 unfold condT
 split<;>simp only[List.length_append,List.length_cons,List.length_nil]<;>omega
theorem gatherT_len {α:Type} (f:Bool→α→List UInt8) (n:Nat):∀(l:List α) (b:Bool),(∀b,∀x∈l,(f b x).length≤n)→(gather f b l).length≤l.length*n
 | [],b,_=>by simp[gather]
 | x::r,b,h=>by
  have h1:=h b x (by simp)
  have h2:=gatherT_len f n r false (fun b y hy=>h b y (by simp[hy]))
  simp only[gather,List.length_append,List.length_cons,Nat.succ_mul]
  omega
end Go.Proofs.YtobgbmfpicmpcaaGreatDoor

/- The program's reader of queries in memory: its tokens left, and whether one did not fit. -/
namespace Go.Proofs.YtobgbmfpicmpcaaGreatDoor
open Go.RowKit
def TSeen (G:Nat) (ao:Option Addr) (l:List Tok) (w:World):Prop:=
 ∀j,(hj:j<l.length)→∃o,ao=some ⟨G,o,none⟩∧w.cell? ⟨G,o+j*3,none⟩=some (.int .i64 l[j].kind)∧w.cell? ⟨G,o+j*3+1,none⟩=some (.string l[j].text)∧w.cell? ⟨G,o+j*3+2,none⟩=some (.int .i64 l[j].val)
structure PI (b G:Nat) (st:RS) (w:World):Prop where
 box:∃ao c,Loc w b #[.slice ao st.rest.length c,.bool st.bad] 81∧st.rest.length≤c∧TSeen G ao st.rest w
 far:G≠b∧G<w.heap.size
theorem PI.kept {b G:Nat} {st:RS} {w w':World} {r:Option Nat} (h:PI b G st w) (hg:w.grownBy w' r) (h1:some b≠r) (h2:some G≠r):PI b G st w':=by
 obtain⟨ao,c,hb,hc,hs⟩:=h.box
 refine⟨⟨ao,c,hb.grown hg h1,hc,?_⟩,⟨h.far.1,Nat.lt_of_lt_of_le h.far.2 hg.size⟩⟩
 intro j hj
 obtain⟨o,e,a0,a1,a2⟩:=hs j hj
 have hB:=hg.block G h.far.2 h2
 have hc:∀x,w'.cell? ⟨G,x,none⟩=w.cell? ⟨G,x,none⟩:=fun x=>by simp[World.cell?,hB]
 exact⟨o,e,by rw[hc];exact a0,by rw[hc];exact a1,by rw[hc];exact a2⟩
theorem PI.quiet {b G:Nat} {st:RS} {w w':World} (h:PI b G st w) (hg:w.grownBy w' none):PI b G st w':=h.kept hg (by simp) (by simp)
theorem TSeen.tail {G g o:Nat} {l:List Tok} {t:Tok} {w:World} (h:TSeen G (some ⟨g,o,none⟩) (t::l) w):TSeen G (some ⟨g,o+3,none⟩) l w:=by
 intro j hj
 obtain⟨o',e,a0,a1,a2⟩:=h (j+1) (by simpa using hj)
 injection e with e
 injection e with e1 e2
 subst e1;subst e2
 refine⟨o+3,rfl,?_,?_,?_⟩
 ·rw[show o+3+j*3=o+(j+1)*3 by omega];simpa using a0
 ·rw[show o+3+j*3=o+(j+1)*3 by omega];simpa using a1
 ·rw[show o+3+j*3=o+(j+1)*3 by omega];simpa using a2
theorem TSeen.set {G b:Nat} {ao:Option Addr} {l:List Tok} {w:World} (h:TSeen G ao l w) (hg:G≠b) (j:Nat) (u:Value):TSeen G ao l (w.setCell ⟨b,j,none⟩ u):=by
 intro k hk
 obtain⟨o,e,a0,a1,a2⟩:=h k hk
 have hB:=Below.heap_setCell w ⟨b,j,none⟩ u G hg
 have hc:∀x,(w.setCell ⟨b,j,none⟩ u).cell? ⟨G,x,none⟩=w.cell? ⟨G,x,none⟩:=fun x=>by simp only[World.cell?,hB]
 exact⟨o,e,by rw[hc];exact a0,by rw[hc];exact a1,by rw[hc];exact a2⟩
theorem PI.adv {b G:Nat} {st:RS} {t:Tok} {r:List Tok} {W:World} {ao:Option Addr} {c:Nat} {v:Value} (h:PI b G st W) (_:st.rest=t::r) (hb:Loc W b #[v,.bool st.bad] 81) (hc:r.length≤c) (hs:TSeen G ao r W):PI b G ⟨r,st.bad⟩ (W.setCell ⟨b,0,none⟩ (.slice ao r.length c)):=by
 have hf:=h.far
 exact⟨⟨ao,c,hb.set 0 _,hc,hs.set hf.1 0 _⟩,⟨hf.1,by simpa [World.setCell] using hf.2⟩⟩
theorem PI.fails {b G:Nat} {st:RS} {W:World} {v:Value} (h:PI b G st W) (hb:Loc W b #[v,.bool st.bad] 81):PI b G failP ((W.setCell ⟨b,0,none⟩ (.slice none 0 0)).setCell ⟨b,1,none⟩ (.bool true)):=
 ⟨⟨none,0,(hb.set 0 _).set 1 _,Nat.le_refl _,fun j hj=>by simp[failP] at hj⟩,⟨h.far.1,by simpa [World.setCell] using h.far.2⟩⟩
set_option maxRecDepth 100000 in
set_option maxHeartbeats 2000000 in
theorem fail_ {b G:Nat} {st:RS} {W:World} (h:PI b G st W):
  Calls Tryz.prog 160 #[.pointer (some ⟨b,0,none⟩)] W fun e W'=>e=.returned (.tuple #[])∧PI b G failP W'∧W.grownBy W' (some b):=by
 obtain⟨ao,c,hb,hc,hs⟩:=h.box
 have c0:=hb.at_ 0 (.slice ao st.rest.length c) rfl
 have c1:=hb.at_ 1 (.bool st.bad) rfl
 have f0:W.frozen? ⟨b,0,none⟩=false:=hb.free 0
 have f1:W.frozen? ⟨b,1,none⟩=false:=hb.free 1
 have HB:=Lib.hid hb
 have HH:=Lib.hid h
 clear hs h hc hb
 go_enter Tryz.func160,Tryz.ntmps160
 go_wp2_with fail
 go_end0
 exact⟨rfl,HH.out.fails HB.out,grown_trans (grown_set _ _ _ _) (grown_set _ _ _ _)⟩
set_option maxRecDepth 100000 in
set_option maxHeartbeats 2000000 in
theorem acceptYes {b G:Nat} {st:RS} {s:ByteArray} {W:World} (h:PI b G st W) (hp:peekP s st=true):
  Calls Tryz.prog 94 #[.pointer (some ⟨b,0,none⟩),.string s] W fun e W'=>e=.returned (.bool true)∧PI b G (acceptP s st) W'∧W.grownBy W' (some b):=by
 obtain⟨ao,c,hb,hc,hs⟩:=h.box
 cases hr:st.rest with
 | nil=>unfold peekP at hp;rw[hr] at hp;cases hp
 | cons t r=>
  have hte:(t.text.toList==s.toList)=true:=by unfold peekP at hp;rw[hr] at hp;exact hp
  have HA:Hid (acceptP s st=⟨r,st.bad⟩):=by show _=_;unfold acceptP;rw[if_pos hp,hr];rfl
  rw[hr] at hs hc hb
  obtain⟨o,rfl,a0,a1,a2⟩:=hs 0 (by simp)
  have k1:W.cell? ⟨G,o+1,none⟩=some (.string t.text):=by simpa using a1
  have c0:=hb.at_ 0 (.slice (some ⟨G,o,none⟩) (r.length+1) c) rfl
  have f0:W.frozen? ⟨b,0,none⟩=false:=hb.free 0
  have hc':r.length+1≤c:=hc
  have HB:=Lib.hid hb
  have HS:=Lib.hid hs
  have HH:=Lib.hid h
  have HR:=Lib.hid hr
  clear hs h hc hb a0 a1 a2 hp hr
  by_cases hc1:c=1
  ·have hr0:r=[]:=List.length_eq_zero_iff.1 (by omega)
   subst hc1
   have HR0:=Lib.hid hr0
   have hrl:r.length=0:=by rw[hr0];rfl
   clear hr0
   go_enter Tryz.func94,Tryz.ntmps94
   go_wp2_with fail
   refine bodyPost_ret (v:=.bool true) ?_ rfl ⟨rfl,?_,grown_set _ _ _ _⟩
   ·simp[results,Tryz.results94,go_sem]
   ·rw[HA.out]
    have h:=HH.out.adv HR.out HB.out (ao:=some ⟨G,o,none⟩) (c:=0) (by omega) (by intro j hj;omega)
    rw[hrl] at h
    exact h
  ·go_enter Tryz.func94,Tryz.ntmps94
   go_wp2_with fail
   refine bodyPost_ret (v:=.bool true) ?_ rfl ⟨rfl,?_,grown_set _ _ _ _⟩
   ·simp[results,Tryz.results94,go_sem]
   ·rw[HA.out]
    exact HH.out.adv HR.out HB.out (by omega) HS.out.tail
set_option maxRecDepth 100000 in
set_option maxHeartbeats 2000000 in
theorem acceptNo {b G:Nat} {st:RS} {s:ByteArray} {W:World} (h:PI b G st W) (hp:peekP s st=false):
  Calls Tryz.prog 94 #[.pointer (some ⟨b,0,none⟩),.string s] W fun e W'=>e=.returned (.bool false)∧PI b G (acceptP s st) W'∧W.grownBy W' (some b):=by
 obtain⟨ao,c,hb,hc,hs⟩:=h.box
 have HA:Hid (acceptP s st=st):=by show _=_;unfold acceptP;rw[hp];rfl
 have HH:=Lib.hid h
 cases hr:st.rest with
 | nil=>
  rw[hr] at hb
  have c0:=hb.at_ 0 (.slice ao 0 c) rfl
  clear hs h hc hb hp hr
  go_enter Tryz.func94,Tryz.ntmps94
  go_wp2_with fail
  refine bodyPost_ret (v:=.bool false) ?_ rfl ⟨rfl,by rw[HA.out];exact HH.out,grown_refl _ _⟩
  simp[results,Tryz.results94,go_sem]
 | cons t r=>
  have hte:(t.text.toList==s.toList)=false:=by unfold peekP at hp;rw[hr] at hp;exact hp
  rw[hr] at hs hc hb
  obtain⟨o,rfl,a0,a1,a2⟩:=hs 0 (by simp)
  have k1:W.cell? ⟨G,o+1,none⟩=some (.string t.text):=by simpa using a1
  have c0:=hb.at_ 0 (.slice (some ⟨G,o,none⟩) (r.length+1) c) rfl
  clear hs h hc hb a0 a1 a2 hp hr
  go_enter Tryz.func94,Tryz.ntmps94
  go_wp2_with fail
  refine bodyPost_ret (v:=.bool false) ?_ rfl ⟨rfl,by rw[HA.out];exact HH.out,grown_refl _ _⟩
  simp[results,Tryz.results94,go_sem]
theorem accept_ {b G:Nat} {st:RS} {W:World} (h:PI b G st W) (s:ByteArray) (m:Bool) (hm:peekP s st=m):
  Calls Tryz.prog 94 #[.pointer (some ⟨b,0,none⟩),.string s] W fun e W'=>e=.returned (.bool m)∧PI b G (acceptP s st) W'∧W.grownBy W' (some b):=by
 cases m with
 | true=>exact acceptYes h hm
 | false=>exact acceptNo h hm
set_option maxRecDepth 100000 in
set_option maxHeartbeats 2000000 in
theorem expect_ {b G:Nat} {st:RS} {W:World} (h:PI b G st W) (s:ByteArray):
  Calls Tryz.prog 97 #[.pointer (some ⟨b,0,none⟩),.string s] W fun e W'=>e=.returned (.tuple #[])∧PI b G (expectP s st) W'∧W.grownBy W' (some b):=by
 have HH:=Lib.hid h
 clear h
 cases hm:peekP s st with
 | true=>
  have HM:=Lib.hid hm
  have HE:Hid (expectP s st=acceptP s st):=by show _=_;unfold expectP;rw[if_pos hm]
  clear hm
  go_enter Tryz.func97,Tryz.ntmps97
  go_wp2_with fail
  refine(accept_ HH.out s true HM.out).mono ?_
  rintro e W1 ⟨rfl,h1,g1⟩
  have H1:=Lib.hid h1
  have G1:=Lib.hid g1
  clear h1 g1
  go_wp2_with fail
  go_end0
  exact⟨rfl,by rw[HE.out];exact H1.out,G1.out⟩
 | false=>
  have HM:=Lib.hid hm
  have HE:Hid (expectP s st=failP):=by show _=_;unfold expectP;rw[hm];rfl
  clear hm
  go_enter Tryz.func97,Tryz.ntmps97
  go_wp2_with fail
  refine(accept_ HH.out s false HM.out).mono ?_
  rintro e W1 ⟨rfl,h1,g1⟩
  have H1:=Lib.hid h1
  have G1:=Lib.hid g1
  clear h1 g1
  go_wp2_with fail
  refine(fail_ H1.out).mono ?_
  rintro e W2 ⟨rfl,h2,g2⟩
  have H2:=Lib.hid h2
  have G2:=Lib.hid g2
  clear h2 g2
  go_wp2_with fail
  go_end0
  exact⟨rfl,by rw[HE.out];exact H2.out,grown_trans G1.out G2.out⟩
end Go.Proofs.YtobgbmfpicmpcaaGreatDoor

/- The program's words: names, titles and keywords. -/
namespace Go.Proofs.YtobgbmfpicmpcaaGreatDoor
open Go.RowKit
theorem empty_no {s:ByteArray} (h:1≤s.size):s.toList.isEmpty=false:=by
 rw[ByteArray.toList_eq]
 have:s.data.toList.length=s.size:=len_toList s
 cases hd:s.data.toList with
 | nil=>rw[hd] at this;simp at this;omega
 | cons a l=>rfl
theorem empty_yes {s:ByteArray} (h:¬1≤s.size):s.toList.isEmpty=true:=by
 rw[ByteArray.toList_eq]
 have:s.data.toList.length=s.size:=len_toList s
 cases hd:s.data.toList with
 | nil=>rfl
 | cons a l=>rw[hd] at this;simp at this;omega
set_option maxRecDepth 100000 in
set_option maxHeartbeats 2000000 in
theorem isWordP (s:ByteArray) (w:World):Calls Tryz.prog 147 #[.string s] w fun e w'=>e=.returned (.bool (isWord s))∧w'=w:=by
 by_cases h1:1≤s.size
 ·have hem:=empty_no h1
  by_cases h8:s.size≤8
  ·have h0:0<s.size:=h1
   have h8i:¬(8:Int)<(s.size:Int):=by omega
   cases hl:letB ((s[0]'h0).toNat:Int) with
   | true=>
    have HW:Hid (isWord s=decide (∀j,j<s.size→alnB (bt s j)=true)):=isWord_of h1 h8 (by rw[←bt_in h0];exact hl)
    go_enter Tryz.func147,Tryz.ntmps147
    go_wp2_with (first|(go_at_call 204;refine(isLetter _ _).mono ?_;rintro e w' ⟨rfl,rfl⟩)|(go_at_call 205;refine(isDigit _ _).mono ?_;rintro e w' ⟨rfl,rfl⟩))
    clear hl
    go_loop [19] (fun i=>∃k:Nat,k≤s.size∧i=.int .i64 k∧∀j,j<k→alnB (bt s j)=true) (fun i=>s.size - (intOf i).toNat)
    case atStart=>exact⟨0,by omega,rfl,fun j hj=>absurd hj (by omega)⟩
    case round=>
     obtain⟨k,hk,rfl,hall⟩:=hrel
     have HA:=Lib.hid hall
     clear hall
     by_cases hlt:k<s.size
     ·cases hl:letB ((s[k]'hlt).toNat:Int) with
      | true=>
       have HK1:Hid (∀j,j<k+1→alnB (bt s j)=true):=by
        intro j hj
        by_cases e:j=k
        ·subst e;rw[←bt_in hlt];unfold alnB;rw[hl];rfl
        ·exact HA.out j (by omega)
       go_wp2_with (first|(go_at_call 204;refine(isLetter _ _).mono ?_;rintro e w' ⟨rfl,rfl⟩)|(go_at_call 205;refine(isDigit _ _).mono ?_;rintro e w' ⟨rfl,rfl⟩))
       go_round
       case rel=>exact⟨k+1,by omega,by go_num,HK1.out⟩
       case measure=>simp[intOf];omega
      | false=>
       cases hd:digB ((s[k]'hlt).toNat:Int) with
       | true=>
        have HK1:Hid (∀j,j<k+1→alnB (bt s j)=true):=by
         intro j hj
         by_cases e:j=k
         ·subst e;rw[←bt_in hlt];unfold alnB;rw[hl,hd];rfl
         ·exact HA.out j (by omega)
        go_wp2_with (first|(go_at_call 204;refine(isLetter _ _).mono ?_;rintro e w' ⟨rfl,rfl⟩)|(go_at_call 205;refine(isDigit _ _).mono ?_;rintro e w' ⟨rfl,rfl⟩))
        go_round
        case rel=>exact⟨k+1,by omega,by go_num,HK1.out⟩
        case measure=>simp[intOf];omega
       | false=>
        have HF:Hid (isWord s=false):=by
         show _=_
         rw[HW.out]
         apply decide_eq_false
         intro hall
         have:=hall k hlt
         rw[←bt_in hlt] at this
         unfold alnB at this
         rw[hl,hd] at this
         cases this
        go_wp2_with (first|(go_at_call 204;refine(isLetter _ _).mono ?_;rintro e w' ⟨rfl,rfl⟩)|(go_at_call 205;refine(isDigit _ _).mono ?_;rintro e w' ⟨rfl,rfl⟩))
        go_ret
        exact⟨ret_bool HF.out.symm,rfl⟩
     ·have HF:Hid (isWord s=true):=by
       show _=_
       rw[HW.out]
       apply decide_eq_true
       intro j hj
       exact HA.out j (by omega)
      go_wp2
      go_ret
      exact⟨ret_bool HF.out.symm,rfl⟩
   | false=>
    have HF:Hid (isWord s=false):=isWord_no (by rintro ⟨_,_,h⟩;rw[←bt_in h0,hl] at h;cases h)
    go_enter Tryz.func147,Tryz.ntmps147
    go_wp2_with (first|(go_at_call 204;refine(isLetter _ _).mono ?_;rintro e w' ⟨rfl,rfl⟩)|(go_at_call 205;refine(isDigit _ _).mono ?_;rintro e w' ⟨rfl,rfl⟩))
    go_ret
    exact⟨ret_bool HF.out.symm,rfl⟩
  ·have HF:Hid (isWord s=false):=isWord_no (by omega)
   have h8i:(8:Int)<(s.size:Int):=by omega
   go_enter Tryz.func147,Tryz.ntmps147
   go_wp2_with (first|(go_at_call 204;refine(isLetter _ _).mono ?_;rintro e w' ⟨rfl,rfl⟩)|(go_at_call 205;refine(isDigit _ _).mono ?_;rintro e w' ⟨rfl,rfl⟩))
   go_ret
   exact⟨ret_bool HF.out.symm,rfl⟩
 ·have HF:Hid (isWord s=false):=isWord_no (by omega)
  have hem:=empty_yes h1
  go_enter Tryz.func147,Tryz.ntmps147
  go_wp2_with (first|(go_at_call 204;refine(isLetter _ _).mono ?_;rintro e w' ⟨rfl,rfl⟩)|(go_at_call 205;refine(isDigit _ _).mono ?_;rintro e w' ⟨rfl,rfl⟩))
  go_ret
  exact⟨ret_bool HF.out.symm,rfl⟩
end Go.Proofs.YtobgbmfpicmpcaaGreatDoor

