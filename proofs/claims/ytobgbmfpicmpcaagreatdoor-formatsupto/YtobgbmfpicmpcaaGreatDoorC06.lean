/- The two readers of queries, the program's and the reference's, as plain functions: a failure stays a failure. No program in this text. -/
import Derived.Test.YtobgbmfpicmpcaaGreatDoorC05
import Derived.Laws.Strings
import Derived.Lib.Join
import Derived.Lib.ItoaNum
namespace Go.Proofs.YtobgbmfpicmpcaaGreatDoor.Pure
theorem orBad_bad {st:RS} {x:Bool} (h:st.bad=true):(st.orBad x).bad=true:=by unfold RS.orBad;simp[h]
theorem orBad_true (st:RS):(st.orBad true).bad=true:=by unfold RS.orBad;simp
theorem orBad_false (st:RS):st.orBad false=st:=by unfold RS.orBad;simp
theorem hasR_bad {s:ByteArray} {st:RS} (h:st.bad=true):(hasR s st).bad=true:=by unfold hasR;split<;>exact h
theorem hasR_keeps {s:ByteArray} {st:RS}:(hasR s st).bad=st.bad:=by unfold hasR;split<;>rfl
theorem mustR_bad {s:ByteArray} {st:RS} (h:st.bad=true):(mustR s st).bad=true:=by unfold mustR;exact orBad_bad (hasR_bad h)
theorem nextR_bad {k:Int} {st:RS} (h:st.bad=true):(nextR k st).2.bad=true:=by unfold nextR;split;exact h;exact rfl
theorem nameR_bad {st:RS} (h:st.bad=true):(nameR st).2.bad=true:=by unfold nameR;exact orBad_bad (nextR_bad h)
theorem titleR_bad {st:RS} (h:st.bad=true):(titleR st).2.bad=true:=by unfold titleR;exact orBad_bad (nextR_bad h)
theorem countR_bad {lo hi:Int} {st:RS} (h:st.bad=true):(countR lo hi st).2.bad=true:=by unfold countR;exact orBad_bad (nextR_bad h)
theorem acceptP_bad {s:ByteArray} {st:RS} (h:st.bad=true):(acceptP s st).bad=true:=by unfold acceptP;split<;>exact h
theorem expectP_bad {s:ByteArray} {st:RS} (h:st.bad=true):(expectP s st).bad=true:=by unfold expectP;split;exact acceptP_bad h;exact rfl
theorem takeP_bad {k:Int} {st:RS} (h:st.bad=true):(takeP k st).2.bad=true:=by unfold takeP;split;exact h;exact rfl
theorem nameP_bad {st:RS} (h:st.bad=true):(nameP st).2.bad=true:=takeP_bad h
theorem titleP_bad {st:RS} (h:st.bad=true):(titleP st).2.bad=true:=takeP_bad h
theorem numberP_bad {lo hi:Int} {st:RS} (h:st.bad=true):(numberP lo hi st).2.bad=true:=by unfold numberP;simp only;split;exact rfl;exact takeP_bad h
theorem spotP_bad {x:PSpot} {st:RS} (h:st.bad=true):(spotP x st).2.bad=true:=by
 unfold spotP;simp only;refine expectP_bad ?_;split
 ·exact titleP_bad (acceptP_bad (nameP_bad (expectP_bad h)))
 ·exact nameP_bad (expectP_bad h)
theorem spotR_bad {x:PSpot} {st:RS} (h:st.bad=true):(spotR x st).2.bad=true:=by
 unfold spotR;simp only;refine mustR_bad ?_;split
 ·exact titleR_bad (hasR_bad (nameR_bad (mustR_bad h)))
 ·exact nameR_bad (mustR_bad h)
theorem starP_bad {st:RS} (h:st.bad=true):(starP st).2.bad=true:=by
 unfold starP;split
 ·exact numberP_bad (expectP_bad (numberP_bad (acceptP_bad h)))
 ·exact h
theorem starR_bad {st:RS} (h:st.bad=true):(starR st).2.bad=true:=by
 unfold starR;split
 ·exact countR_bad (mustR_bad (countR_bad (hasR_bad h)))
 ·exact h
theorem stepP_bad {st:RS} (h:st.bad=true):(stepP st).2.bad=true:=by unfold stepP;exact expectP_bad (starP_bad (titleP_bad h))
theorem hopP_bad {st:RS} (h:st.bad=true):(hopP st).2.bad=true:=by unfold hopP;exact spotP_bad (stepP_bad h)
theorem stepR_bad {st:RS} (h:st.bad=true):(stepR st).2.bad=true:=by unfold stepR;exact spotR_bad (mustR_bad (starR_bad (titleR_bad h)))
theorem propP_bad {st:RS} (h:st.bad=true):(propP st).2.bad=true:=by unfold propP;exact nameP_bad (expectP_bad (nameP_bad h))
theorem termP_bad {st:RS} (h:st.bad=true):(termP st).2.bad=true:=by
 unfold termP;split
 ·exact numberP_bad h
 ·exact propP_bad h
theorem termR_bad {st:RS} (h:st.bad=true):(termR st).2.bad=true:=by
 unfold termR;split
 ·exact nextR_bad h
 ·exact nameR_bad (mustR_bad (nameR_bad h))
theorem opLoopP_bad {l:List ByteArray}:∀{i:Int} {st:RS},st.bad=true→(opLoopP l i st).2.bad=true:=by
 induction l with
 | nil=>intro i st h;rfl
 | cons m r ih=>intro i st h;simp only[opLoopP];split;exact acceptP_bad h;exact ih h
theorem opLoop_bad {l:List ByteArray}:∀{i:Int} {st:RS},st.bad=true→(opLoop l i st).2.bad=true:=by
 induction l with
 | nil=>intro i st h;exact h
 | cons m r ih=>intro i st h;simp only[opLoop];split;exact hasR_bad h;exact ih h
theorem condP_bad {st:RS} (h:st.bad=true):(condP st).2.bad=true:=by
 unfold condP;simp only;split
 ·exact expectP_bad (acceptP_bad (acceptP_bad (termP_bad h)))
 ·exact termP_bad (opLoopP_bad (termP_bad h))
theorem itemP_bad {st:RS} (h:st.bad=true):(itemP st).2.bad=true:=by
 unfold itemP;split
 ·exact acceptP_bad h
 ·simp only;split
  ·exact nameP_bad (acceptP_bad (nameP_bad h))
  ·exact nameP_bad h
theorem pairP_bad {st:RS} (h:st.bad=true):(pairP st).2.bad=true:=by unfold pairP;exact numberP_bad (expectP_bad (nameP_bad h))
theorem listLoop_bad {α:Type} {one:RS→α × RS} {sep:ByteArray} (ho:∀{st:RS},st.bad=true→(one st).2.bad=true) (n:Nat):∀{out:List α} {st:RS},st.bad=true→(listLoop one sep n out st).2.bad=true:=by
 induction n with
 | zero=>intro out st h;exact h
 | succ n ih=>intro out st h;simp only[listLoop];split;exact ih (ho (acceptP_bad h));exact h
theorem listP_bad {α:Type} {one:RS→α × RS} {sep:ByteArray} {most:Nat} (ho:∀{st:RS},st.bad=true→(one st).2.bad=true) {st:RS} (h:st.bad=true):(listP one sep most st).2.bad=true:=by
 unfold listP;simp only;split;exact rfl;exact listLoop_bad ho _ (ho h)
theorem spotsLoop_bad (n:Nat):∀{out:List PSpot} {st:RS},st.bad=true→(spotsLoop n out st).2.bad=true:=by
 induction n with
 | zero=>intro out st h;exact h
 | succ n ih=>
  intro out st h;simp only[spotsLoop];split
  ·exact ih (spotP_bad (acceptP_bad h))
  ·split
   ·exact ih (hopP_bad (acceptP_bad h))
   ·exact h
theorem spotsP_bad {st:RS} (h:st.bad=true):(spotsP st).2.bad=true:=by
 unfold spotsP;simp only;split;exact rfl;exact spotsLoop_bad _ (spotP_bad h)
theorem pathLoop_bad (n:Nat):∀{out:List PSpot} {st:RS},st.bad=true→(pathLoop n out st).2.bad=true:=by
 induction n with
 | zero=>intro out st h;exact h
 | succ n ih=>intro out st h;simp only[pathLoop];split;exact ih (stepR_bad (hasR_bad h));exact h
theorem orderP_bad {k:Int} {st:RS} (h:st.bad=true):(orderP k st).2.bad=true:=by
 unfold orderP;split
 ·exact acceptP_bad (numberP_bad (expectP_bad (acceptP_bad h)))
 ·exact h
theorem orderR_bad {k:Int} {st:RS} (h:st.bad=true):(orderR k st).2.bad=true:=by
 unfold orderR;split
 ·exact hasR_bad (countR_bad (mustR_bad (hasR_bad h)))
 ·exact h
theorem partP_bad {s:ByteArray} {k:Int} {st:RS} (h:st.bad=true):(partP s k st).2.bad=true:=by
 unfold partP;split;exact numberP_bad (acceptP_bad h);exact h
theorem partR_bad {s:ByteArray} {k:Int} {st:RS} (h:st.bad=true):(partR s k st).2.bad=true:=by
 unfold partR;split;exact countR_bad (hasR_bad h);exact h
theorem linkP_bad {st:RS} (h:st.bad=true):(linkP st).2.bad=true:=by
 unfold linkP;exact expectP_bad (nameP_bad (expectP_bad (expectP_bad (titleP_bad (expectP_bad (expectP_bad (nameP_bad (expectP_bad h))))))))
theorem linkR_bad {st:RS} (h:(mustR kCREATE st).bad=true):(linkR st).2.bad=true:=by
 unfold linkR;exact mustR_bad (nameR_bad (mustR_bad (mustR_bad (titleR_bad (mustR_bad (mustR_bad (nameR_bad (mustR_bad h))))))))
theorem setP_bad {st:RS} (h:st.bad=true):(setP st).2.bad=true:=by unfold setP;exact termP_bad (expectP_bad (propP_bad h))
theorem readP_bad {st:RS} (h:st.bad=true):(readP st).2.bad=true:=by unfold readP;exact partP_bad (partP_bad (orderP_bad (listP_bad itemP_bad h)))
theorem whereP_bad {st:RS} (h:st.bad=true):(whereP st).2.bad=true:=by
 unfold whereP;split;exact listP_bad condP_bad (acceptP_bad h);exact h
theorem actionP_bad {q:PQuery} {st:RS} (h:st.bad=true):(actionP q st).2.bad=true:=by
 unfold actionP;split
 ·exact readP_bad (acceptP_bad h)
 ·split
  ·exact setP_bad (acceptP_bad h)
  ·split
   ·exact nameP_bad (acceptP_bad h)
   ·split
    ·exact linkP_bad (acceptP_bad h)
    ·rfl
end Go.Proofs.YtobgbmfpicmpcaaGreatDoor.Pure

/- The two readers of queries, as plain functions: where neither fails they do the same, and where one fails the other does: tokens, spots, terms, conditions, items. No program in this text. -/
namespace Go.Proofs.YtobgbmfpicmpcaaGreatDoor.Pure
def lits:List ByteArray:=keywords++[mOpen,mClose,mColon,mComma,mDot,mDots,mStar,mTo,mArrow,mBrace,mUnbrace,mEq,mNe,mLt,mLe,mGt,mGe]
structure VT (t:Tok):Prop where
 lo:t.kind=2→-1000000000≤t.val
 hi:t.kind=2→t.val≤1000000000
 no:t.kind=2→∀s∈lits,eqB t.text s=false
structure Ok (st:RS):Prop where
 good:st.bad=false
 all:∀t∈st.rest,VT t
def AgS (p r:RS):Prop:=(p.bad=true∧r.bad=true)∨(p=r∧Ok p)
def Ag {α:Type} (p r:α × RS):Prop:=(p.2.bad=true∧r.2.bad=true)∨(p=r∧Ok p.2)
variable {st:RS}
theorem peek_eq (h:Ok st) {s:ByteArray} (hs:s∈lits):peekP s st=peekR s st:=by
 unfold peekP peekR
 cases hr:st.rest with
 | nil=>rfl
 | cons t r=>
  have hv:=h.all t (by rw[hr];simp)
  by_cases hk:t.kind=2
  ·simp only[hv.no hk s hs];simp
  ·simp[hk]
theorem accept_eq (h:Ok st) {s:ByteArray} (hs:s∈lits):acceptP s st=hasR s st:=by
 unfold acceptP hasR;rw[peek_eq h hs]
theorem Ok.tail (h:Ok st):Ok ⟨st.rest.tail,st.bad⟩:=⟨h.good,fun t ht=>h.all t (List.mem_of_mem_tail ht)⟩
theorem Ok.has (h:Ok st) (s:ByteArray):Ok (hasR s st):=by unfold hasR;split;exact h.tail;exact h
theorem expect_ag (h:Ok st) {s:ByteArray} (hs:s∈lits):AgS (expectP s st) (mustR s st):=by
 unfold expectP mustR
 rw[peek_eq h hs,accept_eq h hs]
 cases peekR s st with
 | true=>exact Or.inr ⟨by simp[orBad_false],by simpa using h.has s⟩
 | false=>exact Or.inl ⟨rfl,orBad_true _⟩
theorem kindP_one {t:Tok}:kindP t=1↔t.kind=1∧isName t.text=true:=by
 unfold kindP kindW
 constructor
 ·intro h;repeat' split at h
  all_goals first|omega|exact⟨by assumption,by assumption⟩
 ·rintro ⟨h1,h2⟩;simp[h1,h2]
theorem title_name {s:ByteArray} (h:isTitle s=true):isName s=false:=by
 unfold isTitle isName at*
 simp only[Bool.and_eq_true,decide_eq_true_eq] at h
 have:¬(97≤bt s 0):=by omega
 simp[this]
theorem kindP_two {t:Tok}:kindP t=2↔t.kind=1∧isTitle t.text=true:=by
 unfold kindP kindW
 constructor
 ·intro h;repeat' split at h
  all_goals first|omega|exact⟨by assumption,by assumption⟩
 ·rintro ⟨h1,h2⟩;simp[h1,h2,title_name h2]
theorem kindP_four {t:Tok}:kindP t=4↔t.kind=2:=by
 unfold kindP kindW
 constructor
 ·intro h;repeat' split at h
  all_goals first|omega|assumption
 ·intro h1;simp[h1]
theorem name_ag (h:Ok st):Ag (nameP st) (nameR st):=by
 unfold nameP nameR takeP nextR seesP isKind
 cases hr:st.rest with
 | nil=>exact Or.inl ⟨rfl,by simp[RS.orBad]⟩
 | cons t r=>
  simp only[kindP_one,decide_eq_true_eq]
  by_cases hk:t.kind=1
  ·by_cases hn:isName t.text=true
   ·refine Or.inr ⟨by simp[hk,hn,orBad_false],?_⟩
    have:=h.tail
    rw[hr] at this
    simpa [hk,hn] using this
   ·exact Or.inl ⟨by simp[hk,hn,failP],by simp[hk,hn,RS.orBad]⟩
  ·exact Or.inl ⟨by simp[hk,failP],by simp[hk,RS.orBad]⟩
theorem title_ag (h:Ok st):Ag (titleP st) (titleR st):=by
 unfold titleP titleR takeP nextR seesP isKind
 cases hr:st.rest with
 | nil=>exact Or.inl ⟨rfl,by simp[RS.orBad]⟩
 | cons t r=>
  simp only[kindP_two,decide_eq_true_eq]
  by_cases hk:t.kind=1
  ·by_cases hn:isTitle t.text=true
   ·refine Or.inr ⟨by simp[hk,hn,orBad_false],?_⟩
    have:=h.tail
    rw[hr] at this
    simpa [hk,hn] using this
   ·exact Or.inl ⟨by simp[hk,hn,failP],by simp[hk,hn,RS.orBad]⟩
  ·exact Or.inl ⟨by simp[hk,failP],by simp[hk,RS.orBad]⟩
theorem number_ag (h:Ok st) (lo hi:Int):Ag (numberP lo hi st) (countR lo hi st):=by
 unfold numberP countR takeP nextR seesP isKind
 cases hr:st.rest with
 | nil=>
  exact Or.inl ⟨by simp[failP],by simp[RS.orBad]⟩
 | cons t r=>
  simp only[kindP_four,decide_eq_true_eq]
  by_cases hk:t.kind=2
  ·by_cases hn:t.val<lo∨hi<t.val
   ·refine Or.inl ⟨by simp[hk,hn,failP],?_⟩
    rcases hn with hn|hn<;>simp[hk,hn,RS.orBad]
   ·have h1:¬t.val<lo:=fun e=>hn (Or.inl e)
    have h2:¬hi<t.val:=fun e=>hn (Or.inr e)
    refine Or.inr ⟨by simp[hk,h1,h2,orBad_false],?_⟩
    have:=h.tail
    rw[hr] at this
    simpa [hk,h1,h2] using this
  ·refine Or.inl ⟨?_,by simp[hk,RS.orBad]⟩
   simp only[hk,if_false];split<;>rfl
theorem spot_ag (h:Ok st) (x:PSpot):Ag (spotP x st) (spotR x st):=by
 unfold spotP spotR
 try simp only
 rcases expect_ag h (s:=mOpen) (by simp[lits,keywords]) with ⟨a,b⟩|⟨e,h1⟩
 ·exact Or.inl ⟨by simp only;refine expectP_bad ?_;split;exact titleP_bad (acceptP_bad (nameP_bad a));exact nameP_bad a,by simp only;refine mustR_bad ?_;split;exact titleR_bad (hasR_bad (nameR_bad b));exact nameR_bad b⟩
 ·rw[←e]
  rcases name_ag h1 with ⟨a,b⟩|⟨e2,h2⟩
  ·exact Or.inl ⟨by simp only;refine expectP_bad ?_;split;exact titleP_bad (acceptP_bad a);exact a,by simp only;refine mustR_bad ?_;split;exact titleR_bad (hasR_bad b);exact b⟩
  ·rw[←e2]
   simp only[peek_eq h2 (s:=mColon) (by simp[lits,keywords]),accept_eq h2 (s:=mColon) (by simp[lits,keywords])]
   cases peekR mColon (nameP (expectP mOpen st)).2 with
   | false=>
    simp only[Bool.false_eq_true,if_false]
    rcases expect_ag h2 (s:=mClose) (by simp[lits,keywords]) with ⟨a,b⟩|⟨e3,h3⟩
    ·exact Or.inl ⟨a,b⟩
    ·exact Or.inr ⟨by simp[e3],h3⟩
   | true=>
    simp only[if_true]
    rcases title_ag (h2.has mColon) with ⟨a,b⟩|⟨e3,h3⟩
    ·exact Or.inl ⟨expectP_bad a,mustR_bad b⟩
    ·rw[←e3]
     rcases expect_ag h3 (s:=mClose) (by simp[lits,keywords]) with ⟨a,b⟩|⟨e4,h4⟩
     ·exact Or.inl ⟨a,b⟩
     ·exact Or.inr ⟨by rw[e4],h4⟩
theorem star_ag (h:Ok st):Ag (starP st) (starR st):=by
 unfold starP starR
 try simp only
 rw[peek_eq h (s:=mStar) (by simp[lits,keywords]),accept_eq h (s:=mStar) (by simp[lits,keywords])]
 cases peekR mStar st with
 | false=>exact Or.inr ⟨rfl,h⟩
 | true=>
  simp only[if_true]
  rcases number_ag (h.has mStar) 0 4 with ⟨a,b⟩|⟨e,h1⟩
  ·exact Or.inl ⟨numberP_bad (expectP_bad a),countR_bad (mustR_bad b)⟩
  ·rw[←e]
   rcases expect_ag h1 (s:=mDots) (by simp[lits,keywords]) with ⟨a,b⟩|⟨e2,h2⟩
   ·exact Or.inl ⟨numberP_bad a,countR_bad b⟩
   ·rw[←e2]
    rcases number_ag h2 (numberP 0 4 (hasR mStar st)).1 4 with ⟨a,b⟩|⟨e3,h3⟩
    ·exact Or.inl ⟨a,b⟩
    ·exact Or.inr ⟨by rw[e3],h3⟩
theorem hop_ag (h:Ok st):Ag (hopP st) (stepR st):=by
 unfold hopP stepP stepR
 try simp only
 rcases title_ag h with ⟨a,b⟩|⟨e,h1⟩
 ·exact Or.inl ⟨spotP_bad (expectP_bad (starP_bad a)),spotR_bad (mustR_bad (starR_bad b))⟩
 ·rw[←e]
  rcases star_ag h1 with ⟨a,b⟩|⟨e2,h2⟩
  ·exact Or.inl ⟨spotP_bad (expectP_bad a),spotR_bad (mustR_bad b)⟩
  ·rw[←e2]
   rcases expect_ag h2 (s:=mArrow) (by simp[lits,keywords]) with ⟨a,b⟩|⟨e3,h3⟩
   ·exact Or.inl ⟨spotP_bad a,spotR_bad b⟩
   ·rw[←e3]
    exact spot_ag h3 _
theorem prop_ag (h:Ok st):Ag (propP st) (((nameR st).1,(nameR (mustR mDot (nameR st).2)).1),(nameR (mustR mDot (nameR st).2)).2):=by
 unfold propP
 try simp only
 rcases name_ag h with ⟨a,b⟩|⟨e,h1⟩
 ·exact Or.inl ⟨nameP_bad (expectP_bad a),nameR_bad (mustR_bad b)⟩
 ·rw[←e]
  rcases expect_ag h1 (s:=mDot) (by simp[lits,keywords]) with ⟨a,b⟩|⟨e2,h2⟩
  ·exact Or.inl ⟨nameP_bad a,nameR_bad b⟩
  ·rw[←e2]
   rcases name_ag h2 with ⟨a,b⟩|⟨e3,h3⟩
   ·exact Or.inl ⟨a,b⟩
   ·exact Or.inr ⟨by rw[e3],h3⟩
theorem term_ag (h:Ok st):Ag (termP st) (termR st):=by
 unfold termP termR
 try simp only
 have hs:seesP 4 st=isKind 2 st:=by
  unfold seesP isKind
  cases st.rest with
  | nil=>rfl
  | cons t r=>simp[kindP_four]
 rw[hs]
 cases hk:isKind 2 st with
 | false=>
  simp only[Bool.false_eq_true,if_false]
  rcases prop_ag h with ⟨a,b⟩|⟨e,h1⟩
  ·exact Or.inl ⟨a,b⟩
  ·refine Or.inr ⟨?_,h1⟩
   rw[e]
 | true=>
  simp only[if_true]
  refine Or.inr ?_
  unfold numberP takeP nextR
  rw[hs,hk]
  unfold isKind at hk
  cases hr:st.rest with
  | nil=>rw[hr] at hk;cases hk
  | cons t r=>
   rw[hr] at hk
   simp only[decide_eq_true_eq] at hk
   have hv:=h.all t (by rw[hr];simp)
   have h1:¬t.val < -1000000000:=by have:=hv.lo hk;omega
   have h2:¬1000000000<t.val:=by have:=hv.hi hk;omega
   have:=h.tail
   rw[hr] at this
   simp only[if_true,List.headD_cons,List.tail_cons,h1,h2,or_self,if_false]
   exact⟨trivial,this⟩
theorem op_ag (l:List ByteArray):∀(i:Int) (_:Ok st) (_:∀s∈l,s∈lits) (_:0<i),Ag (opLoopP l i st) ((opLoop l i st).1,(opLoop l i st).2.orBad (decide ((opLoop l i st).1=0))):=by
 induction l with
 | nil=>intro i h _ _;exact Or.inl ⟨rfl,by simp[opLoop,RS.orBad]⟩
 | cons m r ih=>
  intro i h hl hi
  simp only[opLoopP,opLoop]
  rw[peek_eq h (hl m (by simp)),accept_eq h (hl m (by simp))]
  by_cases hp:peekR m st=true
  ·have:¬i=0:=by omega
   simp only[hp,if_true]
   exact Or.inr ⟨by simp[this,orBad_false],h.has m⟩
  ·simp only[hp]
   exact ih (i+1) h (fun s hs=>hl s (by simp[hs])) (by omega)
theorem cond_ag (h:Ok st):Ag (condP st) (condR st):=by
 unfold condP condR
 try simp only
 rcases term_ag h with ⟨a,b⟩|⟨e,h1⟩
 ·refine Or.inl ⟨?_,?_⟩
  ·split;exact expectP_bad (acceptP_bad (acceptP_bad a));exact termP_bad (opLoopP_bad a)
  ·split;exact mustR_bad (hasR_bad (hasR_bad b));exact termR_bad (orBad_bad (opLoop_bad b))
 ·rw[←e]
  simp only[peek_eq h1 (s:=kIS) (by simp[lits,keywords]),accept_eq h1 (s:=kIS) (by simp[lits,keywords])]
  cases peekR kIS (termP st).2 with
  | true=>
   have h2:=h1.has kIS
   simp only[if_true,peek_eq h2 (s:=kNOT) (by simp[lits,keywords]),accept_eq h2 (s:=kNOT) (by simp[lits,keywords])]
   rcases expect_ag (h2.has kNOT) (s:=kNULL) (by simp[lits,keywords]) with ⟨a,b⟩|⟨e3,h3⟩
   ·exact Or.inl ⟨a,b⟩
   ·exact Or.inr ⟨by rw[e3],h3⟩
  | false=>
   simp only[Bool.false_eq_true,if_false]
   rcases op_ag opsR 1 h1 (by simp[opsR,lits]) (by decide) with ⟨a,b⟩|⟨e2,h2⟩
   ·exact Or.inl ⟨termP_bad a,termR_bad b⟩
   ·have e3:(opLoop opsR 1 (termP st).2).2.orBad (decide ((opLoop opsR 1 (termP st).2).1=0))=(opLoopP opsR 1 (termP st).2).2:=by rw[e2]
    have e4:(opLoop opsR 1 (termP st).2).1=(opLoopP opsR 1 (termP st).2).1:=by rw[e2]
    rw[e3,e4]
    rcases term_ag h2 with ⟨a,b⟩|⟨e5,h5⟩
    ·exact Or.inl ⟨a,b⟩
    ·exact Or.inr ⟨by rw[e5],h5⟩
theorem item_ag (h:Ok st):Ag (itemP st) (itemR st):=by
 unfold itemP itemR
 try simp only
 rw[peek_eq h (s:=kCOUNT) (by simp[lits,keywords]),accept_eq h (s:=kCOUNT) (by simp[lits,keywords])]
 cases peekR kCOUNT st with
 | true=>exact Or.inr ⟨rfl,h.has kCOUNT⟩
 | false=>
  simp only[Bool.false_eq_true,if_false]
  rcases name_ag h with ⟨a,b⟩|⟨e,h1⟩
  ·refine Or.inl ⟨?_,?_⟩
   ·split;exact nameP_bad (acceptP_bad a);exact a
   ·split;exact nameR_bad (hasR_bad b);exact b
  ·rw[←e]
   rw[peek_eq h1 (s:=mDot) (by simp[lits,keywords]),accept_eq h1 (s:=mDot) (by simp[lits,keywords]),h1.good]
   cases peekR mDot (nameP st).2 with
   | false=>exact Or.inr ⟨rfl,h1⟩
   | true=>
    simp only[Bool.not_false,Bool.and_self,if_true]
    rcases name_ag (h1.has mDot) with ⟨a,b⟩|⟨e2,h2⟩
    ·exact Or.inl ⟨a,b⟩
    ·exact Or.inr ⟨by rw[e2],h2⟩
end Go.Proofs.YtobgbmfpicmpcaaGreatDoor.Pure

/- The two readers of queries, as plain functions: lists, paths, matches, what stands behind them. No program in this text. -/
namespace Go.Proofs.YtobgbmfpicmpcaaGreatDoor.Pure
variable {st:RS}
def loopR {α:Type} (one:RS→α × RS) (sep:ByteArray):Nat→List α→RS→List α × RS
 | 0,out,st=>(out,st)
 | n+1,out,st=>if !(one st).2.bad&&peekR sep (one st).2 then loopR one sep n (out++[(one st).1]) (hasR sep (one st).2) else (out++[(one st).1],(one st).2)
theorem condLoop_eq (n:Nat):∀(out:List PCond) (st:RS),condLoop n out st=loopR condR kAND n out st:=by
 induction n with
 | zero=>intro out st;rfl
 | succ n ih=>intro out st;simp only[condLoop,loopR,ih]
theorem itemLoop_eq (n:Nat):∀(out:List PItem) (st:RS),st.bad=false→itemLoop n out st=loopR itemR mComma n out st:=by
 induction n with
 | zero=>intro out st _;rfl
 | succ n ih=>
  intro out st h
  simp only[itemLoop,loopR,h]
  by_cases hb:(itemR st).2.bad=true
  ·simp[hb]
  ·have hb2:(itemR st).2.bad=false:=by simpa using hb
   rw[ih _ _ (by rw[hasR_keeps];exact hb2)]
   simp
theorem peekR_some {s:ByteArray} (h:peekR s st=true):0<st.rest.length:=by
 unfold peekR at h
 split at h
 ·cases h
 ·rename_i e;rw[e];simp
theorem loop_ag {α:Type} {oneP oneR:RS→α × RS} {sep:ByteArray} (hs:sep∈lits) (ho:∀{st:RS},Ok st→Ag (oneP st) (oneR st)) (hb:∀{st:RS},st.bad=true→(oneP st).2.bad=true) (hl:∀{st:RS},Ok st→(oneP st).2.rest.length≤st.rest.length) (n:Nat):
  ∀(m:Nat) (out:List α) (st:RS),Ok st→st.rest.length<n→(oneP st).2.rest.length≤m→Ag (listLoop oneP sep m (out++[(oneP st).1]) (oneP st).2) (loopR oneR sep n out st):=by
 induction n with
 | zero=>intro m out st h h1 _;omega
 | succ n ih=>
  intro m out st h h1 h2
  simp only[loopR]
  have hl1:=hl h
  rcases ho h with ⟨a,b⟩|⟨e,k⟩
  ·exact Or.inl ⟨listLoop_bad hb _ a,by simp[b]⟩
  ·rw[←e]
   rw[k.good]
   by_cases hp:peekR sep (oneP st).2=true
   ·have h3:=peekR_some hp
    have h4:=hasR_less hp
    obtain⟨m,rfl⟩:∃m',m=m'+1:=⟨m - 1,by omega⟩
    simp only[listLoop,peek_eq k hs,accept_eq k hs,hp,Bool.not_false,Bool.and_self,if_true]
    have hl2:=hl (k.has sep)
    exact ih m _ _ (k.has sep) (by omega) (by omega)
   ·have e2:listLoop oneP sep m (out++[(oneP st).1]) (oneP st).2=(out++[(oneP st).1],(oneP st).2):=by
     cases m with
     | zero=>rfl
     | succ m=>simp only[listLoop,peek_eq k hs,hp];rfl
    rw[e2]
    simp only[hp]
    exact Or.inr ⟨rfl,k⟩
theorem list_ag {α:Type} {oneP oneR:RS→α × RS} {sep:ByteArray} (hs:sep∈lits) (ho:∀{st:RS},Ok st→Ag (oneP st) (oneR st)) (hb:∀{st:RS},st.bad=true→(oneP st).2.bad=true) (hl:∀{st:RS},Ok st→(oneP st).2.rest.length≤st.rest.length) (h:Ok st) {n:Nat} (hn:st.rest.length<n):
  Ag (listP oneP sep 6 st) ((loopR oneR sep n [] st).1,(loopR oneR sep n [] st).2.orBad (decide (6<(loopR oneR sep n [] st).1.length))):=by
 have h1:=loop_ag hs ho hb hl n _ [] st h hn (Nat.le_refl _)
 unfold listP
 simp only[List.nil_append] at h1⊢
 rcases h1 with ⟨a,b⟩|⟨e,k⟩
 ·exact Or.inl ⟨by simp only;split;rfl;exact a,orBad_bad b⟩
 ·rw[←e]
  by_cases h6:6<(listLoop oneP sep (oneP st).2.rest.length [(oneP st).1] (oneP st).2).1.length
  ·exact Or.inl ⟨by simp only[h6,if_true];rfl,by simp only[h6,decide_true];exact orBad_true _⟩
  ·refine Or.inr ⟨by simp only[h6,if_false,decide_false,orBad_false],?_⟩
   simp only[h6,if_false]
   exact k
theorem acceptP_len (s:ByteArray) (st:RS):(acceptP s st).rest.length≤st.rest.length:=by
 unfold acceptP;split
 ·simp[List.length_tail]
 ·exact Nat.le_refl _
theorem expectP_len (s:ByteArray) (st:RS):(expectP s st).rest.length≤st.rest.length:=by
 unfold expectP;split;exact acceptP_len s st;simp[failP]
theorem takeP_len (k:Int) (st:RS):(takeP k st).2.rest.length≤st.rest.length:=by
 unfold takeP;split
 ·simp[List.length_tail]
 ·simp[failP]
theorem nameP_len (st:RS):(nameP st).2.rest.length≤st.rest.length:=takeP_len 1 st
theorem titleP_len (st:RS):(titleP st).2.rest.length≤st.rest.length:=takeP_len 2 st
theorem numberP_len (lo hi:Int) (st:RS):(numberP lo hi st).2.rest.length≤st.rest.length:=by
 unfold numberP;simp only;split;simp[failP];exact takeP_len 4 st
theorem termP_len (st:RS):(termP st).2.rest.length≤st.rest.length:=by
 unfold termP propP;split
 ·exact numberP_len _ _ _
 ·have h1:=nameP_len st;have h2:=expectP_len mDot (nameP st).2;have h3:=nameP_len (expectP mDot (nameP st).2);simp only;omega
theorem opLoopP_len (l:List ByteArray):∀(i:Int) (st:RS),(opLoopP l i st).2.rest.length≤st.rest.length:=by
 induction l with
 | nil=>intro i st;simp[opLoopP,failP]
 | cons m r ih=>intro i st;simp only[opLoopP];split;exact acceptP_len m st;exact ih _ _
theorem condP_len (st:RS):(condP st).2.rest.length≤st.rest.length:=by
 unfold condP;simp only
 have h1:=termP_len st
 split
 ·have h2:=acceptP_len kIS (termP st).2;have h3:=acceptP_len kNOT (acceptP kIS (termP st).2);have h4:=expectP_len kNULL (acceptP kNOT (acceptP kIS (termP st).2));simp only;omega
 ·have h2:=opLoopP_len opsR 1 (termP st).2;have h3:=termP_len (opLoopP opsR 1 (termP st).2).2;simp only;omega
theorem itemP_len (st:RS):(itemP st).2.rest.length≤st.rest.length:=by
 unfold itemP;split
 ·exact acceptP_len _ _
 ·simp only
  have h1:=nameP_len st
  split
  ·have h2:=acceptP_len mDot (nameP st).2;have h3:=nameP_len (acceptP mDot (nameP st).2);simp only;omega
  ·exact h1
theorem pairP_len (st:RS):(pairP st).2.rest.length≤st.rest.length:=by
 unfold pairP;simp only
 have h1:=nameP_len st;have h2:=expectP_len mColon (nameP st).2;have h3:=numberP_len (-1000000000) 1000000000 (expectP mColon (nameP st).2);omega
theorem spotP_len (x:PSpot) (st:RS):(spotP x st).2.rest.length≤st.rest.length:=by
 unfold spotP;simp only
 refine Nat.le_trans (expectP_len _ _) ?_
 have h1:=expectP_len mOpen st
 have h2:=nameP_len (expectP mOpen st)
 split
 ·have h3:=titleP_len (acceptP mColon (nameP (expectP mOpen st)).2);have h4:=acceptP_len mColon (nameP (expectP mOpen st)).2;omega
 ·simp only;omega
theorem peekR_two {a b:ByteArray} (h:peekR a st=true) (hab:a.toList≠b.toList):peekR b st=false:=by
 unfold peekR at*
 cases hr:st.rest with
 | nil=>rfl
 | cons t r=>
  rw[hr] at h
  simp only[Bool.and_eq_true] at h
  unfold eqB at*
  have h1:t.text.toList=a.toList:=by simpa using h.2
  simp only[h1]
  simp[hab]
theorem spots_ag (k:Nat):∀(st:RS),Ok st→st.rest.length≤k→∀(fp f1 f2:Nat) (out acc:List PSpot),st.rest.length≤fp→st.rest.length≤f1→st.rest.length≤f2→
  Ag (spotsLoop fp (out++acc) st) (if !(pathLoop f1 acc st).2.bad&&peekR mComma (pathLoop f1 acc st).2 then matchLoop f2 (out++(pathLoop f1 acc st).1) (hasR mComma (pathLoop f1 acc st).2) else (out++(pathLoop f1 acc st).1,(pathLoop f1 acc st).2)):=by
 induction k with
 | zero=>
  intro st h hk fp f1 f2 out acc _ _ _
  have hr:st.rest=[]:=List.length_eq_zero_iff.1 (by omega)
  have p1:∀s,peekR s st=false:=fun s=>by unfold peekR;rw[hr]
  have p2:∀s,peekP s st=false:=fun s=>by unfold peekP;rw[hr]
  have e1:pathLoop f1 acc st=(acc,st):=by cases f1 with|zero=>rfl|succ n=>simp[pathLoop,p1]
  have e2:spotsLoop fp (out++acc) st=(out++acc,st):=by cases fp with|zero=>rfl|succ n=>simp[spotsLoop,p2]
  rw[e1,e2]
  simp only[p1,Bool.and_false]
  exact Or.inr ⟨rfl,h⟩
 | succ k ih=>
  intro st h hk fp f1 f2 out acc hp h1 h2
  by_cases ht:peekR mTo st=true
  ·have hc:peekR mComma st=false:=peekR_two ht (by decide +kernel)
   have h3:=peekR_some ht
   have h4:=hasR_less ht
   obtain⟨fp,rfl⟩:∃m',fp=m'+1:=⟨fp - 1,by omega⟩
   obtain⟨f1,rfl⟩:∃m',f1=m'+1:=⟨f1 - 1,by omega⟩
   have k1:=h.has mTo
   simp only[spotsLoop,pathLoop,peek_eq h (s:=mComma) (by simp[lits,keywords]),peek_eq h (s:=mTo) (by simp[lits,keywords]),accept_eq h (s:=mTo) (by simp[lits,keywords]),hc,ht,h.good,Bool.not_false,Bool.and_self,if_true,Bool.false_eq_true,if_false]
   rcases hop_ag k1 with ⟨a,b⟩|⟨e,k2⟩
   ·refine Or.inl ⟨spotsLoop_bad _ a,?_⟩
    have hb:=pathLoop_bad f1 (out:=acc++[(stepR (hasR mTo st)).1]) b
    simp[hb]
   ·rw[←e]
    have hl:=stepR_len (hasR mTo st)
    rw[←e] at hl
    have:=ih (hopP (hasR mTo st)).2 k2 (by omega) fp f1 f2 out (acc++[(hopP (hasR mTo st)).1]) (by omega) (by omega) (by omega)
    rw[←List.append_assoc] at this
    exact this
  ·have e1:pathLoop f1 acc st=(acc,st):=by cases f1 with|zero=>rfl|succ n=>simp[pathLoop,ht]
   rw[e1]
   simp only[h.good]
   by_cases hc:peekR mComma st=true
   ·have h3:=peekR_some hc
    have h4:=hasR_less hc
    obtain⟨fp,rfl⟩:∃m',fp=m'+1:=⟨fp - 1,by omega⟩
    obtain⟨f2,rfl⟩:∃m',f2=m'+1:=⟨f2 - 1,by omega⟩
    have k1:=h.has mComma
    simp only[spotsLoop,matchLoop,peek_eq h (s:=mComma) (by simp[lits,keywords]),accept_eq h (s:=mComma) (by simp[lits,keywords]),hc,k1.good,Bool.not_false,Bool.and_self,if_true,Bool.false_eq_true,if_false]
    unfold pathR
    rcases spot_ag k1 spot0 with ⟨a,b⟩|⟨e,k2⟩
    ·refine Or.inl ⟨spotsLoop_bad _ a,?_⟩
     have hb:=pathLoop_bad (spotR spot0 (hasR mComma st)).2.rest.length (out:=[(spotR spot0 (hasR mComma st)).1]) b
     simp[hb]
    ·rw[←e]
     have hl:=spotP_len spot0 (hasR mComma st)
     exact ih (spotP spot0 (hasR mComma st)).2 k2 (by omega) fp (spotP spot0 (hasR mComma st)).2.rest.length f2 (out++acc) [(spotP spot0 (hasR mComma st)).1] (by omega) (Nat.le_refl _) (by omega)
   ·have e2:spotsLoop fp (out++acc) st=(out++acc,st):=by
     cases fp with
     | zero=>rfl
     | succ n=>simp only[spotsLoop,peek_eq h (s:=mComma) (by simp[lits,keywords]),peek_eq h (s:=mTo) (by simp[lits,keywords]),hc,ht];rfl
    rw[e2]
    simp only[hc]
    exact Or.inr ⟨rfl,h⟩
theorem paths_ag (h:Ok st) {n:Nat} (hn:st.rest.length<n):Ag (spotsLoop (spotP spot0 st).2.rest.length [(spotP spot0 st).1] (spotP spot0 st).2) (matchLoop n [] st):=by
 obtain⟨n,rfl⟩:∃m',n=m'+1:=⟨n - 1,by omega⟩
 simp only[matchLoop,h.good]
 unfold pathR
 rcases spot_ag h spot0 with ⟨a,b⟩|⟨e,k2⟩
 ·refine Or.inl ⟨spotsLoop_bad _ a,?_⟩
  have hb:=pathLoop_bad (spotR spot0 st).2.rest.length (out:=[(spotR spot0 st).1]) b
  simp[hb]
 ·rw[←e]
  have hl:=spotP_len spot0 st
  exact spots_ag _ (spotP spot0 st).2 k2 (Nat.le_refl _) _ (spotP spot0 st).2.rest.length n [] [(spotP spot0 st).1] (Nat.le_refl _) (Nat.le_refl _) (by omega)
end Go.Proofs.YtobgbmfpicmpcaaGreatDoor.Pure

/- The two readers of queries, as plain functions: a make's pairs, what stands behind a match, whole queries; so the two agree on all tokens. No program in this text. -/
namespace Go.Proofs.YtobgbmfpicmpcaaGreatDoor.Pure
variable {st:RS}
def pair0 (st:RS):PPair × RS:=(⟨(nameR st).1,(countR (-1000000000) 1000000000 (mustR mColon (nameR st).2)).1⟩,(countR (-1000000000) 1000000000 (mustR mColon (nameR st).2)).2)
theorem pair_ag (h:Ok st):Ag (pairP st) (pair0 st):=by
 unfold pairP pair0
 try simp only
 rcases name_ag h with ⟨a,b⟩|⟨e,h1⟩
 ·exact Or.inl ⟨numberP_bad (expectP_bad a),countR_bad (mustR_bad b)⟩
 ·rw[←e]
  rcases expect_ag h1 (s:=mColon) (by simp[lits,keywords]) with ⟨a,b⟩|⟨e2,h2⟩
  ·exact Or.inl ⟨numberP_bad a,countR_bad b⟩
  ·rw[←e2]
   rcases number_ag h2 (-1000000000) 1000000000 with ⟨a,b⟩|⟨e3,h3⟩
   ·exact Or.inl ⟨a,b⟩
   ·exact Or.inr ⟨by rw[e3],h3⟩
theorem pairR_eq (l:List PPair) (st:RS):pairR l st=((pair0 st).1,(pair0 st).2.orBad (l.any fun x=>eqB x.key (pair0 st).1.key)):=rfl
theorem twiceP_append (b:List PPair):∀(a pre:List PPair),twiceP pre (a++b)=(twiceP pre a || twiceP (pre++a) b):=by
 intro a
 induction a with
 | nil=>intro pre;simp[twiceP]
 | cons x a ih=>intro pre;simp only[List.cons_append,twiceP,ih];simp[Bool.or_assoc]
theorem loopR_more {α:Type} {one:RS→α × RS} {sep:ByteArray} (n:Nat):∀(out:List α) (st:RS),∃l,(loopR one sep n out st).1=out++l:=by
 induction n with
 | zero=>intro out st;exact⟨[],by simp[loopR]⟩
 | succ n ih=>
  intro out st
  simp only[loopR]
  split
  ·obtain⟨l,hl⟩:=ih (out++[(one st).1]) (hasR sep (one st).2)
   exact⟨(one st).1::l,by rw[hl];simp⟩
  ·exact⟨[(one st).1],rfl⟩
theorem loopR_next {α:Type} {one:RS→α × RS} {sep:ByteArray} (n:Nat) (out:List α) (st:RS):∃l,(loopR one sep (n+1) out st).1=(out++[(one st).1])++l:=by
 simp only[loopR]
 split
 ·exact loopR_more n _ _
 ·exact⟨[],by simp⟩
theorem pairs_eq (n:Nat):∀(out:List PPair) (st:RS),st.bad=false→twiceP [] out=false→
  (pairLoop n out st=loopR pair0 mComma n out st∧((loopR pair0 mComma n out st).2.bad=false→twiceP [] (loopR pair0 mComma n out st).1=false))∨
  ((pairLoop n out st).2.bad=true∧((loopR pair0 mComma n out st).2.bad=true∨twiceP [] (loopR pair0 mComma n out st).1=true)):=by
 induction n with
 | zero=>intro out st _ ht;exact Or.inl ⟨rfl,fun _=>ht⟩
 | succ n ih=>
  intro out st h ht
  by_cases hb:(pair0 st).2.bad=true
  ·refine Or.inl ⟨?_,fun e=>?_⟩
   ·have e1:(pair0 st).2.orBad (out.any fun x=>eqB x.key (pair0 st).1.key)=(pair0 st).2:=by
     unfold RS.orBad
     rw[hb]
     cases hq:(pair0 st).2 with
     | mk r b=>rw[hq] at hb;simp only at hb;simp[hb]
    simp only[pairLoop,loopR,h,pairR_eq,e1,hb]
    simp
   ·simp only[loopR,hb] at e
    simp[hb] at e
  ·have hb2:(pair0 st).2.bad=false:=by simpa using hb
   by_cases hd:(out.any fun x=>eqB x.key (pair0 st).1.key)=true
   ·refine Or.inr ⟨?_,Or.inr ?_⟩
    ·simp only[pairLoop,h,pairR_eq,hd,RS.orBad]
     simp
    ·obtain⟨l,hl⟩:=loopR_next (one:=pair0) (sep:=mComma) n out st
     rw[hl,twiceP_append,twiceP_append]
     simp[twiceP,hd]
   ·have hd2:(out.any fun x=>eqB x.key (pair0 st).1.key)=false:=by simpa using hd
    have e1:pairR out st=pair0 st:=by rw[pairR_eq,hd2,orBad_false]
    have ht2:twiceP [] (out++[(pair0 st).1])=false:=by rw[twiceP_append,ht];simp[twiceP,hd2]
    simp only[pairLoop,loopR,h,e1,hb2]
    by_cases hp:peekR mComma (pair0 st).2=true
    ·simp only[hp]
     simpa using ih (out++[(pair0 st).1]) (hasR mComma (pair0 st).2) (by rw[hasR_keeps];exact hb2) ht2
    ·simp only[hp]
     exact Or.inl ⟨rfl,fun _=>ht2⟩
theorem creationP_bad {st:RS} (h:(titleP (expectP mOpen st)).2.bad=true):(creationP st).2.bad=true:=by
 unfold creationP;simp only
 by_cases hp:peekP mBrace (titleP (expectP mOpen st)).2=true
 ·simp only[hp,if_true];split;rfl;exact expectP_bad (expectP_bad (listP_bad pairP_bad (acceptP_bad h)))
 ·simp only[hp];simp only[Bool.false_eq_true,if_false,twiceP];exact expectP_bad h
theorem makeR_bad {st:RS} (h:(titleR (mustR mOpen st)).2.bad=true):(makeR st).2.bad=true:=by
 unfold makeR;simp only
 refine orBad_bad (mustR_bad ?_)
 have hb:(hasR mBrace (titleR (mustR mOpen st)).2).bad=true:=hasR_bad h
 by_cases hp:peekR mBrace (titleR (mustR mOpen st)).2=true
 ·simp only[hp,if_true];refine mustR_bad ?_;simp[pairLoop,hb]
 ·simp only[hp];exact h
theorem make_ag (h:Ok st):Ag (creationP st) (makeR st):=by
 have l1:=mustR_len mOpen st
 have l2:=titleR_len (mustR mOpen st)
 rcases expect_ag h (s:=mOpen) (by simp[lits,keywords]) with ⟨a,b⟩|⟨e,h1⟩
 ·exact Or.inl ⟨creationP_bad (titleP_bad a),makeR_bad (titleR_bad b)⟩
 ·rcases title_ag h1 with ⟨a,b⟩|⟨e2,h2⟩
  ·exact Or.inl ⟨creationP_bad a,makeR_bad (by rw[←e];exact b)⟩
  ·unfold creationP makeR
   try simp only
   rw[←e] at l1 l2⊢
   rw[←e2] at l2⊢
   rw[peek_eq h2 (s:=mBrace) (by simp[lits,keywords]),accept_eq h2 (s:=mBrace) (by simp[lits,keywords])]
   by_cases hp:peekR mBrace (titleP (expectP mOpen st)).2=true
   ·simp only[hp,if_true]
    have h3:=h2.has mBrace
    have l3:=hasR_len mBrace (titleP (expectP mOpen st)).2
    have hn:(hasR mBrace (titleP (expectP mOpen st)).2).rest.length<st.rest.length+1:=by omega
    have hpa:=list_ag (sep:=mComma) (by simp[lits,keywords]) pair_ag pairP_bad (fun {st} _=>pairP_len st) h3 hn
    rcases pairs_eq (st.rest.length+1) [] (hasR mBrace (titleP (expectP mOpen st)).2) h3.good rfl with ⟨q1,q2⟩|⟨q1,q2⟩
    ·rw[q1]
     generalize loopR pair0 mComma (st.rest.length+1) [] (hasR mBrace (titleP (expectP mOpen st)).2)=L at hpa q2⊢
     rcases hpa with ⟨a,b⟩|⟨e3,h4⟩
     ·refine Or.inl ⟨?_,?_⟩
      ·split
       ·rfl
       ·exact expectP_bad (expectP_bad a)
      ·unfold RS.orBad at b⊢
       simp only[Bool.or_eq_true] at b⊢
       rcases b with b|b
       ·exact Or.inl (mustR_bad (mustR_bad b))
       ·exact Or.inr b
     ·have hg:=h4.good
      rw[e3] at hg h4
      simp only[RS.orBad,Bool.or_eq_false_iff] at hg
      rw[e3]
      simp only at h4⊢
      rw[q2 hg.1]
      have e5:L.2.orBad (decide (6<L.1.length))=L.2:=by rw[hg.2,orBad_false]
      rw[e5] at h4⊢
      rw[hg.2]
      simp only[Bool.false_eq_true,if_false,orBad_false]
      rcases expect_ag h4 (s:=mUnbrace) (by simp[lits,keywords]) with ⟨a,b⟩|⟨e6,h6⟩
      ·exact Or.inl ⟨expectP_bad a,mustR_bad b⟩
      ·rw[←e6]
       rcases expect_ag h6 (s:=mClose) (by simp[lits,keywords]) with ⟨a,b⟩|⟨e7,h7⟩
       ·exact Or.inl ⟨a,b⟩
       ·exact Or.inr ⟨by rw[e7],h7⟩
    ·refine Or.inl ⟨?_,orBad_bad (mustR_bad (mustR_bad q1))⟩
     rcases hpa with ⟨a,b⟩|⟨e3,h4⟩
     ·split
      ·rfl
      ·exact expectP_bad (expectP_bad a)
     ·have hg:=h4.good
      rw[e3] at hg
      simp only[RS.orBad,Bool.or_eq_false_iff] at hg
      rw[e3]
      simp only
      rcases q2 with q2|q2
      ·rw[hg.1] at q2;cases q2
      ·rw[q2];rfl
   ·simp only[hp]
    simp only[Bool.false_eq_true,if_false,twiceP,List.length_nil]
    rcases expect_ag h2 (s:=mClose) (by simp[lits,keywords]) with ⟨a,b⟩|⟨e7,h7⟩
    ·exact Or.inl ⟨a,orBad_bad b⟩
    ·refine Or.inr ⟨?_,h7⟩
     rw[e7]
     simp[orBad_false]
end Go.Proofs.YtobgbmfpicmpcaaGreatDoor.Pure

/- The two readers of queries agree, on all tokens that a text can have. No program in this text. -/
namespace Go.Proofs.YtobgbmfpicmpcaaGreatDoor.Pure
variable {st:RS}
theorem order_ag (h:Ok st) (k:Int):Ag (orderP k st) (orderR k st):=by
 unfold orderP orderR
 rw[peek_eq h (s:=kORDER) (by simp[lits,keywords]),accept_eq h (s:=kORDER) (by simp[lits,keywords]),h.good]
 by_cases hp:peekR kORDER st=true
 ·simp only[hp,Bool.not_false,Bool.and_self,if_true]
  rcases expect_ag (h.has kORDER) (s:=kBY) (by simp[lits,keywords]) with ⟨a,b⟩|⟨e,h1⟩
  ·exact Or.inl ⟨acceptP_bad (numberP_bad a),hasR_bad (countR_bad b)⟩
  ·rw[←e]
   rcases number_ag h1 1 k with ⟨a,b⟩|⟨e2,h2⟩
   ·exact Or.inl ⟨acceptP_bad a,hasR_bad b⟩
   ·rw[←e2,peek_eq h2 (s:=kDESC) (by simp[lits,keywords]),accept_eq h2 (s:=kDESC) (by simp[lits,keywords])]
    exact Or.inr ⟨rfl,h2.has kDESC⟩
 ·simp only[hp]
  exact Or.inr ⟨rfl,h⟩
theorem part_ag (h:Ok st) {s:ByteArray} (hs:s∈lits) (k:Int):Ag (partP s k st) (partR s k st):=by
 unfold partP partR
 rw[peek_eq h hs,accept_eq h hs,h.good]
 by_cases hp:peekR s st=true
 ·simp only[hp,Bool.not_false,Bool.and_self,if_true]
  exact number_ag (h.has s) 0 1000000000
 ·simp only[hp]
  exact Or.inr ⟨rfl,h⟩
theorem read_ag (h:Ok st):Ag (readP st) (itemsR st):=by
 have hpa:=list_ag (sep:=mComma) (n:=st.rest.length+1) (by simp[lits,keywords]) item_ag itemP_bad (fun {st} _=>itemP_len st) h (by omega)
 unfold readP itemsR
 try simp only
 rw[itemLoop_eq _ _ _ h.good]
 generalize loopR itemR mComma (st.rest.length+1) [] st=L at hpa⊢
 rcases hpa with ⟨a,b⟩|⟨e3,h4⟩
 ·refine Or.inl ⟨partP_bad (partP_bad (orderP_bad a)),?_⟩
  unfold RS.orBad at b⊢
  simp only[Bool.or_eq_true] at b⊢
  rcases b with b|b
  ·exact Or.inl (partR_bad (partR_bad (orderR_bad b)))
  ·exact Or.inr b
 ·have hg:=h4.good
  rw[e3] at hg h4
  simp only[RS.orBad,Bool.or_eq_false_iff] at hg
  rw[e3]
  have e5:L.2.orBad (decide (6<L.1.length))=L.2:=by rw[hg.2,orBad_false]
  simp only at h4⊢
  rw[e5] at h4⊢
  rw[hg.2]
  simp only[orBad_false]
  rcases order_ag h4 L.1.length with ⟨a,b⟩|⟨e,h1⟩
  ·exact Or.inl ⟨partP_bad (partP_bad a),partR_bad (partR_bad b)⟩
  ·rw[←e]
   rcases part_ag h1 (s:=kSKIP) (by simp[lits,keywords]) 0 with ⟨a,b⟩|⟨e2,h2⟩
   ·exact Or.inl ⟨partP_bad a,partR_bad b⟩
   ·rw[←e2]
    rcases part_ag h2 (s:=kLIMIT) (by simp[lits,keywords]) (-1) with ⟨a,b⟩|⟨e6,h6⟩
    ·exact Or.inl ⟨a,b⟩
    ·exact Or.inr ⟨by rw[e6],h6⟩
theorem link_ag (h:Ok st) (hp:peekR kCREATE st=true):Ag (linkP (hasR kCREATE st)) (linkR st):=by
 unfold linkP linkR
 have e0:mustR kCREATE st=hasR kCREATE st:=by unfold mustR;rw[hp];exact orBad_false _
 rw[e0]
 try simp only
 rcases expect_ag (h.has kCREATE) (s:=mOpen) (by simp[lits,keywords]) with ⟨a,b⟩|⟨e,h1⟩
 ·exact Or.inl ⟨expectP_bad (nameP_bad (expectP_bad (expectP_bad (titleP_bad (expectP_bad (expectP_bad (nameP_bad a))))))),mustR_bad (nameR_bad (mustR_bad (mustR_bad (titleR_bad (mustR_bad (mustR_bad (nameR_bad b)))))))⟩
 rw[←e]
 rcases name_ag h1 with ⟨a,b⟩|⟨e,h2⟩
 ·exact Or.inl ⟨expectP_bad (nameP_bad (expectP_bad (expectP_bad (titleP_bad (expectP_bad (expectP_bad a)))))),mustR_bad (nameR_bad (mustR_bad (mustR_bad (titleR_bad (mustR_bad (mustR_bad b))))))⟩
 rw[←e]
 rcases expect_ag h2 (s:=mClose) (by simp[lits,keywords]) with ⟨a,b⟩|⟨e,h3⟩
 ·exact Or.inl ⟨expectP_bad (nameP_bad (expectP_bad (expectP_bad (titleP_bad (expectP_bad a))))),mustR_bad (nameR_bad (mustR_bad (mustR_bad (titleR_bad (mustR_bad b)))))⟩
 rw[←e]
 rcases expect_ag h3 (s:=mTo) (by simp[lits,keywords]) with ⟨a,b⟩|⟨e,h4⟩
 ·exact Or.inl ⟨expectP_bad (nameP_bad (expectP_bad (expectP_bad (titleP_bad a)))),mustR_bad (nameR_bad (mustR_bad (mustR_bad (titleR_bad b))))⟩
 rw[←e]
 rcases title_ag h4 with ⟨a,b⟩|⟨e,h5⟩
 ·exact Or.inl ⟨expectP_bad (nameP_bad (expectP_bad (expectP_bad a))),mustR_bad (nameR_bad (mustR_bad (mustR_bad b)))⟩
 rw[←e]
 rcases expect_ag h5 (s:=mArrow) (by simp[lits,keywords]) with ⟨a,b⟩|⟨e,h6⟩
 ·exact Or.inl ⟨expectP_bad (nameP_bad (expectP_bad a)),mustR_bad (nameR_bad (mustR_bad b))⟩
 rw[←e]
 rcases expect_ag h6 (s:=mOpen) (by simp[lits,keywords]) with ⟨a,b⟩|⟨e,h7⟩
 ·exact Or.inl ⟨expectP_bad (nameP_bad a),mustR_bad (nameR_bad b)⟩
 rw[←e]
 rcases name_ag h7 with ⟨a,b⟩|⟨e,h8⟩
 ·exact Or.inl ⟨expectP_bad a,mustR_bad b⟩
 rw[←e]
 rcases expect_ag h8 (s:=mClose) (by simp[lits,keywords]) with ⟨a,b⟩|⟨e,h9⟩
 ·exact Or.inl ⟨a,b⟩
 exact Or.inr ⟨by rw[e],h9⟩
theorem set_ag (h:Ok st):Ag (setP st) (setR st):=by
 unfold setP setR
 try simp only
 rcases prop_ag h with ⟨a,b⟩|⟨e,h1⟩
 ·exact Or.inl ⟨termP_bad (expectP_bad a),termR_bad (mustR_bad b)⟩
 ·have e1:(propP st).1.1=(nameR st).1:=by rw[e]
  have e2:(propP st).1.2=(nameR (mustR mDot (nameR st).2)).1:=by rw[e]
  have e3:(propP st).2=(nameR (mustR mDot (nameR st).2)).2:=by rw[e]
  rw[←e1,←e2,←e3]
  rcases expect_ag h1 (s:=mEq) (by simp[lits,keywords]) with ⟨a,b⟩|⟨e4,h4⟩
  ·exact Or.inl ⟨termP_bad a,termR_bad b⟩
  ·rw[←e4]
   rcases term_ag h4 with ⟨a,b⟩|⟨e5,h5⟩
   ·exact Or.inl ⟨a,b⟩
   ·exact Or.inr ⟨by rw[e5],h5⟩
theorem action_ag (h:Ok st) (q:PQuery):Ag (actionP q st) (behindR q st):=by
 unfold actionP behindR
 simp only[peek_eq h (s:=kRETURN) (by simp[lits,keywords]),peek_eq h (s:=kSET) (by simp[lits,keywords]),peek_eq h (s:=kDELETE) (by simp[lits,keywords]),peek_eq h (s:=kCREATE) (by simp[lits,keywords]),accept_eq h (s:=kRETURN) (by simp[lits,keywords]),accept_eq h (s:=kSET) (by simp[lits,keywords]),accept_eq h (s:=kDELETE) (by simp[lits,keywords]),accept_eq h (s:=kCREATE) (by simp[lits,keywords])]
 by_cases h1:peekR kRETURN st=true
 ·simp only[h1,if_true]
  rcases read_ag (h.has kRETURN) with ⟨a,b⟩|⟨e,k⟩
  ·exact Or.inl ⟨a,b⟩
  ·exact Or.inr ⟨by rw[e],k⟩
 ·simp only[h1]
  by_cases h2:peekR kSET st=true
  ·simp only[h2,if_true]
   rcases set_ag (h.has kSET) with ⟨a,b⟩|⟨e,k⟩
   ·exact Or.inl ⟨a,b⟩
   ·exact Or.inr ⟨by rw[e];rfl,k⟩
  ·simp only[h2]
   by_cases h3:peekR kDELETE st=true
   ·simp only[h3,if_true]
    rcases name_ag (h.has kDELETE) with ⟨a,b⟩|⟨e,k⟩
    ·exact Or.inl ⟨a,b⟩
    ·exact Or.inr ⟨by rw[e];rfl,k⟩
   ·simp only[h3]
    by_cases h4:peekR kCREATE st=true
    ·simp only[h4,if_true]
     rcases link_ag h h4 with ⟨a,b⟩|⟨e,k⟩
     ·exact Or.inl ⟨a,b⟩
     ·exact Or.inr ⟨by rw[e];rfl,k⟩
    ·simp only[h4]
     have h5:peekR kCREATE st=false:=by simpa using h4
     exact Or.inl ⟨rfl,linkR_bad (by unfold mustR;rw[h5];exact orBad_true _)⟩
theorem matchLoop_len (n:Nat):∀(out:List PSpot) (st:RS),(matchLoop n out st).2.rest.length≤st.rest.length:=by
 induction n with
 | zero=>intro out st;exact Nat.le_refl _
 | succ n ih=>
  intro out st
  simp only[matchLoop]
  have h1:=pathR_len st
  split
  ·exact Nat.le_refl _
  ·split
   ·have h2:=ih (out++(pathR st).1) (hasR mComma (pathR st).2)
    have h3:=hasR_len mComma (pathR st).2
    omega
   ·exact h1
def matP (st:RS):(List PSpot × List PCond) × RS:=(((spotsP (expectP kMATCH st)).1,(whereP (spotsP (expectP kMATCH st)).2).1),(whereP (spotsP (expectP kMATCH st)).2).2)
theorem match_ag (h:Ok st):Ag (matP st) (matchR st):=by
 unfold matP matchR
 try simp only
 have l1:=mustR_len kMATCH st
 rcases expect_ag h (s:=kMATCH) (by simp[lits,keywords]) with ⟨a,b⟩|⟨e,h1⟩
 ·refine Or.inl ⟨whereP_bad (spotsP_bad a),orBad_bad ?_⟩
  simp[matchLoop,b]
 ·rw[←e] at l1⊢
  have hpa:=paths_ag h1 (n:=st.rest.length+1) (by omega)
  have lm:∀(L:List PSpot × RS),(spotsLoop (spotP spot0 (expectP kMATCH st)).2.rest.length [(spotP spot0 (expectP kMATCH st)).1] (spotP spot0 (expectP kMATCH st)).2)=L→spotsP (expectP kMATCH st)=(L.1,if 6<L.1.length then failP else L.2):=by
   intro L hL
   unfold spotsP
   rw[hL]
  rcases hpa with ⟨a,b⟩|⟨e2,h2⟩
  ·refine Or.inl ⟨?_,orBad_bad ?_⟩
   ·refine whereP_bad ?_
    rw[lm _ rfl]
    simp only
    split;rfl;exact a
   ·simp[b]
  ·rw[lm _ rfl,←e2]
   generalize spotsLoop (spotP spot0 (expectP kMATCH st)).2.rest.length [(spotP spot0 (expectP kMATCH st)).1] (spotP spot0 (expectP kMATCH st)).2=L at e2 h2
   have l2:L.2.rest.length≤st.rest.length:=by
    rw[e2]
    exact Nat.le_trans (matchLoop_len _ _ _) l1
   by_cases h6:6<L.1.length
   ·simp only[h6,if_true,decide_true,Bool.true_or]
    exact Or.inl ⟨whereP_bad rfl,orBad_true _⟩
   ·simp only[h6,if_false,decide_false,Bool.false_or]
    unfold whereP
    rw[peek_eq h2 (s:=kWHERE) (by simp[lits,keywords]),accept_eq h2 (s:=kWHERE) (by simp[lits,keywords]),h2.good]
    by_cases hw:peekR kWHERE L.2=true
    ·simp only[hw,Bool.not_false,Bool.and_self,if_true]
     have l3:=hasR_len kWHERE L.2
     have hpa:=list_ag (sep:=kAND) (n:=st.rest.length+1) (by simp[lits,keywords]) cond_ag condP_bad (fun {st} _=>condP_len st) (h2.has kWHERE) (by omega)
     rw[condLoop_eq]
     rcases hpa with ⟨a,b⟩|⟨e3,h3⟩
     ·exact Or.inl ⟨a,b⟩
     ·exact Or.inr ⟨by rw[e3],h3⟩
    ·simp only[hw]
     simp only[Bool.and_false,Bool.false_eq_true,if_false,List.length_nil]
     exact Or.inr ⟨by simp[orBad_false],h2⟩
theorem query_ag (h:Ok st):Ag (queryP st) (queryR st):=by
 unfold queryP queryR
 simp only[peek_eq h (s:=kCALL) (by simp[lits,keywords]),peek_eq h (s:=kCREATE) (by simp[lits,keywords]),accept_eq h (s:=kCALL) (by simp[lits,keywords]),accept_eq h (s:=kCREATE) (by simp[lits,keywords])]
 by_cases h1:peekR kCALL st=true
 ·have h2:peekR kCREATE st=false:=peekR_two h1 (by decide +kernel)
  simp only[h1,h2,if_true,Bool.false_eq_true,if_false]
  rcases name_ag (h.has kCALL) with ⟨a,b⟩|⟨e,k⟩
  ·exact Or.inl ⟨a,b⟩
  ·exact Or.inr ⟨by rw[e],k⟩
 ·simp only[h1]
  by_cases h2:peekR kCREATE st=true
  ·simp only[h2,if_true,Bool.false_eq_true,if_false]
   rcases make_ag (h.has kCREATE) with ⟨a,b⟩|⟨e,k⟩
   ·exact Or.inl ⟨a,b⟩
   ·exact Or.inr ⟨by rw[e],k⟩
  ·simp only[h2,Bool.false_eq_true,if_false]
   have hm:=match_ag h
   unfold matP at hm
   rcases hm with ⟨a,b⟩|⟨e,k⟩
   ·refine Or.inl ⟨actionP_bad a,?_⟩
    rw[b];exact b
   ·have e1:(spotsP (expectP kMATCH st)).1=(matchR st).1.1:=by rw[←e]
    have e2:(whereP (spotsP (expectP kMATCH st)).2).1=(matchR st).1.2:=by rw[←e]
    have e3:(whereP (spotsP (expectP kMATCH st)).2).2=(matchR st).2:=by rw[←e]
    simp only at k
    rw[e1,e2,e3]
    rw[e3] at k
    rw[k.good]
    exact action_ag k _
structure Shape (q:PQuery):Prop where
 val:q.kind≠2→q.value.name=e0
 nam:q.kind=1∨q.kind=5→q.name=e0∧q.to=e0
 kin:q.kind=1∨q.kind=2∨q.kind=3∨q.kind=4∨q.kind=5∨q.kind=6
theorem shape (st:RS) (h:(queryR st).2.bad=false):Shape (queryR st).1:=by
 unfold queryR at h⊢
 split
 ·exact⟨fun _=>rfl,fun _=>⟨rfl,rfl⟩,by simp⟩
 ·rename_i hc
  rw[if_neg hc] at h
  split
  ·exact⟨fun _=>rfl,fun e=>by simp at e,by simp⟩
  ·rename_i hd
   rw[if_neg hd] at h
   simp only at h⊢
   split
   ·rename_i hb
    rw[if_pos hb] at h
    simp only at h
    rw[hb] at h
    cases h
   ·unfold behindR
    split
    ·exact⟨fun _=>rfl,fun _=>⟨rfl,rfl⟩,by simp⟩
    ·split
     ·exact⟨fun e=>by simp at e,fun e=>by simp at e,by simp⟩
     ·split
      ·exact⟨fun _=>rfl,fun e=>by simp at e,by simp⟩
      ·exact⟨fun _=>rfl,fun e=>by simp at e,by simp⟩
theorem e0_empty:e0.toList.isEmpty=true:=by decide +kernel
theorem bound_eq {l:List PSpot} {a b:ByteArray} (h:eqB a b=true):boundR l a=boundR l b:=by
 unfold boundR eqB at*
 have:a.toList=b.toList:=by simpa using h
 rw[this]
theorem scope_eq {q:PQuery} (h:Shape q):inScopeP q=scopedR q:=by
 unfold inScopeP scopedR usedP namesR
 simp only[List.all_append]
 by_cases h2:q.kind=2
 ·simp only[h2]
  simp only[ne_eq,Int.reduceEq,not_false_eq_true,if_true,not_true_eq_false,decide_false,Bool.false_or,List.all_cons,List.all_nil,Bool.and_true,Int.le_refl,Int.reduceLE,and_self]
  cases hv:q.value.name.toList.isEmpty with
  | true=>simp
  | false=>
   cases he:eqB q.value.name q.name with
   | false=>simp
   | true=>
    have hn:q.name.toList.isEmpty=false:=by
     have:q.value.name.toList=q.name.toList:=by unfold eqB at he;simpa using he
     rw[←this];exact hv
    rw[bound_eq he]
    simp only[hn,Bool.false_or,Bool.or_true,Bool.and_true]
    cases boundR q.spots q.name<;>simp
 ·rw[h.val h2]
  simp only[e0_empty,Bool.true_or,Bool.and_true,Bool.or_true,ne_eq,h2,not_false_eq_true,decide_true]
  rcases h.kin with k|k|k|k|k|k
  ·obtain⟨a,b⟩:=h.nam (Or.inl k)
   rw[a,b]
   simp[k,e0_empty]
  ·exact absurd k h2
  ·simp[k,e0_empty]
  ·simp[k,e0_empty]
  ·obtain⟨a,b⟩:=h.nam (Or.inr k)
   rw[a,b]
   simp[k,e0_empty]
  ·simp[k]
theorem parse_eq {ts:List Tok} (h:∀t∈ts,VT t):parseP ts=parseR ts:=by
 unfold parseP parseR
 simp only
 rcases query_ag (st:=⟨ts,false⟩) ⟨rfl,h⟩ with ⟨a,b⟩|⟨e,k⟩
 ·simp[a,b]
 ·have hs:=shape ⟨ts,false⟩ (by rw[←e];exact k.good)
  rw[←e,scope_eq (by rw[e];exact hs)]
end Go.Proofs.YtobgbmfpicmpcaaGreatDoor.Pure

/- What is known of the tokens that come out of a text. No program in this text. -/
namespace Go.Proofs.YtobgbmfpicmpcaaGreatDoor.Pure
theorem eqB_eq {a b:ByteArray} (h:eqB a b=true):a=b:=by
 unfold eqB at h
 have:a.toList=b.toList:=by simpa using h
 rw[ByteArray.toList_eq,ByteArray.toList_eq] at this
 exact Go.WideShapes.bytes_inj this
def litOk (s:ByteArray):Bool:=!digB (bt s 0)&&(!(decide (bt s 0=45)) || !digB (bt s 1))
theorem lits_ok:lits.all litOk=true:=by decide +kernel
theorem num_bounds {l:List UInt8} {v:Int} (h:numL l=some v):-1000000000≤v∧v≤1000000000:=by
 cases l with
 | nil=>simp[numL] at h
 | cons c r=>
  simp only[numL] at h
  split at h
  ·split at h
   ·cases h
   ·rename_i hn
    injection h with h
    have h1:¬1000000000<digs 0 r:=fun e=>hn (Or.inr e)
    omega
  ·split at h
   ·cases h
   ·rename_i hn
    injection h with h
    have h1:¬1000000000<digs 0 (c::r):=fun e=>hn (Or.inr e)
    omega
theorem one_valid {s:ByteArray} {k e:Nat} {t:Tok} (h:one s k=some (e,t)) (hk:k<s.size):VT t:=by
 unfold one at h
 split at h
 ·split at h
  ·cases h
  ·injection h with h;injection h with _ h;subst h
   exact⟨fun e=>(by cases e),fun e=>(by cases e),fun e=>(by cases e)⟩
 ·split at h
  ·rename_i hd
   split at h
   ·cases h
   ·rename_i v hv
    injection h with h;injection h with h1 h;subst h
    have hb:=num_bounds hv
    refine⟨fun _=>hb.1,fun _=>hb.2,fun _ l hl=>?_⟩
    simp only
    have ok:=List.all_eq_true.1 lits_ok l hl
    unfold litOk at ok
    simp only[Bool.and_eq_true,Bool.or_eq_true,Bool.not_eq_true',decide_eq_false_iff_not] at ok
    have hsp:=span_le (p:=digB) (s:=s) (k:=k+1) hk
    cases he:eqB (s.extract k (span digB s (k+1))) l with
    | false=>rfl
    | true=>
     exfalso
     have e1:=eqB_eq he
     have b0:bt l 0=bt s k:=by rw[←e1,bt_extract s k _ 0 hsp.2 (by omega)];rfl
     rw[b0] at ok
     simp only[Bool.or_eq_true,Bool.and_eq_true,decide_eq_true_eq] at hd
     rcases hd with hd|⟨hd,hd2⟩
     ·rw[hd] at ok;exact absurd ok.1 (by simp)
     ·have hk1:k+1<s.size:=bt_lt (by have:=of_digB hd2;omega)
      have hgo:=span_go (p:=digB) hk1 hd2
      have hsp2:=span_le (p:=digB) (s:=s) (k:=k+1+1) hk1
      have b1:bt l 1=bt s (k+1):=by rw[←e1,bt_extract s k _ 1 hsp.2 (by omega)]
      rw[b1,hd2] at ok
      rcases ok.2 with o|o
      ·exact o hd
      ·cases o
  ·split at h
   ·cases h
   ·injection h with h;injection h with _ h;subst h
    exact⟨fun e=>(by cases e),fun e=>(by cases e),fun e=>(by cases e)⟩
theorem run_valid (s:ByteArray):∀n k ts,s.size - k≤n→run s k=some ts→∀t∈ts,VT t:=by
 intro n
 induction n with
 | zero=>
  intro k ts h0 h
  rw[run_end (by omega)] at h
  injection h with h;subst h
  intro t ht;cases ht
 | succ n ih=>
  intro k ts h0 h
  by_cases hk:k<s.size
  ·by_cases hb:bt s k=32
   ·rw[run_blank hk hb] at h
    exact ih (k+1) ts (by omega) h
   ·cases ho:one s k with
    | none=>rw[run_bad hk hb ho] at h;cases h
    | some x=>
     obtain⟨e,t⟩:=x
     rw[run_tok hk hb ho] at h
     have hn:=one_next ho hk
     cases hr:run s e with
     | none=>rw[hr] at h;cases h
     | some us=>
      rw[hr] at h
      simp only[Option.map_some] at h
      injection h with h;subst h
      intro u hu
      rcases List.mem_cons.1 hu with rfl|hu
      ·exact one_valid ho hk
      ·exact ih e us (by omega) hr u hu
  ·rw[run_end hk] at h
   injection h with h;subst h
   intro t ht;cases ht
end Go.Proofs.YtobgbmfpicmpcaaGreatDoor.Pure

/- The two ways to write a query, the program's and the reference's, as plain functions: the words that the program joins, the text that the reference makes. No program in this text. -/
namespace Go.Proofs.YtobgbmfpicmpcaaGreatDoor
def bl (s:ByteArray):List UInt8:=s.data.toList
def decB (n:Int):ByteArray:=⟨(Lib.itoa n).toArray⟩
def gather {α β:Type} (f:Bool→α→List β):Bool→List α→List β
 | _,[]=>[]
 | b,x::r=>f b x++gather f false r
theorem gather_snoc {α β:Type} (f:Bool→α→List β) (x:α):∀(l:List α) (b:Bool),gather f b (l++[x])=gather f b l++f (b&&l.isEmpty) x
 | [],b=>by simp[gather]
 | y::r,b=>by simp[gather,gather_snoc f x r false]
def termW (t:PTerm):List ByteArray:=if t.name.toList.isEmpty then [decB t.val] else [t.name,mDot,t.key]
def stepW (s:PSpot):List ByteArray:=[mTo,s.type]++((if s.least=1∧s.most=1 then [] else [mStar,decB s.least,mDots,decB s.most])++[mArrow])
def nodeW (s:PSpot):List ByteArray:=[mOpen,s.name]++((if s.label.toList.isEmpty then [] else [mColon,s.label])++[mClose])
def spotW (first:Bool) (s:PSpot):List ByteArray:=(if s.type.toList.isEmpty then (if first then [] else [mComma]) else stepW s)++nodeW s
def markW (op:Int):ByteArray:=if op=1 then mEq else if op=2 then mNe else if op=3 then mLt else if op=4 then mLe else if op=5 then mGt else if op=6 then mGe else e0
def opW (c:PCond):List ByteArray:=if c.op=7 then [kIS,kNULL] else if c.op=8 then [kIS,kNOT,kNULL] else markW c.op::termW c.b
def condW (first:Bool) (c:PCond):List ByteArray:=(if first then kWHERE else kAND)::(termW c.a++opW c)
def matchW (q:PQuery):List ByteArray:=kMATCH::(gather spotW true q.spots++gather condW true q.conds)
def oneW (x:PItem):List ByteArray:=if x.name.toList.isEmpty then [kCOUNT] else if x.key.toList.isEmpty then [x.name] else [x.name,mDot,x.key]
def itemW (first:Bool) (x:PItem):List ByteArray:=(if first then [] else [mComma])++oneW x
def orderW (q:PQuery):List ByteArray:=if q.order=0 then [] else [kORDER,kBY,decB q.order]++(if q.down then [kDESC] else [])
def skipW (q:PQuery):List ByteArray:=if q.skip=0 then [] else [kSKIP,decB q.skip]
def limitW (q:PQuery):List ByteArray:=if q.limit=-1 then [] else [kLIMIT,decB q.limit]
def partW (q:PQuery):List ByteArray:=orderW q++(skipW q++limitW q)
def readW (q:PQuery):List ByteArray:=kRETURN::(gather itemW true q.items++partW q)
def pairW (first:Bool) (p:PPair):List ByteArray:=(if first then [] else [mComma])++[p.key,mColon,decB p.val]
def makeW (q:PQuery):List ByteArray:=[kCREATE,mOpen,q.label]++((if q.pairs.isEmpty then [] else mBrace::(gather pairW true q.pairs++[mUnbrace]))++[mClose])
def actW (q:PQuery):List ByteArray:=
 if q.kind=1 then readW q else if q.kind=2 then [kSET,q.name,mDot,q.key,mEq]++termW q.value else if q.kind=3 then [kDELETE,q.name]
 else if q.kind=4 then [kCREATE,mOpen,q.name,mClose,mTo,q.type,mArrow,mOpen,q.to,mClose] else []
def queryW (q:PQuery):List ByteArray:=if q.kind=6 then [kCALL,q.name] else if q.kind=5 then makeW q else matchW q++actW q
def joined (ws:List ByteArray):List UInt8:=Lib.join (ws.map bl) [32]
def termT (t:PTerm):List UInt8:=if t.name.toList.isEmpty then Lib.itoa t.val else bl t.name++[32,46,32]++bl t.key
def stepT (s:PSpot):List UInt8:=
 if s.least=1∧s.most=1 then [32,45,91,32]++bl s.type++[32,93,45,62]
 else [32,45,91,32]++bl s.type++[32,42,32]++Lib.itoa s.least++[32,46,46,32]++Lib.itoa s.most++[32,93,45,62]
def nodeT (s:PSpot):List UInt8:=[32,40,32]++bl s.name++(if s.label.toList.isEmpty then [] else [32,58,32]++bl s.label)++[32,41]
def spotT (first:Bool) (s:PSpot):List UInt8:=(if s.type.toList.isEmpty then (if first then [] else [32,44]) else stepT s)++nodeT s
def opT (c:PCond):List UInt8:=
 if c.op=7 then [32,73,83,32,78,85,76,76] else if c.op=8 then [32,73,83,32,78,79,84,32,78,85,76,76]
 else if 1≤c.op∧c.op≤6 then [32]++bl (markW c.op)++[32]++termT c.b else []
def condT (first:Bool) (c:PCond):List UInt8:=(if first then [32,87,72,69,82,69,32] else [32,65,78,68,32])++termT c.a++opT c
def matchT (q:PQuery):List UInt8:=bl kMATCH++gather spotT true q.spots++gather condT true q.conds
def oneT (x:PItem):List UInt8:=if x.name.toList.isEmpty then bl kCOUNT else if x.key.toList.isEmpty then bl x.name else bl x.name++[32,46,32]++bl x.key
def itemT (first:Bool) (x:PItem):List UInt8:=(if first then [] else [32,44,32])++oneT x
def orderT (q:PQuery):List UInt8:=if q.order=0 then [] else [32,79,82,68,69,82,32,66,89,32]++Lib.itoa q.order++(if q.down then [32,68,69,83,67] else [])
def skipT (q:PQuery):List UInt8:=if q.skip=0 then [] else [32,83,75,73,80,32]++Lib.itoa q.skip
def limitT (q:PQuery):List UInt8:=if q.limit=-1 then [] else [32,76,73,77,73,84,32]++Lib.itoa q.limit
def pairT (first:Bool) (p:PPair):List UInt8:=(if first then [32,123,32] else [32,44,32])++bl p.key++[32,58,32]++Lib.itoa p.val
def queryT (q:PQuery):List UInt8:=
 if q.kind=2 then matchT q++[32,83,69,84,32]++bl q.name++[32,46,32]++bl q.key++[32,61,32]++termT q.value
 else if q.kind=3 then matchT q++[32,68,69,76,69,84,69,32]++bl q.name
 else if q.kind=4 then matchT q++[32,67,82,69,65,84,69,32,40,32]++bl q.name++[32,41,32,45,91,32]++bl q.type++[32,93,45,62,32,40,32]++bl q.to++[32,41]
 else if q.kind=5 then [67,82,69,65,84,69,32,40,32]++bl q.label++gather pairT true q.pairs++(if q.pairs.isEmpty then [] else [32,125])++[32,41]
 else if q.kind=6 then [67,65,76,76,32]++bl q.name
 else matchT q++[32,82,69,84,85,82,78,32]++gather itemT true q.items++orderT q++skipT q++limitT q
structure Writable (q:PQuery):Prop where
 kin:q.kind=1∨q.kind=2∨q.kind=3∨q.kind=4∨q.kind=5∨q.kind=6
 ops:∀c∈q.conds,1≤c.op∧c.op≤8
 its:q.kind=1→q.items≠[]
end Go.Proofs.YtobgbmfpicmpcaaGreatDoor
namespace Go.Proofs.YtobgbmfpicmpcaaGreatDoor.Pure
def spaced (ws:List ByteArray):List UInt8:=Lib.joinTail [32] (ws.map bl)
theorem spaced_nil:spaced []=[]:=rfl
theorem spaced_cons (a:ByteArray) (r:List ByteArray):spaced (a::r)=32::(bl a++spaced r):=by simp[spaced,Lib.joinTail]
theorem spaced_append (a b:List ByteArray):spaced (a++b)=spaced a++spaced b:=by simp[spaced,Lib.joinTail]
theorem joined_cons (a:ByteArray) (r:List ByteArray):joined (a::r)=bl a++spaced r:=by unfold joined spaced;rw[List.map_cons,Lib.join_cons]
theorem bl_dec (n:Int):bl (decB n)=Lib.itoa n:=by simp[bl,decB]
theorem term_sp (t:PTerm):spaced (termW t)=32::termT t:=by
 unfold termW termT
 split
 ·simp[spaced_cons,spaced_nil,bl_dec]
 ·simp[spaced_cons,spaced_nil,mDot,bl]
theorem step_sp (s:PSpot):spaced (stepW s)=stepT s:=by
 unfold stepW stepT
 split<;>simp[spaced_cons,spaced_nil,bl_dec,mTo,mStar,mDots,mArrow]<;>simp[bl]
theorem node_sp (s:PSpot):spaced (nodeW s)=nodeT s:=by
 unfold nodeW nodeT
 split<;>simp[spaced_cons,spaced_nil,mOpen,mColon,mClose]<;>simp[bl]
theorem spot_sp (b:Bool) (s:PSpot):spaced (spotW b s)=spotT b s:=by
 unfold spotW spotT
 rw[spaced_append,node_sp]
 split
 ·cases b<;>simp[spaced_cons,spaced_nil,mComma,bl]
 ·rw[step_sp]
theorem op_sp (c:PCond) (h:1≤c.op∧c.op≤8):spaced (opW c)=opT c:=by
 unfold opW opT
 split
 ·simp[spaced_cons,spaced_nil,kIS,kNULL,bl]
 ·split
  ·simp[spaced_cons,spaced_nil,kIS,kNOT,kNULL,bl]
  ·rw[if_pos (by omega),spaced_cons,term_sp];simp
theorem cond_sp (b:Bool) (c:PCond) (h:1≤c.op∧c.op≤8):spaced (condW b c)=condT b c:=by
 unfold condW condT
 rw[spaced_cons,spaced_append,term_sp,op_sp c h]
 cases b<;>simp[kWHERE,kAND,bl]
theorem gather_sp {α:Type} (f:Bool→α→List ByteArray) (g:Bool→α→List UInt8):∀(l:List α) (b:Bool),(∀b,∀x∈l,spaced (f b x)=g b x)→spaced (gather f b l)=gather g b l
 | [],b,_=>rfl
 | x::r,b,h=>by
  unfold gather
  rw[spaced_append,h b x (by simp),gather_sp f g r false (fun b y hy=>h b y (by simp[hy]))]
theorem match_sp (q:PQuery) (h:∀c∈q.conds,1≤c.op∧c.op≤8) (r:List ByteArray):joined (matchW q++r)=matchT q++spaced r:=by
 unfold matchW matchT
 rw[List.cons_append,joined_cons,spaced_append,spaced_append,gather_sp spotW spotT _ _ (fun b x _=>spot_sp b x),gather_sp condW condT _ _ (fun b x hx=>cond_sp b x (h x hx))]
 simp
theorem one_sp (x:PItem):spaced (oneW x)=32::oneT x:=by
 unfold oneW oneT
 split
 ·simp[spaced_cons,spaced_nil]
 ·split<;>simp[spaced_cons,spaced_nil,mDot]<;>simp[bl]
theorem item_sp (b:Bool) (x:PItem):spaced (itemW b x)=(if b then [32] else [])++itemT b x:=by
 unfold itemW itemT
 rw[spaced_append,one_sp]
 cases b<;>simp[spaced_cons,spaced_nil,mComma,bl]
theorem items_sp:∀(l:List PItem) (b:Bool),l≠[]→spaced (gather itemW b l)=(if b then [32] else [])++gather itemT b l
 | [],_,h=>absurd rfl h
 | [x],b,_=>by simp[gather,item_sp]
 | x::y::r,b,_=>by
  rw[gather,spaced_append,item_sp,items_sp (y::r) false (by simp)]
  simp[gather]
theorem order_sp (q:PQuery):spaced (orderW q)=orderT q:=by
 unfold orderW orderT
 split
 ·rfl
 ·cases hd:q.down
  ·simp[spaced_cons,spaced_nil,kORDER,kBY,bl_dec];simp[bl]
  ·simp[spaced_cons,spaced_nil,kORDER,kBY,kDESC,bl_dec];simp[bl]
theorem skip_sp (q:PQuery):spaced (skipW q)=skipT q:=by
 unfold skipW skipT
 split
 ·rfl
 ·simp[spaced_cons,spaced_nil,kSKIP,bl_dec];simp[bl]
theorem limit_sp (q:PQuery):spaced (limitW q)=limitT q:=by
 unfold limitW limitT
 split
 ·rfl
 ·simp[spaced_cons,spaced_nil,kLIMIT,bl_dec];simp[bl]
theorem part_sp (q:PQuery):spaced (partW q)=orderT q++skipT q++limitT q:=by
 unfold partW
 rw[spaced_append,spaced_append,order_sp,skip_sp,limit_sp,List.append_assoc]
theorem pair_sp (b:Bool) (p:PPair):(if b then [32,123] else [])++spaced (pairW b p)=pairT b p:=by
 unfold pairW pairT
 cases b<;>simp[spaced_cons,spaced_nil,mComma,mColon,bl_dec]<;>simp[bl]
theorem pairs_sp:∀(l:List PPair) (b:Bool),l≠[]→(if b then [32,123] else [])++spaced (gather pairW b l)=gather pairT b l
 | [],_,h=>absurd rfl h
 | [x],b,_=>by simp only[gather,List.append_nil];exact pair_sp b x
 | x::y::r,b,_=>by
  have:=pairs_sp (y::r) false (by simp)
  simp only[Bool.false_eq_true,if_false,List.nil_append] at this
  rw[gather,spaced_append,this,←List.append_assoc,pair_sp]
  rfl
theorem make_sp (q:PQuery):joined (makeW q)=[67,82,69,65,84,69,32,40,32]++bl q.label++gather pairT true q.pairs++(if q.pairs.isEmpty then [] else [32,125])++[32,41]:=by
 unfold makeW
 rw[List.cons_append,joined_cons]
 cases hp:q.pairs with
 | nil=>simp[spaced_cons,spaced_nil,gather,kCREATE,mOpen,mClose]<;>simp[bl]
 | cons x r=>
  have h:=pairs_sp (x::r) true (by simp)
  simp only[if_true] at h
  rw[←h]
  simp[spaced_cons,spaced_append,spaced_nil,kCREATE,mOpen,mClose,mBrace,mUnbrace]<;>simp[bl]
theorem read_sp (q:PQuery) (h:q.items≠[]):spaced (readW q)=[32,82,69,84,85,82,78,32]++gather itemT true q.items++orderT q++skipT q++limitT q:=by
 unfold readW
 rw[spaced_cons,spaced_append,items_sp _ _ h,part_sp]
 simp[kRETURN,bl]
theorem text_eq {q:PQuery} (h:Writable q):joined (queryW q)=queryT q:=by
 unfold queryW queryT
 by_cases h6:q.kind=6
 ·simp[h6,joined_cons,spaced_cons,spaced_nil,kCALL,bl]
 ·by_cases h5:q.kind=5
  ·rw[if_neg h6,if_pos h5,if_neg (by omega),if_neg (by omega),if_neg (by omega),if_pos h5]
   exact make_sp q
  ·rw[if_neg h6,if_neg h5,match_sp q h.ops,if_neg h5,if_neg h6]
   unfold actW
   by_cases h1:q.kind=1
   ·rw[if_pos h1,if_neg (by omega),if_neg (by omega),if_neg (by omega),read_sp q (h.its h1)]
    simp
   ·by_cases h2:q.kind=2
    ·rw[if_neg h1,if_pos h2,if_pos h2,spaced_append,term_sp]
     simp[spaced_cons,spaced_nil,kSET,mDot,mEq]<;>simp[bl]
    ·by_cases h3:q.kind=3
     ·rw[if_neg h1,if_neg h2,if_pos h3,if_neg h2,if_pos h3]
      simp[spaced_cons,spaced_nil,kDELETE]<;>simp[bl]
     ·have h4:q.kind=4:=by have:=h.kin;omega
      rw[if_neg h1,if_neg h2,if_neg h3,if_pos h4,if_neg h2,if_neg h3,if_pos h4]
      simp[spaced_cons,spaced_nil,kCREATE,mOpen,mClose,mTo,mArrow]<;>simp[bl]
end Go.Proofs.YtobgbmfpicmpcaaGreatDoor.Pure

