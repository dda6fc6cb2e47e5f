/- The two readers of queries, as plain functions: where neither fails they do the same, and where one fails the other does: tokens, spots, terms, conditions, items. No program in this text. -/
import Derived.Test.YtobgbmfpicmpcaaGreatDoorC03
set_option maxRecDepth 100000
set_option maxHeartbeats 8000000
namespace Go.Proofs.YtobgbmfpicmpcaaGreatDoor
namespace Pure
def lits:List ByteArray:=ah++[bE,bA,bX,aK,eX,kw,dU,jG,da,cP,gG,tT,D7,D9,D2,D4,D3]
structure VT (t:Tok):Prop where
 lo:t.kind=2→-1000000000≤t.val
 hi:t.kind=2→t.val≤1000000000
 no:t.kind=2→∀s∈lits,ik t.text s=false
structure Ok (st:RS):Prop where
 nT:st.bad=false
 all:∀t∈st.rest,VT t
def Li (p r:RS):Prop:=(p.bad=true∧r.bad=true)∨(p=r∧Ok p)
def Ag {α:Type} (p r:α × RS):Prop:=(p.2.bad=true∧r.2.bad=true)∨(p=r∧Ok p.2)
variable {st:RS}
theorem cV (h:Ok st) {s:ByteArray} (hs:s∈lits):aE s st=bD s st:=by
 unfold aE bD
 cases hr:st.rest with
 | nil=>rfl
 | cons t r=>
  have hv:=h.all t (by rw[hr];simp)
  by_cases hk:t.kind=2
  ·simp only[hv.no hk s hs];simp
  ·simp[hk]
theorem bU (h:Ok st) {s:ByteArray} (hs:s∈lits):ag s st=dl s st:=by
 unfold ag dl;rw[cV h hs]
theorem Ok.tail (h:Ok st):Ok ⟨st.rest.tail,st.bad⟩:=⟨h.nT,fun t ht=>h.all t (List.mem_of_mem_tail ht)⟩
theorem Ok.has (h:Ok st) (s:ByteArray):Ok (dl s st):=by unfold dl;split;exact h.tail;exact h
theorem cE (h:Ok st) {s:ByteArray} (hs:s∈lits):Li (aD s st) (dd s st):=by
 unfold aD dd
 rw[cV h hs,bU h hs]
 cases bD s st with
 | true=>exact Or.inr ⟨by simp[dj],by simpa using h.has s⟩
 | false=>exact Or.inl ⟨rfl,mr _⟩
theorem Db {t:Tok}:eL t=1↔t.kind=1∧bN t.text=true:=by
 unfold eL kQ
 constructor
 ·intro h;repeat' split at h
  all_goals first|omega|exact⟨by assumption,by assumption⟩
 ·rintro ⟨h1,h2⟩;simp[h1,h2]
theorem zU {s:ByteArray} (h:cD s=true):bN s=false:=by
 unfold cD bN at*
 simp only[Bool.and_eq_true,decide_eq_true_eq] at h
 have:¬(97≤bt s 0):=by omega
 simp[this]
theorem Dg {t:Tok}:eL t=2↔t.kind=1∧cD t.text=true:=by
 unfold eL kQ
 constructor
 ·intro h;repeat' split at h
  all_goals first|omega|exact⟨by assumption,by assumption⟩
 ·rintro ⟨h1,h2⟩;simp[h1,h2,zU h2]
theorem rS {t:Tok}:eL t=4↔t.kind=2:=by
 unfold eL kQ
 constructor
 ·intro h;repeat' split at h
  all_goals first|omega|assumption
 ·intro h1;simp[h1]
theorem jz (h:Ok st):Ag (du st) (eu st):=by
 unfold du eu dV iI gC isKind
 cases hr:st.rest with
 | nil=>exact Or.inl ⟨rfl,by simp[RS.dx]⟩
 | cons t r=>
  simp only[Db,decide_eq_true_eq]
  by_cases hk:t.kind=1
  ·by_cases hn:bN t.text=true
   ·refine Or.inr ⟨by simp[hk,hn,dj],?_⟩
    have:=h.tail
    rw[hr] at this
    simpa [hk,hn] using this
   ·exact Or.inl ⟨by simp[hk,hn,dv],by simp[hk,hn,RS.dx]⟩
  ·exact Or.inl ⟨by simp[hk,dv],by simp[hk,RS.dx]⟩
theorem pI (h:Ok st):Ag (cN st) (iL st):=by
 unfold cN iL dV iI gC isKind
 cases hr:st.rest with
 | nil=>exact Or.inl ⟨rfl,by simp[RS.dx]⟩
 | cons t r=>
  simp only[Dg,decide_eq_true_eq]
  by_cases hk:t.kind=1
  ·by_cases hn:cD t.text=true
   ·refine Or.inr ⟨by simp[hk,hn,dj],?_⟩
    have:=h.tail
    rw[hr] at this
    simpa [hk,hn] using this
   ·exact Or.inl ⟨by simp[hk,hn,dv],by simp[hk,hn,RS.dx]⟩
  ·exact Or.inl ⟨by simp[hk,dv],by simp[hk,RS.dx]⟩
theorem lF (h:Ok st) (lo hi:Int):Ag (bL lo hi st) (iC lo hi st):=by
 unfold bL iC dV iI gC isKind
 cases hr:st.rest with
 | nil=>
  exact Or.inl ⟨by simp[dv],by simp[RS.dx]⟩
 | cons t r=>
  simp only[rS,decide_eq_true_eq]
  by_cases hk:t.kind=2
  ·by_cases hn:t.val<lo∨hi<t.val
   ·refine Or.inl ⟨by simp[hk,hn,dv],?_⟩
    rcases hn with hn|hn<;>simp[hk,hn,RS.dx]
   ·have h1:¬t.val<lo:=fun e=>hn (Or.inl e)
    have h2:¬hi<t.val:=fun e=>hn (Or.inr e)
    refine Or.inr ⟨by simp[hk,h1,h2,dj],?_⟩
    have:=h.tail
    rw[hr] at this
    simpa [hk,h1,h2] using this
  ·refine Or.inl ⟨?_,by simp[hk,RS.dx]⟩
   simp only[hk,if_false];split<;>rfl
theorem vV (h:Ok st) (x:aN):Ag (cg x st) (kK x st):=by
 unfold cg kK
 try simp only
 rcases cE h (s:=bE) (by simp[lits,ah]) with ⟨a,b⟩|⟨e,h1⟩
 ·exact Or.inl ⟨by simp only;refine aj ?_;split;exact dX (aO (bC a));exact bC a,by simp only;refine aG ?_;split;exact fk (dZ (db b));exact db b⟩
 ·rw[←e]
  rcases jz h1 with ⟨a,b⟩|⟨e2,h2⟩
  ·exact Or.inl ⟨by simp only;refine aj ?_;split;exact dX (aO a);exact a,by simp only;refine aG ?_;split;exact fk (dZ b);exact b⟩
  ·rw[←e2]
   simp only[cV h2 (s:=bX) (by simp[lits,ah]),bU h2 (s:=bX) (by simp[lits,ah])]
   cases bD bX (du (aD bE st)).2 with
   | false=>
    simp only[Bool.false_eq_true,if_false]
    rcases cE h2 (s:=bA) (by simp[lits,ah]) with ⟨a,b⟩|⟨e3,h3⟩
    ·exact Or.inl ⟨a,b⟩
    ·exact Or.inr ⟨by simp[e3],h3⟩
   | true=>
    simp only[if_true]
    rcases pI (h2.has bX) with ⟨a,b⟩|⟨e3,h3⟩
    ·exact Or.inl ⟨aj a,aG b⟩
    ·rw[←e3]
     rcases cE h3 (s:=bA) (by simp[lits,ah]) with ⟨a,b⟩|⟨e4,h4⟩
     ·exact Or.inl ⟨a,b⟩
     ·exact Or.inr ⟨by rw[e4],h4⟩
theorem IR (h:Ok st):Ag (jR st) (qQ st):=by
 unfold jR qQ
 try simp only
 rw[cV h (s:=dU) (by simp[lits,ah]),bU h (s:=dU) (by simp[lits,ah])]
 cases bD dU st with
 | false=>exact Or.inr ⟨rfl,h⟩
 | true=>
  simp only[if_true]
  rcases lF (h.has dU) 0 4 with ⟨a,b⟩|⟨e,h1⟩
  ·exact Or.inl ⟨dw (aj a),fO (aG b)⟩
  ·rw[←e]
   rcases cE h1 (s:=kw) (by simp[lits,ah]) with ⟨a,b⟩|⟨e2,h2⟩
   ·exact Or.inl ⟨dw a,fO b⟩
   ·rw[←e2]
    rcases lF h2 (bL 0 4 (dl dU st)).1 4 with ⟨a,b⟩|⟨e3,h3⟩
    ·exact Or.inl ⟨a,b⟩
    ·exact Or.inr ⟨by rw[e3],h3⟩
theorem JJ (h:Ok st):Ag (ov st) (nQ st):=by
 unfold ov gv nQ
 try simp only
 rcases pI h with ⟨a,b⟩|⟨e,h1⟩
 ·exact Or.inl ⟨jx (aj (pW a)),ou (aG (vf b))⟩
 ·rw[←e]
  rcases IR h1 with ⟨a,b⟩|⟨e2,h2⟩
  ·exact Or.inl ⟨jx (aj a),ou (aG b)⟩
  ·rw[←e2]
   rcases cE h2 (s:=da) (by simp[lits,ah]) with ⟨a,b⟩|⟨e3,h3⟩
   ·exact Or.inl ⟨jx a,ou b⟩
   ·rw[←e3]
    exact vV h3 _
theorem B0 (h:Ok st):Ag (iE st) (((eu st).1,(eu (dd eX (eu st).2)).1),(eu (dd eX (eu st).2)).2):=by
 unfold iE
 try simp only
 rcases jz h with ⟨a,b⟩|⟨e,h1⟩
 ·exact Or.inl ⟨bC (aj a),db (aG b)⟩
 ·rw[←e]
  rcases cE h1 (s:=eX) (by simp[lits,ah]) with ⟨a,b⟩|⟨e2,h2⟩
  ·exact Or.inl ⟨bC a,db b⟩
  ·rw[←e2]
   rcases jz h2 with ⟨a,b⟩|⟨e3,h3⟩
   ·exact Or.inl ⟨a,b⟩
   ·exact Or.inr ⟨by rw[e3],h3⟩
theorem wZ (h:Ok st):Ag (dM st) (rM st):=by
 unfold dM rM
 try simp only
 have hs:gC 4 st=isKind 2 st:=by
  unfold gC isKind
  cases st.rest with
  | nil=>rfl
  | cons t r=>simp[rS]
 rw[hs]
 cases hk:isKind 2 st with
 | false=>
  simp only[Bool.false_eq_true,if_false]
  rcases B0 h with ⟨a,b⟩|⟨e,h1⟩
  ·exact Or.inl ⟨a,b⟩
  ·refine Or.inr ⟨?_,h1⟩
   rw[e]
 | true=>
  simp only[if_true]
  refine Or.inr ?_
  unfold bL dV iI
  rw[hs,hk]
  unfold isKind at hk
  cases hr:st.rest with
  | nil=>rw[hr] at hk;cases hk
  | cons t r=>
   rw[hr] at hk
   simp only[decide_eq_true_eq] at hk
   have hv:=h.all t (by rw[hr];simp)
   have h1:¬t.val < -1000000000:=by have:=hv.lo hk;omega
   have h2:¬1000000000<t.val:=by have:=hv.hi hk;omega
   have:=h.tail
   rw[hr] at this
   simp only[if_true,List.headD_cons,List.tail_cons,h1,h2,or_self,if_false]
   exact⟨trivial,this⟩
theorem Ku (l:List ByteArray):∀(i:Int) (_:Ok st) (_:∀s∈l,s∈lits) (_:0<i),Ag (dt l i st) ((jP l i st).1,(jP l i st).2.dx (decide ((jP l i st).1=0))):=by
 induction l with
 | nil=>intro i h _ _;exact Or.inl ⟨rfl,by simp[jP,RS.dx]⟩
 | cons m r ih=>
  intro i h hl hi
  simp only[dt,jP]
  rw[cV h (hl m (by simp)),bU h (hl m (by simp))]
  by_cases hp:bD m st=true
  ·have:¬i=0:=by omega
   simp only[hp,if_true]
   exact Or.inr ⟨by simp[this,dj],h.has m⟩
  ·simp only[hp]
   exact ih (i+1) h (fun s hs=>hl s (by simp[hs])) (by omega)
theorem II (h:Ok st):Ag (fR st) (BX st):=by
 unfold fR BX
 try simp only
 rcases wZ h with ⟨a,b⟩|⟨e,h1⟩
 ·refine Or.inl ⟨?_,?_⟩
  ·split;exact aj (aO (aO a));exact fZ (nI a)
  ·split;exact aG (dZ (dZ b));exact nY (fI (Al b))
 ·rw[←e]
  simp only[cV h1 (s:=ng) (by simp[lits,ah]),bU h1 (s:=ng) (by simp[lits,ah])]
  cases bD ng (dM st).2 with
  | true=>
   have h2:=h1.has ng
   simp only[if_true,cV h2 (s:=jo) (by simp[lits,ah]),bU h2 (s:=jo) (by simp[lits,ah])]
   rcases cE (h2.has jo) (s:=il) (by simp[lits,ah]) with ⟨a,b⟩|⟨e3,h3⟩
   ·exact Or.inl ⟨a,b⟩
   ·exact Or.inr ⟨by rw[e3],h3⟩
  | false=>
   simp only[Bool.false_eq_true,if_false]
   rcases Ku mY 1 h1 (by simp[mY,lits]) (by decide) with ⟨a,b⟩|⟨e2,h2⟩
   ·exact Or.inl ⟨fZ a,nY b⟩
   ·have e3:(jP mY 1 (dM st).2).2.dx (decide ((jP mY 1 (dM st).2).1=0))=(dt mY 1 (dM st).2).2:=by rw[e2]
    have e4:(jP mY 1 (dM st).2).1=(dt mY 1 (dM st).2).1:=by rw[e2]
    rw[e3,e4]
    rcases wZ h2 with ⟨a,b⟩|⟨e5,h5⟩
    ·exact Or.inl ⟨a,b⟩
    ·exact Or.inr ⟨by rw[e5],h5⟩
theorem I3 (h:Ok st):Ag (fS st) (sV st):=by
 unfold fS sV
 try simp only
 rw[cV h (s:=ga) (by simp[lits,ah]),bU h (s:=ga) (by simp[lits,ah])]
 cases bD ga st with
 | true=>exact Or.inr ⟨rfl,h.has ga⟩
 | false=>
  simp only[Bool.false_eq_true,if_false]
  rcases jz h with ⟨a,b⟩|⟨e,h1⟩
  ·refine Or.inl ⟨?_,?_⟩
   ·split;exact bC (aO a);exact a
   ·split;exact db (dZ b);exact b
  ·rw[←e]
   rw[cV h1 (s:=eX) (by simp[lits,ah]),bU h1 (s:=eX) (by simp[lits,ah]),h1.nT]
   cases bD eX (du st).2 with
   | false=>exact Or.inr ⟨rfl,h1⟩
   | true=>
    simp only[Bool.not_false,Bool.and_self,if_true]
    rcases jz (h1.has eX) with ⟨a,b⟩|⟨e2,h2⟩
    ·exact Or.inl ⟨a,b⟩
    ·exact Or.inr ⟨by rw[e2],h2⟩
end Pure
namespace Pure
variable {st:RS}
def fX {α:Type} (one:RS→α × RS) (sep:ByteArray):Nat→List α→RS→List α × RS
 | 0,out,st=>(out,st)
 | n+1,out,st=>if !(one st).2.bad&&bD sep (one st).2 then fX one sep n (out++[(one st).1]) (dl sep (one st).2) else (out++[(one st).1],(one st).2)
theorem ym (n:Nat):∀(out:List bP) (st:RS),pF n out st=fX BX pP n out st:=by
 induction n with
 | zero=>intro out st;rfl
 | succ n ih=>intro out st;simp only[pF,fX,ih]
theorem xV (n:Nat):∀(out:List bi) (st:RS),st.bad=false→pH n out st=fX sV aK n out st:=by
 induction n with
 | zero=>intro out st _;rfl
 | succ n ih=>
  intro out st h
  simp only[pH,fX,h]
  by_cases hb:(sV st).2.bad=true
  ·simp[hb]
  ·have hb2:(sV st).2.bad=false:=by simpa using hb
   rw[ih _ _ (by rw[rO];exact hb2)]
   simp
theorem oZ {s:ByteArray} (h:bD s st=true):0<st.rest.length:=by
 unfold bD at h
 split at h
 ·cases h
 ·rename_i e;rw[e];simp
theorem IV {α:Type} {oneP oneR:RS→α × RS} {sep:ByteArray} (hs:sep∈lits) (ho:∀{st:RS},Ok st→Ag (oneP st) (oneR st)) (hb:∀{st:RS},st.bad=true→(oneP st).2.bad=true) (hl:∀{st:RS},Ok st→(oneP st).2.rest.length≤st.rest.length) (n:Nat):
  ∀(m:Nat) (out:List α) (st:RS),Ok st→st.rest.length<n→(oneP st).2.rest.length≤m→Ag (bz oneP sep m (out++[(oneP st).1]) (oneP st).2) (fX oneR sep n out st):=by
 induction n with
 | zero=>intro m out st h h1 _;omega
 | succ n ih=>
  intro m out st h h1 h2
  simp only[fX]
  have hl1:=hl h
  rcases ho h with ⟨a,b⟩|⟨e,k⟩
  ·exact Or.inl ⟨jV hb _ a,by simp[b]⟩
  ·rw[←e]
   rw[k.nT]
   by_cases hp:bD sep (oneP st).2=true
   ·have h3:=oZ hp
    have h4:=qI hp
    obtain⟨m,rfl⟩:∃m',m=m'+1:=⟨m - 1,by omega⟩
    simp only[bz,cV k hs,bU k hs,hp,Bool.not_false,Bool.and_self,if_true]
    have hl2:=hl (k.has sep)
    exact ih m _ _ (k.has sep) (by omega) (by omega)
   ·have e2:bz oneP sep m (out++[(oneP st).1]) (oneP st).2=(out++[(oneP st).1],(oneP st).2):=by
     cases m with
     | zero=>rfl
     | succ m=>simp only[bz,cV k hs,hp];rfl
    rw[e2]
    simp only[hp]
    exact Or.inr ⟨rfl,k⟩
theorem xe {α:Type} {oneP oneR:RS→α × RS} {sep:ByteArray} (hs:sep∈lits) (ho:∀{st:RS},Ok st→Ag (oneP st) (oneR st)) (hb:∀{st:RS},st.bad=true→(oneP st).2.bad=true) (hl:∀{st:RS},Ok st→(oneP st).2.rest.length≤st.rest.length) (h:Ok st) {n:Nat} (hn:st.rest.length<n):
  Ag (eO oneP sep 6 st) ((fX oneR sep n [] st).1,(fX oneR sep n [] st).2.dx (decide (6<(fX oneR sep n [] st).1.length))):=by
 have h1:=IV hs ho hb hl n _ [] st h hn (Nat.le_refl _)
 unfold eO
 simp only[List.nil_append] at h1⊢
 rcases h1 with ⟨a,b⟩|⟨e,k⟩
 ·exact Or.inl ⟨by simp only;split;rfl;exact a,fI b⟩
 ·rw[←e]
  by_cases h6:6<(bz oneP sep (oneP st).2.rest.length [(oneP st).1] (oneP st).2).1.length
  ·exact Or.inl ⟨by simp only[h6,if_true];rfl,by simp only[h6,decide_true];exact mr _⟩
  ·refine Or.inr ⟨by simp only[h6,if_false,decide_false,dj],?_⟩
   simp only[h6,if_false]
   exact k
theorem cK (s:ByteArray) (st:RS):(ag s st).rest.length≤st.rest.length:=by
 unfold ag;split
 ·simp[List.length_tail]
 ·exact Nat.le_refl _
theorem ew (s:ByteArray) (st:RS):(aD s st).rest.length≤st.rest.length:=by
 unfold aD;split;exact cK s st;simp[dv]
theorem qD (k:Int) (st:RS):(dV k st).2.rest.length≤st.rest.length:=by
 unfold dV;split
 ·simp[List.length_tail]
 ·simp[dv]
theorem j5 (st:RS):(du st).2.rest.length≤st.rest.length:=qD 1 st
theorem oR (st:RS):(cN st).2.rest.length≤st.rest.length:=qD 2 st
theorem kX (lo hi:Int) (st:RS):(bL lo hi st).2.rest.length≤st.rest.length:=by
 unfold bL;simp only;split;simp[dv];exact qD 4 st
theorem vu (st:RS):(dM st).2.rest.length≤st.rest.length:=by
 unfold dM iE;split
 ·exact kX _ _ _
 ·have h1:=j5 st;have h2:=ew eX (du st).2;have h3:=j5 (aD eX (du st).2);simp only;omega
theorem zf (l:List ByteArray):∀(i:Int) (st:RS),(dt l i st).2.rest.length≤st.rest.length:=by
 induction l with
 | nil=>intro i st;simp[dt,dv]
 | cons m r ih=>intro i st;simp only[dt];split;exact cK m st;exact ih _ _
theorem lE (st:RS):(fR st).2.rest.length≤st.rest.length:=by
 unfold fR;simp only
 have h1:=vu st
 split
 ·have h2:=cK ng (dM st).2;have h3:=cK jo (ag ng (dM st).2);have h4:=ew il (ag jo (ag ng (dM st).2));simp only;omega
 ·have h2:=zf mY 1 (dM st).2;have h3:=vu (dt mY 1 (dM st).2).2;simp only;omega
theorem qA (st:RS):(fS st).2.rest.length≤st.rest.length:=by
 unfold fS;split
 ·exact cK _ _
 ·simp only
  have h1:=j5 st
  split
  ·have h2:=cK eX (du st).2;have h3:=j5 (ag eX (du st).2);simp only;omega
  ·exact h1
theorem nX (st:RS):(fu st).2.rest.length≤st.rest.length:=by
 unfold fu;simp only
 have h1:=j5 st;have h2:=ew bX (du st).2;have h3:=kX (-1000000000) 1000000000 (aD bX (du st).2);omega
theorem iG (x:aN) (st:RS):(cg x st).2.rest.length≤st.rest.length:=by
 unfold cg;simp only
 refine Nat.le_trans (ew _ _) ?_
 have h1:=ew bE st
 have h2:=j5 (aD bE st)
 split
 ·have h3:=oR (ag bX (du (aD bE st)).2);have h4:=cK bX (du (aD bE st)).2;omega
 ·simp only;omega
theorem uW {a b:ByteArray} (h:bD a st=true) (hab:a.toList≠b.toList):bD b st=false:=by
 unfold bD at*
 cases hr:st.rest with
 | nil=>rfl
 | cons t r=>
  rw[hr] at h
  simp only[Bool.and_eq_true] at h
  unfold ik at*
  have h1:t.text.toList=a.toList:=by simpa using h.2
  simp only[h1]
  simp[hab]
theorem FH (k:Nat):∀(st:RS),Ok st→st.rest.length≤k→∀(fp f1 f2:Nat) (out acc:List aN),st.rest.length≤fp→st.rest.length≤f1→st.rest.length≤f2→
  Ag (aT fp (out++acc) st) (if !(dO f1 acc st).2.bad&&bD aK (dO f1 acc st).2 then gP f2 (out++(dO f1 acc st).1) (dl aK (dO f1 acc st).2) else (out++(dO f1 acc st).1,(dO f1 acc st).2)):=by
 induction k with
 | zero=>
  intro st h hk fp f1 f2 out acc _ _ _
  have hr:st.rest=[]:=List.length_eq_zero_iff.1 (by omega)
  have p1:∀s,bD s st=false:=fun s=>by unfold bD;rw[hr]
  have p2:∀s,aE s st=false:=fun s=>by unfold aE;rw[hr]
  have e1:dO f1 acc st=(acc,st):=by cases f1 with|zero=>rfl|succ n=>simp[dO,p1]
  have e2:aT fp (out++acc) st=(out++acc,st):=by cases fp with|zero=>rfl|succ n=>simp[aT,p2]
  rw[e1,e2]
  simp only[p1,Bool.and_false]
  exact Or.inr ⟨rfl,h⟩
 | succ k ih=>
  intro st h hk fp f1 f2 out acc hp h1 h2
  by_cases ht:bD jG st=true
  ·have hc:bD aK st=false:=uW ht (by decide +kernel)
   have h3:=oZ ht
   have h4:=qI ht
   obtain⟨fp,rfl⟩:∃m',fp=m'+1:=⟨fp - 1,by omega⟩
   obtain⟨f1,rfl⟩:∃m',f1=m'+1:=⟨f1 - 1,by omega⟩
   have k1:=h.has jG
   simp only[aT,dO,cV h (s:=aK) (by simp[lits,ah]),cV h (s:=jG) (by simp[lits,ah]),bU h (s:=jG) (by simp[lits,ah]),hc,ht,h.nT,Bool.not_false,Bool.and_self,if_true,Bool.false_eq_true,if_false]
   rcases JJ k1 with ⟨a,b⟩|⟨e,k2⟩
   ·refine Or.inl ⟨fh _ a,?_⟩
    have hb:=mG f1 (out:=acc++[(nQ (dl jG st)).1]) b
    simp[hb]
   ·rw[←e]
    have hl:=vq (dl jG st)
    rw[←e] at hl
    have:=ih (ov (dl jG st)).2 k2 (by omega) fp f1 f2 out (acc++[(ov (dl jG st)).1]) (by omega) (by omega) (by omega)
    rw[←List.append_assoc] at this
    exact this
  ·have e1:dO f1 acc st=(acc,st):=by cases f1 with|zero=>rfl|succ n=>simp[dO,ht]
   rw[e1]
   simp only[h.nT]
   by_cases hc:bD aK st=true
   ·have h3:=oZ hc
    have h4:=qI hc
    obtain⟨fp,rfl⟩:∃m',fp=m'+1:=⟨fp - 1,by omega⟩
    obtain⟨f2,rfl⟩:∃m',f2=m'+1:=⟨f2 - 1,by omega⟩
    have k1:=h.has aK
    simp only[aT,gP,cV h (s:=aK) (by simp[lits,ah]),bU h (s:=aK) (by simp[lits,ah]),hc,k1.nT,Bool.not_false,Bool.and_self,if_true,Bool.false_eq_true,if_false]
    unfold qV
    rcases vV k1 cq with ⟨a,b⟩|⟨e,k2⟩
    ·refine Or.inl ⟨fh _ a,?_⟩
     have hb:=mG (kK cq (dl aK st)).2.rest.length (out:=[(kK cq (dl aK st)).1]) b
     simp[hb]
    ·rw[←e]
     have hl:=iG cq (dl aK st)
     exact ih (cg cq (dl aK st)).2 k2 (by omega) fp (cg cq (dl aK st)).2.rest.length f2 (out++acc) [(cg cq (dl aK st)).1] (by omega) (Nat.le_refl _) (by omega)
   ·have e2:aT fp (out++acc) st=(out++acc,st):=by
     cases fp with
     | zero=>rfl
     | succ n=>simp only[aT,cV h (s:=aK) (by simp[lits,ah]),cV h (s:=jG) (by simp[lits,ah]),hc,ht];rfl
    rw[e2]
    simp only[hc]
    exact Or.inr ⟨rfl,h⟩
theorem Ga (h:Ok st) {n:Nat} (hn:st.rest.length<n):Ag (aT (cg cq st).2.rest.length [(cg cq st).1] (cg cq st).2) (gP n [] st):=by
 obtain⟨n,rfl⟩:∃m',n=m'+1:=⟨n - 1,by omega⟩
 simp only[gP,h.nT]
 unfold qV
 rcases vV h cq with ⟨a,b⟩|⟨e,k2⟩
 ·refine Or.inl ⟨fh _ a,?_⟩
  have hb:=mG (kK cq st).2.rest.length (out:=[(kK cq st).1]) b
  simp[hb]
 ·rw[←e]
  have hl:=iG cq st
  exact FH _ (cg cq st).2 k2 (Nat.le_refl _) _ (cg cq st).2.rest.length n [] [(cg cq st).1] (Nat.le_refl _) (Nat.le_refl _) (by omega)
end Pure
namespace Pure
variable {st:RS}
def fW (st:RS):dR × RS:=(⟨(eu st).1,(iC (-1000000000) 1000000000 (dd bX (eu st).2)).1⟩,(iC (-1000000000) 1000000000 (dd bX (eu st).2)).2)
theorem IL (h:Ok st):Ag (fu st) (fW st):=by
 unfold fu fW
 try simp only
 rcases jz h with ⟨a,b⟩|⟨e,h1⟩
 ·exact Or.inl ⟨dw (aj a),fO (aG b)⟩
 ·rw[←e]
  rcases cE h1 (s:=bX) (by simp[lits,ah]) with ⟨a,b⟩|⟨e2,h2⟩
  ·exact Or.inl ⟨dw a,fO b⟩
  ·rw[←e2]
   rcases lF h2 (-1000000000) 1000000000 with ⟨a,b⟩|⟨e3,h3⟩
   ·exact Or.inl ⟨a,b⟩
   ·exact Or.inr ⟨by rw[e3],h3⟩
theorem tL (l:List dR) (st:RS):Ei l st=((fW st).1,(fW st).2.dx (l.any fun x=>ik x.key (fW st).1.key)):=rfl
theorem lA (b:List dR):∀(a pre:List dR),dK pre (a++b)=(dK pre a || dK (pre++a) b):=by
 intro a
 induction a with
 | nil=>intro pre;simp[dK]
 | cons x a ih=>intro pre;simp only[List.cons_append,dK,ih];simp[Bool.or_assoc]
theorem Au {α:Type} {one:RS→α × RS} {sep:ByteArray} (n:Nat):∀(out:List α) (st:RS),∃l,(fX one sep n out st).1=out++l:=by
 induction n with
 | zero=>intro out st;exact⟨[],by simp[fX]⟩
 | succ n ih=>
  intro out st
  simp only[fX]
  split
  ·obtain⟨l,hl⟩:=ih (out++[(one st).1]) (dl sep (one st).2)
   exact⟨(one st).1::l,by rw[hl];simp⟩
  ·exact⟨[(one st).1],rfl⟩
theorem AO {α:Type} {one:RS→α × RS} {sep:ByteArray} (n:Nat) (out:List α) (st:RS):∃l,(fX one sep (n+1) out st).1=(out++[(one st).1])++l:=by
 simp only[fX]
 split
 ·exact Au n _ _
 ·exact⟨[],by simp⟩
theorem Er (n:Nat):∀(out:List dR) (st:RS),st.bad=false→dK [] out=false→
  (jJ n out st=fX fW aK n out st∧((fX fW aK n out st).2.bad=false→dK [] (fX fW aK n out st).1=false))∨
  ((jJ n out st).2.bad=true∧((fX fW aK n out st).2.bad=true∨dK [] (fX fW aK n out st).1=true)):=by
 induction n with
 | zero=>intro out st _ ht;exact Or.inl ⟨rfl,fun _=>ht⟩
 | succ n ih=>
  intro out st h ht
  by_cases hb:(fW st).2.bad=true
  ·refine Or.inl ⟨?_,fun e=>?_⟩
   ·have e1:(fW st).2.dx (out.any fun x=>ik x.key (fW st).1.key)=(fW st).2:=by
     unfold RS.dx
     rw[hb]
     cases hq:(fW st).2 with
     | mk r b=>rw[hq] at hb;simp only at hb;simp[hb]
    simp only[jJ,fX,h,tL,e1,hb]
    simp
   ·simp only[fX,hb] at e
    simp[hb] at e
  ·have hb2:(fW st).2.bad=false:=by simpa using hb
   by_cases hd:(out.any fun x=>ik x.key (fW st).1.key)=true
   ·refine Or.inr ⟨?_,Or.inr ?_⟩
    ·simp only[jJ,h,tL,hd,RS.dx]
     simp
    ·obtain⟨l,hl⟩:=AO (one:=fW) (sep:=aK) n out st
     rw[hl,lA,lA]
     simp[dK,hd]
   ·have hd2:(out.any fun x=>ik x.key (fW st).1.key)=false:=by simpa using hd
    have e1:Ei out st=fW st:=by rw[tL,hd2,dj]
    have ht2:dK [] (out++[(fW st).1])=false:=by rw[lA,ht];simp[dK,hd2]
    simp only[jJ,fX,h,e1,hb2]
    by_cases hp:bD aK (fW st).2=true
    ·simp only[hp]
     simpa using ih (out++[(fW st).1]) (dl aK (fW st).2) (by rw[rO];exact hb2) ht2
    ·simp only[hp]
     exact Or.inl ⟨rfl,fun _=>ht2⟩
theorem k8 {st:RS} (h:(cN (aD bE st)).2.bad=true):(bG st).2.bad=true:=by
 unfold bG;simp only
 by_cases hp:aE cP (cN (aD bE st)).2=true
 ·simp only[hp,if_true];split;rfl;exact aj (aj (qp qd (aO h)))
 ·simp only[hp];simp only[Bool.false_eq_true,if_false,dK];exact aj h
theorem uZ {st:RS} (h:(iL (dd bE st)).2.bad=true):(yz st).2.bad=true:=by
 unfold yz;simp only
 refine fI (aG ?_)
 have hb:(dl cP (iL (dd bE st)).2).bad=true:=dZ h
 by_cases hp:bD cP (iL (dd bE st)).2=true
 ·simp only[hp,if_true];refine aG ?_;simp[jJ,hb]
 ·simp only[hp];exact h
theorem GW (h:Ok st):Ag (bG st) (yz st):=by
 have l1:=j8 bE st
 have l2:=ph (dd bE st)
 rcases cE h (s:=bE) (by simp[lits,ah]) with ⟨a,b⟩|⟨e,h1⟩
 ·exact Or.inl ⟨k8 (dX a),uZ (fk b)⟩
 ·rcases pI h1 with ⟨a,b⟩|⟨e2,h2⟩
  ·exact Or.inl ⟨k8 a,uZ (by rw[←e];exact b)⟩
  ·unfold bG yz
   try simp only
   rw[←e] at l1 l2⊢
   rw[←e2] at l2⊢
   rw[cV h2 (s:=cP) (by simp[lits,ah]),bU h2 (s:=cP) (by simp[lits,ah])]
   by_cases hp:bD cP (cN (aD bE st)).2=true
   ·simp only[hp,if_true]
    have h3:=h2.has cP
    have l3:=kh cP (cN (aD bE st)).2
    have hn:(dl cP (cN (aD bE st)).2).rest.length<st.rest.length+1:=by omega
    have hpa:=xe (sep:=aK) (by simp[lits,ah]) IL qd (fun {st} _=>nX st) h3 hn
    rcases Er (st.rest.length+1) [] (dl cP (cN (aD bE st)).2) h3.nT rfl with ⟨q1,q2⟩|⟨q1,q2⟩
    ·rw[q1]
     generalize fX fW aK (st.rest.length+1) [] (dl cP (cN (aD bE st)).2)=L at hpa q2⊢
     rcases hpa with ⟨a,b⟩|⟨e3,h4⟩
     ·refine Or.inl ⟨?_,?_⟩
      ·split
       ·rfl
       ·exact aj (aj a)
      ·unfold RS.dx at b⊢
       simp only[Bool.or_eq_true] at b⊢
       rcases b with b|b
       ·exact Or.inl (aG (aG b))
       ·exact Or.inr b
     ·have hg:=h4.nT
      rw[e3] at hg h4
      simp only[RS.dx,Bool.or_eq_false_iff] at hg
      rw[e3]
      simp only at h4⊢
      rw[q2 hg.1]
      have e5:L.2.dx (decide (6<L.1.length))=L.2:=by rw[hg.2,dj]
      rw[e5] at h4⊢
      rw[hg.2]
      simp only[Bool.false_eq_true,if_false,dj]
      rcases cE h4 (s:=gG) (by simp[lits,ah]) with ⟨a,b⟩|⟨e6,h6⟩
      ·exact Or.inl ⟨aj a,aG b⟩
      ·rw[←e6]
       rcases cE h6 (s:=bA) (by simp[lits,ah]) with ⟨a,b⟩|⟨e7,h7⟩
       ·exact Or.inl ⟨a,b⟩
       ·exact Or.inr ⟨by rw[e7],h7⟩
    ·refine Or.inl ⟨?_,fI (aG (aG q1))⟩
     rcases hpa with ⟨a,b⟩|⟨e3,h4⟩
     ·split
      ·rfl
      ·exact aj (aj a)
     ·have hg:=h4.nT
      rw[e3] at hg
      simp only[RS.dx,Bool.or_eq_false_iff] at hg
      rw[e3]
      simp only
      rcases q2 with q2|q2
      ·rw[hg.1] at q2;cases q2
      ·rw[q2];rfl
   ·simp only[hp]
    simp only[Bool.false_eq_true,if_false,dK,List.length_nil]
    rcases cE h2 (s:=bA) (by simp[lits,ah]) with ⟨a,b⟩|⟨e7,h7⟩
    ·exact Or.inl ⟨a,fI b⟩
    ·refine Or.inr ⟨?_,h7⟩
     rw[e7]
     simp[dj]
end Pure
end Go.Proofs.YtobgbmfpicmpcaaGreatDoor
