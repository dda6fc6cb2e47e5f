/- The two readers of queries agree, on all tokens that a text can have. No program in this text. -/
import Derived.Test.YtobgbmfpicmpcaaGreatDoorC04
import Derived.Laws.Strings
import Derived.Lib.Join
import Derived.Lib.ItoaNum
import Derived.Test.YtobgbmfpicmpcaaGreatDoorC03
import Derived.Deep.DeepMust
import Derived.Sort.Grow
import Derived.Lib.SmallJoins
import Derived.Lib.AtoiErrMem
import Derived.Test.YtobgbmfpicmpcaaGreatDoorC02
import Derived.Shelf.LaysM
import Derived.Shelf.LaysC
import Derived.Shelf.Small.Bits
import Derived.Shelf.Small.Wraps
import Derived.Shelf.Strings.Search1
import Derived.Shelf.Strings.Search2
import Derived.Shelf.Strings.Search3
import Derived.Shelf.Strings.Cut
import Derived.Shelf.Strings.Count
import Derived.Shelf.Strings.Prefix
import Derived.Shelf.Strings.Split
import Derived.Test.YtobgbmfpicmpcaaGreatDoorProg
import Derived.Lib.Hide
set_option maxRecDepth 100000
set_option maxHeartbeats 8000000
namespace Go.Proofs.YtobgbmfpicmpcaaGreatDoor
open Go.Lib (hid)
namespace Pure
variable {st:RS}
theorem E7 (h:Ok st) (k:Int):Ag (gE k st) (rP k st):=by
 unfold gE rP
 rw[cV h (s:=eJ) (by simp[lits,ah]),bU h (s:=eJ) (by simp[lits,ah]),h.nT]
 by_cases hp:bD eJ st=true
 ·simp only[hp,Bool.not_false,Bool.and_self,if_true]
  rcases cE (h.has eJ) (s:=IH) (by simp[lits,ah]) with ⟨a,b⟩|⟨e,h1⟩
  ·exact Or.inl ⟨aO (dw a),dZ (fO b)⟩
  ·rw[←e]
   rcases lF h1 1 k with ⟨a,b⟩|⟨e2,h2⟩
   ·exact Or.inl ⟨aO a,dZ b⟩
   ·rw[←e2,cV h2 (s:=jF) (by simp[lits,ah]),bU h2 (s:=jF) (by simp[lits,ah])]
    exact Or.inr ⟨rfl,h2.has jF⟩
 ·simp only[hp]
  exact Or.inr ⟨rfl,h⟩
theorem B4 (h:Ok st) {s:ByteArray} (hs:s∈lits) (k:Int):Ag (gz s k st) (vj s k st):=by
 unfold gz vj
 rw[cV h hs,bU h hs,h.nT]
 by_cases hp:bD s st=true
 ·simp only[hp,Bool.not_false,Bool.and_self,if_true]
  exact lF (h.has s) 0 1000000000
 ·simp only[hp]
  exact Or.inr ⟨rfl,h⟩
theorem Hv (h:Ok st):Ag (eA st) (AE st):=by
 have hpa:=xe (sep:=aK) (n:=st.rest.length+1) (by simp[lits,ah]) I3 qH (fun {st} _=>qA st) h (by omega)
 unfold eA AE
 try simp only
 rw[xV _ _ _ h.nT]
 generalize fX sV aK (st.rest.length+1) [] st=L at hpa⊢
 rcases hpa with ⟨a,b⟩|⟨e3,h4⟩
 ·refine Or.inl ⟨gN (gN (pj a)),?_⟩
  unfold RS.dx at b⊢
  simp only[Bool.or_eq_true] at b⊢
  rcases b with b|b
  ·exact Or.inl (me (me (AX b)))
  ·exact Or.inr b
 ·have hg:=h4.nT
  rw[e3] at hg h4
  simp only[RS.dx,Bool.or_eq_false_iff] at hg
  rw[e3]
  have e5:L.2.dx (decide (6<L.1.length))=L.2:=by rw[hg.2,dj]
  simp only at h4⊢
  rw[e5] at h4⊢
  rw[hg.2]
  simp only[dj]
  rcases E7 h4 L.1.length with ⟨a,b⟩|⟨e,h1⟩
  ·exact Or.inl ⟨gN (gN a),me (me b)⟩
  ·rw[←e]
   rcases B4 h1 (s:=jI) (by simp[lits,ah]) 0 with ⟨a,b⟩|⟨e2,h2⟩
   ·exact Or.inl ⟨gN a,me b⟩
   ·rw[←e2]
    rcases B4 h2 (s:=iN) (by simp[lits,ah]) (-1) with ⟨a,b⟩|⟨e6,h6⟩
    ·exact Or.inl ⟨a,b⟩
    ·exact Or.inr ⟨by rw[e6],h6⟩
theorem Ib (h:Ok st) (hp:bD aM st=true):Ag (jh (dl aM st)) (xI st):=by
 unfold jh xI
 have e0:dd aM st=dl aM st:=by unfold dd;rw[hp];exact dj _
 rw[e0]
 try simp only
 rcases cE (h.has aM) (s:=bE) (by simp[lits,ah]) with ⟨a,b⟩|⟨e,h1⟩
 ·exact Or.inl ⟨aj (bC (aj (aj (dX (aj (aj (bC a))))))),aG (db (aG (aG (fk (aG (aG (db b)))))))⟩
 rw[←e]
 rcases jz h1 with ⟨a,b⟩|⟨e,h2⟩
 ·exact Or.inl ⟨aj (bC (aj (aj (dX (aj (aj a)))))),aG (db (aG (aG (fk (aG (aG b))))))⟩
 rw[←e]
 rcases cE h2 (s:=bA) (by simp[lits,ah]) with ⟨a,b⟩|⟨e,h3⟩
 ·exact Or.inl ⟨aj (bC (aj (aj (dX (aj a))))),aG (db (aG (aG (fk (aG b)))))⟩
 rw[←e]
 rcases cE h3 (s:=jG) (by simp[lits,ah]) with ⟨a,b⟩|⟨e,h4⟩
 ·exact Or.inl ⟨aj (bC (aj (aj (dX a)))),aG (db (aG (aG (fk b))))⟩
 rw[←e]
 rcases pI h4 with ⟨a,b⟩|⟨e,h5⟩
 ·exact Or.inl ⟨aj (bC (aj (aj a))),aG (db (aG (aG b)))⟩
 rw[←e]
 rcases cE h5 (s:=da) (by simp[lits,ah]) with ⟨a,b⟩|⟨e,h6⟩
 ·exact Or.inl ⟨aj (bC (aj a)),aG (db (aG b))⟩
 rw[←e]
 rcases cE h6 (s:=bE) (by simp[lits,ah]) with ⟨a,b⟩|⟨e,h7⟩
 ·exact Or.inl ⟨aj (bC a),aG (db b)⟩
 rw[←e]
 rcases jz h7 with ⟨a,b⟩|⟨e,h8⟩
 ·exact Or.inl ⟨aj a,aG b⟩
 rw[←e]
 rcases cE h8 (s:=bA) (by simp[lits,ah]) with ⟨a,b⟩|⟨e,h9⟩
 ·exact Or.inl ⟨a,b⟩
 exact Or.inr ⟨by rw[e],h9⟩
theorem J2 (h:Ok st):Ag (qg st) (J7 st):=by
 unfold qg J7
 try simp only
 rcases B0 h with ⟨a,b⟩|⟨e,h1⟩
 ·exact Or.inl ⟨fZ (aj a),nY (aG b)⟩
 ·have e1:(iE st).1.1=(eu st).1:=by rw[e]
  have e2:(iE st).1.2=(eu (dd eX (eu st).2)).1:=by rw[e]
  have e3:(iE st).2=(eu (dd eX (eu st).2)).2:=by rw[e]
  rw[←e1,←e2,←e3]
  rcases cE h1 (s:=tT) (by simp[lits,ah]) with ⟨a,b⟩|⟨e4,h4⟩
  ·exact Or.inl ⟨fZ a,nY b⟩
  ·rw[←e4]
   rcases wZ h4 with ⟨a,b⟩|⟨e5,h5⟩
   ·exact Or.inl ⟨a,b⟩
   ·exact Or.inr ⟨by rw[e5],h5⟩
theorem DU (h:Ok st) (q:au):Ag (bS q st) (rC q st):=by
 unfold bS rC
 simp only[cV h (s:=bq) (by simp[lits,ah]),cV h (s:=fN) (by simp[lits,ah]),cV h (s:=bI) (by simp[lits,ah]),cV h (s:=aM) (by simp[lits,ah]),bU h (s:=bq) (by simp[lits,ah]),bU h (s:=fN) (by simp[lits,ah]),bU h (s:=bI) (by simp[lits,ah]),bU h (s:=aM) (by simp[lits,ah])]
 by_cases h1:bD bq st=true
 ·simp only[h1,if_true]
  rcases Hv (h.has bq) with ⟨a,b⟩|⟨e,k⟩
  ·exact Or.inl ⟨a,b⟩
  ·exact Or.inr ⟨by rw[e],k⟩
 ·simp only[h1]
  by_cases h2:bD fN st=true
  ·simp only[h2,if_true]
   rcases J2 (h.has fN) with ⟨a,b⟩|⟨e,k⟩
   ·exact Or.inl ⟨a,b⟩
   ·exact Or.inr ⟨by rw[e];rfl,k⟩
  ·simp only[h2]
   by_cases h3:bD bI st=true
   ·simp only[h3,if_true]
    rcases jz (h.has bI) with ⟨a,b⟩|⟨e,k⟩
    ·exact Or.inl ⟨a,b⟩
    ·exact Or.inr ⟨by rw[e];rfl,k⟩
   ·simp only[h3]
    by_cases h4:bD aM st=true
    ·simp only[h4,if_true]
     rcases Ib h h4 with ⟨a,b⟩|⟨e,k⟩
     ·exact Or.inl ⟨a,b⟩
     ·exact Or.inr ⟨by rw[e];rfl,k⟩
    ·simp only[h4]
     have h5:bD aM st=false:=by simpa using h4
     exact Or.inl ⟨rfl,Df (by unfold dd;rw[h5];exact mr _)⟩
theorem tX (n:Nat):∀(out:List aN) (st:RS),(gP n out st).2.rest.length≤st.rest.length:=by
 induction n with
 | zero=>intro out st;exact Nat.le_refl _
 | succ n ih=>
  intro out st
  simp only[gP]
  have h1:=CE st
  split
  ·exact Nat.le_refl _
  ·split
   ·have h2:=ih (out++(qV st).1) (dl aK (qV st).2)
    have h3:=kh aK (qV st).2
    omega
   ·exact h1
def JQ (st:RS):(List aN × List bP) × RS:=(((eE (aD dz st)).1,(dN (eE (aD dz st)).2).1),(dN (eE (aD dz st)).2).2)
theorem Gf (h:Ok st):Ag (JQ st) (pZ st):=by
 unfold JQ pZ
 try simp only
 have l1:=j8 dz st
 rcases cE h (s:=dz) (by simp[lits,ah]) with ⟨a,b⟩|⟨e,h1⟩
 ·refine Or.inl ⟨mH (AQ a),fI ?_⟩
  simp[gP,b]
 ·rw[←e] at l1⊢
  have hpa:=Ga h1 (n:=st.rest.length+1) (by omega)
  have lm:∀(L:List aN × RS),(aT (cg cq (aD dz st)).2.rest.length [(cg cq (aD dz st)).1] (cg cq (aD dz st)).2)=L→eE (aD dz st)=(L.1,if 6<L.1.length then dv else L.2):=by
   intro L hL
   unfold eE
   rw[hL]
  rcases hpa with ⟨a,b⟩|⟨e2,h2⟩
  ·refine Or.inl ⟨?_,fI ?_⟩
   ·refine mH ?_
    rw[lm _ rfl]
    simp only
    split;rfl;exact a
   ·simp[b]
  ·rw[lm _ rfl,←e2]
   generalize aT (cg cq (aD dz st)).2.rest.length [(cg cq (aD dz st)).1] (cg cq (aD dz st)).2=L at e2 h2
   have l2:L.2.rest.length≤st.rest.length:=by
    rw[e2]
    exact Nat.le_trans (tX _ _ _) l1
   by_cases h6:6<L.1.length
   ·simp only[h6,if_true,decide_true,Bool.true_or]
    exact Or.inl ⟨mH rfl,mr _⟩
   ·simp only[h6,if_false,decide_false,Bool.false_or]
    unfold dN
    rw[cV h2 (s:=ej) (by simp[lits,ah]),bU h2 (s:=ej) (by simp[lits,ah]),h2.nT]
    by_cases hw:bD ej L.2=true
    ·simp only[hw,Bool.not_false,Bool.and_self,if_true]
     have l3:=kh ej L.2
     have hpa:=xe (sep:=pP) (n:=st.rest.length+1) (by simp[lits,ah]) II qe (fun {st} _=>lE st) (h2.has ej) (by omega)
     rw[ym]
     rcases hpa with ⟨a,b⟩|⟨e3,h3⟩
     ·exact Or.inl ⟨a,b⟩
     ·exact Or.inr ⟨by rw[e3],h3⟩
    ·simp only[hw]
     simp only[Bool.and_false,Bool.false_eq_true,if_false,List.length_nil]
     exact Or.inr ⟨by simp[dj],h2⟩
theorem E2 (h:Ok st):Ag (eF st) (qn st):=by
 unfold eF qn
 simp only[cV h (s:=eW) (by simp[lits,ah]),cV h (s:=aM) (by simp[lits,ah]),bU h (s:=eW) (by simp[lits,ah]),bU h (s:=aM) (by simp[lits,ah])]
 by_cases h1:bD eW st=true
 ·have h2:bD aM st=false:=uW h1 (by decide +kernel)
  simp only[h1,h2,if_true,Bool.false_eq_true,if_false]
  rcases jz (h.has eW) with ⟨a,b⟩|⟨e,k⟩
  ·exact Or.inl ⟨a,b⟩
  ·exact Or.inr ⟨by rw[e],k⟩
 ·simp only[h1]
  by_cases h2:bD aM st=true
  ·simp only[h2,if_true,Bool.false_eq_true,if_false]
   rcases GW (h.has aM) with ⟨a,b⟩|⟨e,k⟩
   ·exact Or.inl ⟨a,b⟩
   ·exact Or.inr ⟨by rw[e],k⟩
  ·simp only[h2,Bool.false_eq_true,if_false]
   have hm:=Gf h
   unfold JQ at hm
   rcases hm with ⟨a,b⟩|⟨e,k⟩
   ·refine Or.inl ⟨qZ a,?_⟩
    rw[b];exact b
   ·have e1:(eE (aD dz st)).1=(pZ st).1.1:=by rw[←e]
    have e2:(dN (eE (aD dz st)).2).1=(pZ st).1.2:=by rw[←e]
    have e3:(dN (eE (aD dz st)).2).2=(pZ st).2:=by rw[←e]
    simp only at k
    rw[e1,e2,e3]
    rw[e3] at k
    rw[k.nT]
    exact DU k _
structure Shape (q:au):Prop where
 val:q.kind≠2→q.value.name=e0
 IM:q.kind=1∨q.kind=5→q.name=e0∧q.dest=e0
 Lj:q.kind=1∨q.kind=2∨q.kind=3∨q.kind=4∨q.kind=5∨q.kind=6
theorem shape (st:RS) (h:(qn st).2.bad=false):Shape (qn st).1:=by
 unfold qn at h⊢
 split
 ·exact⟨fun _=>rfl,fun _=>⟨rfl,rfl⟩,by simp⟩
 ·rename_i hc
  rw[if_neg hc] at h
  split
  ·exact⟨fun _=>rfl,fun e=>by simp at e,by simp⟩
  ·rename_i hd
   rw[if_neg hd] at h
   simp only at h⊢
   split
   ·rename_i hb
    rw[if_pos hb] at h
    simp only at h
    rw[hb] at h
    cases h
   ·unfold rC
    split
    ·exact⟨fun _=>rfl,fun _=>⟨rfl,rfl⟩,by simp⟩
    ·split
     ·exact⟨fun e=>by simp at e,fun e=>by simp at e,by simp⟩
     ·split
      ·exact⟨fun _=>rfl,fun e=>by simp at e,by simp⟩
      ·exact⟨fun _=>rfl,fun e=>by simp at e,by simp⟩
theorem nG:e0.toList.isEmpty=true:=by decide +kernel
theorem Eb {l:List aN} {a b:ByteArray} (h:ik a b=true):fl l a=fl l b:=by
 unfold fl ik at*
 have:a.toList=b.toList:=by simpa using h
 rw[this]
theorem FY {q:au} (h:Shape q):eG q=wz q:=by
 unfold eG wz lM EY
 simp only[List.all_append]
 by_cases h2:q.kind=2
 ·simp only[h2]
  simp only[ne_eq,Int.reduceEq,not_false_eq_true,if_true,not_true_eq_false,decide_false,Bool.false_or,List.all_cons,List.all_nil,Bool.and_true,Int.le_refl,Int.reduceLE,and_self]
  cases hv:q.value.name.toList.isEmpty with
  | true=>simp
  | false=>
   cases he:ik q.value.name q.name with
   | false=>simp
   | true=>
    have hn:q.name.toList.isEmpty=false:=by
     have:q.value.name.toList=q.name.toList:=by unfold ik at he;simpa using he
     rw[←this];exact hv
    rw[Eb he]
    simp only[hn,Bool.false_or,Bool.or_true,Bool.and_true]
    cases fl q.ai q.name<;>simp
 ·rw[h.val h2]
  simp only[nG,Bool.true_or,Bool.and_true,Bool.or_true,ne_eq,h2,not_false_eq_true,decide_true]
  rcases h.Lj with k|k|k|k|k|k
  ·obtain⟨a,b⟩:=h.IM (Or.inl k)
   rw[a,b]
   simp[k,nG]
  ·exact absurd k h2
  ·simp[k,nG]
  ·simp[k,nG]
  ·obtain⟨a,b⟩:=h.IM (Or.inr k)
   rw[a,b]
   simp[k,nG]
  ·simp[k]
theorem EU {ts:List Tok} (h:∀t∈ts,VT t):fj ts=Ak ts:=by
 unfold fj Ak
 simp only
 rcases E2 (st:=⟨ts,false⟩) ⟨rfl,h⟩ with ⟨a,b⟩|⟨e,k⟩
 ·simp[a,b]
 ·have hs:=shape ⟨ts,false⟩ (by rw[←e];exact k.nT)
  rw[←e,FY (by rw[e];exact hs)]
end Pure
namespace Pure
theorem Fu {a b:ByteArray} (h:ik a b=true):a=b:=by
 unfold ik at h
 have:a.toList=b.toList:=by simpa using h
 rw[ByteArray.toList_eq,ByteArray.toList_eq] at this
 exact Go.WideShapes.bytes_inj this
def I9 (s:ByteArray):Bool:=!cH (bt s 0)&&(!(decide (bt s 0=45)) || !cH (bt s 1))
theorem IZ:lits.all I9=true:=by decide +kernel
theorem Ad {l:List UInt8} {v:Int} (h:j9 l=some v):-1000000000≤v∧v≤1000000000:=by
 cases l with
 | nil=>simp[j9] at h
 | cons c r=>
  simp only[j9] at h
  split at h
  ·split at h
   ·cases h
   ·rename_i hn
    injection h with h
    have h1:¬1000000000<fz 0 r:=fun e=>hn (Or.inr e)
    omega
  ·split at h
   ·cases h
   ·rename_i hn
    injection h with h
    have h1:¬1000000000<fz 0 (c::r):=fun e=>hn (Or.inr e)
    omega
theorem CO {s:ByteArray} {k e:Nat} {t:Tok} (h:one s k=some (e,t)) (hk:k<s.size):VT t:=by
 unfold one at h
 split at h
 ·split at h
  ·cases h
  ·injection h with h;injection h with _ h;subst h
   exact⟨fun e=>(by cases e),fun e=>(by cases e),fun e=>(by cases e)⟩
 ·split at h
  ·rename_i hd
   split at h
   ·cases h
   ·rename_i v hv
    injection h with h;injection h with h1 h;subst h
    have hb:=Ad hv
    refine⟨fun _=>hb.1,fun _=>hb.2,fun _ l hl=>?_⟩
    simp only
    have ok:=List.all_eq_true.1 IZ l hl
    unfold I9 at ok
    simp only[Bool.and_eq_true,Bool.or_eq_true,Bool.not_eq_true',decide_eq_false_iff_not] at ok
    have hsp:=nV (p:=cH) (s:=s) (k:=k+1) hk
    cases he:ik (s.extract k (span cH s (k+1))) l with
    | false=>rfl
    | true=>
     exfalso
     have e1:=Fu he
     have b0:bt l 0=bt s k:=by rw[←e1,kx s k _ 0 hsp.2 (by omega)];rfl
     rw[b0] at ok
     simp only[Bool.or_eq_true,Bool.and_eq_true,decide_eq_true_eq] at hd
     rcases hd with hd|⟨hd,hd2⟩
     ·rw[hd] at ok;exact absurd ok.1 (by simp)
     ·have hk1:k+1<s.size:=Bz (by have:=pt hd2;omega)
      have hgo:=iP (p:=cH) hk1 hd2
      have hsp2:=nV (p:=cH) (s:=s) (k:=k+1+1) hk1
      have b1:bt l 1=bt s (k+1):=by rw[←e1,kx s k _ 1 hsp.2 (by omega)]
      rw[b1,hd2] at ok
      rcases ok.2 with o|o
      ·exact o hd
      ·cases o
  ·split at h
   ·cases h
   ·injection h with h;injection h with _ h;subst h
    exact⟨fun e=>(by cases e),fun e=>(by cases e),fun e=>(by cases e)⟩
theorem C1 (s:ByteArray):∀n k ts,s.size - k≤n→run s k=some ts→∀t∈ts,VT t:=by
 intro n
 induction n with
 | zero=>
  intro k ts h0 h
  rw[mq (by omega)] at h
  injection h with h;subst h
  intro t ht;cases ht
 | succ n ih=>
  intro k ts h0 h
  by_cases hk:k<s.size
  ·by_cases hb:bt s k=32
   ·rw[oh hk hb] at h
    exact ih (k+1) ts (by omega) h
   ·cases ho:one s k with
    | none=>rw[wH hk hb ho] at h;cases h
    | some x=>
     obtain⟨e,t⟩:=x
     rw[rJ hk hb ho] at h
     have hn:=pD ho hk
     cases hr:run s e with
     | none=>rw[hr] at h;cases h
     | some us=>
      rw[hr] at h
      simp only[Option.map_some] at h
      injection h with h;subst h
      intro u hu
      rcases List.mem_cons.1 hu with rfl|hu
      ·exact CO ho hk
      ·exact ih e us (by omega) hr u hu
  ·rw[mq hk] at h
   injection h with h;subst h
   intro t ht;cases ht
end Pure
def bl (s:ByteArray):List UInt8:=s.data.toList
def dB (n:Int):ByteArray:=⟨(Lib.itoa n).toArray⟩
def bT {α β:Type} (f:Bool→α→List β):Bool→List α→List β
 | _,[]=>[]
 | b,x::r=>f b x++bT f false r
def ig (t:gj):List ByteArray:=if t.name.toList.isEmpty then [dB t.val] else [t.name,eX,t.key]
def pO (s:aN):List ByteArray:=[jG,s.type]++((if s.least=1∧s.bf=1 then [] else [dU,dB s.least,kw,dB s.bf])++[da])
def mU (s:aN):List ByteArray:=[bE,s.name]++((if s.label.toList.isEmpty then [] else [bX,s.label])++[bA])
def iV (first:Bool) (s:aN):List ByteArray:=(if s.type.toList.isEmpty then (if first then [] else [aK]) else pO s)++mU s
def lR (op:Int):ByteArray:=if op=1 then tT else if op=2 then D7 else if op=3 then D9 else if op=4 then D2 else if op=5 then D4 else if op=6 then D3 else e0
def xN (c:bP):List ByteArray:=if c.op=7 then [ng,il] else if c.op=8 then [ng,jo,il] else lR c.op::ig c.b
def oG (first:Bool) (c:bP):List ByteArray:=(if first then ej else pP)::(ig c.a++xN c)
def mu (q:au):List ByteArray:=dz::(bT iV true q.ai++bT oG true q.conds)
def xq (x:bi):List ByteArray:=if x.name.toList.isEmpty then [ga] else if x.key.toList.isEmpty then [x.name] else [x.name,eX,x.key]
def oA (first:Bool) (x:bi):List ByteArray:=(if first then [] else [aK])++xq x
def oT (q:au):List ByteArray:=if q.order=0 then [] else [eJ,IH,dB q.order]++(if q.down then [jF] else [])
def td (q:au):List ByteArray:=if q.skip=0 then [] else [jI,dB q.skip]
def oS (q:au):List ByteArray:=if q.bR=-1 then [] else [iN,dB q.bR]
def pL (q:au):List ByteArray:=oT q++(td q++oS q)
def Ez (q:au):List ByteArray:=bq::(bT oA true q.items++pL q)
def pq (first:Bool) (p:dR):List ByteArray:=(if first then [] else [aK])++[p.key,bX,dB p.val]
def po (q:au):List ByteArray:=[aM,bE,q.label]++((if q.ay.isEmpty then [] else cP::(bT pq true q.ay++[gG]))++[bA])
def nv (q:au):List ByteArray:=
 if q.kind=1 then Ez q else if q.kind=2 then [fN,q.name,eX,q.key,tT]++ig q.value else if q.kind=3 then [bI,q.name]
 else if q.kind=4 then [aM,bE,q.name,bA,jG,q.type,da,bE,q.dest,bA] else []
def cJ (q:au):List ByteArray:=if q.kind=6 then [eW,q.name] else if q.kind=5 then po q else mu q++nv q
def iy (ws:List ByteArray):List UInt8:=Lib.join (ws.map bl) [32]
namespace Pure
def ju (ws:List ByteArray):List UInt8:=Lib.joinTail [32] (ws.map bl)
theorem o5:ju []=[]:=rfl
theorem nj (a:ByteArray) (r:List ByteArray):ju (a::r)=32::(bl a++ju r):=by simp[ju,Lib.joinTail]
theorem qR (a:ByteArray) (r:List ByteArray):iy (a::r)=bl a++ju r:=by unfold iy ju;rw[List.map_cons,Lib.join_cons]
end Pure
section
open Go.RowKit
def bO (w:World) (k:Nat) (v:Value) (n:Nat) (xs:List Value):Prop:=
 xs.length=n*k∧∃ao cap,v=.slice ao n cap∧n≤cap∧(0<n→∃g o,ao=some ⟨g,o,none⟩∧∀j u,xs[j]?=some u→w.cell? ⟨g,o+j,none⟩=some u)
theorem aP {w:World} {B k n:Nat} {T:TypeId} {v:Value} {xs:List Value} (h:w.ownsRow B T k v n xs) (hl:xs.length=n*k):bO w k v n xs:=by
 refine⟨hl,?_⟩
 rcases h.2 with ⟨hv,h0⟩|⟨g,cap,cur,hv,hb,hg,hnc,_⟩
 ·exact⟨none,0,by rw[hv,h0],by omega,fun h=>by omega⟩
 ·refine⟨_,cap,hv,hnc,fun _=>⟨g,0,rfl,fun j u hu=>?_⟩⟩
  have hj:j<xs.length:=by
   by_cases hj:j<xs.length
   ·exact hj
   ·rw[List.getElem?_eq_none (by omega)] at hu;cases hu
  rw[hv] at h
  rw[Nat.zero_add,←hu]
  exact h.cellAt _ (by omega)
theorem bO.below {w w':World} {k n:Nat} {v:Value} {xs:List Value} (h:bO w k v n xs) (hb:Below w.heap.size w w'):bO w' k v n xs:=by
 obtain⟨hl,ao,cap,rfl,hc,hs⟩:=h
 refine⟨hl,ao,cap,rfl,hc,fun hn=>?_⟩
 obtain⟨g,o,rfl,hx⟩:=hs hn
 refine⟨g,o,rfl,fun j u hu=>?_⟩
 have h1:=hx j u hu
 have hg:(⟨g,o+j,none⟩:Addr).block<w.heap.size:=Lib.lt_of_cell h1
 rw[hb.cell hg];exact h1
theorem bY {α:Type} {w:World} {k n cap:Nat} {ao:Option Addr} {l:List α} (f:α→List Value) (hk:∀a,(f a).length=k) (h:bO w k (.slice ao n cap) l.length (l.flatMap f)) {i:Nat} (hi:i<l.length):
  ∃g o,ao=some ⟨g,o,none⟩∧∀j,j<k→w.cell? ⟨g,o+i*k+j,none⟩=(f l[i])[j]?:=by
 obtain⟨hl,ao',cap',e,hc,hs⟩:=h
 injection e with e1 e2 e3
 subst e1
 obtain⟨g,o,rfl,hx⟩:=hs (by omega)
 refine⟨g,o,rfl,fun j hj=>?_⟩
 have hget:=om f hk l i hi j hj
 have hsome:(f l[i])[j]?=some ((f l[i])[j]'(by rw[hk];exact hj)):=List.getElem?_eq_getElem _
 rw[Nat.add_assoc,hx _ _ (by rw[hget,hsome]),hsome]
theorem eI {α:Type} {w:World} {k:Nat} {v:Value} {l:List α} {xs:List Value} (h:bO w k v l.length xs):∃ao cap,v=.slice ao l.length cap∧l.length≤cap:=by
 obtain⟨_,ao,cap,e,hc,_⟩:=h
 exact⟨ao,cap,e,hc⟩
def ux (n:Int):Prop:=-9223372036854775808≤n∧n≤9223372036854775807
def BG (w : World) : Prop := Lib.TabIs Tryz.prog w "internal/strconv.uint64pow10" .u64 Lib.pow10Tab
theorem K5 : Tryz.prog.globalNamed "internal/strconv.uint64pow10" = some 0 := by kernel_rfl
theorem BG.below {w w':World} (h:BG w) (hb:Below w.heap.size w w'):BG w':=Joins.tab_stays K5 h hb (Nat.le_refl _)
theorem sy (w:World) (os:Array Obj):Below w.heap.size w (Sort.grow w os):=
 ⟨rfl,rfl,rfl,by simp[Sort.grow],fun k hk=>by simp only[Sort.grow];rw[Array.getElem?_append_left hk]⟩
theorem FP {W:World} {n:Int} (hn:ux n) (ht:BG W):Calls Tryz.prog 36 #[.int .i64 n] W fun e W'=>e=.returned (.string (dB n))∧Below W.heap.size W W':=by
 refine(Tryz.strconv_Itoa n hn.1 hn.2 W ht).mono ?_
 rintro e W' ⟨rfl,k,os,rfl⟩
 exact⟨rfl,(Joins.below_draws _ W k).trans (sy (W.drewN k) os)⟩
section
variable {W0 w w2:World} {b:Nat} {ws:List ByteArray}
end
end
section
open Go.RowKit Go.Maps
abbrev cU:=ByteArray × Nat × (aI→Bool)
def kL (x:cU):List Value:=[.string x.1,.map (some x.2.1)]
def jg (l:List cU) (nm:ByteArray):Option cU:=l.find? (fun x=>x.1.toList==nm.toList)
def zu:Option cU→Value
 | some x=>.tuple #[.agg #[.string x.1,.map (some x.2.1)],.bool true]
 | none=>.tuple #[.agg #[.string ⟨#[]⟩,.map none],.bool false]
theorem vJ {α:Type} {l:List α} {p:α→Bool} {k:Nat} (hk:k<l.length) (h:(l.take k).find? p=none):(l.take (k+1)).find? p=if p l[k] then some l[k] else none:=by
 rw[List.take_add_one,List.find?_append,h,List.getElem?_eq_getElem hk]
 simp
theorem uG {α:Type} {l:List α} {p:α→Bool} {k:Nat} (hk:k<l.length) (h:(l.take k).find? p=none) (hp:p l[k]=true):l.find? p=some l[k]:=by
 have h1:=vJ hk h
 rw[if_pos hp] at h1
 have h2:(l.take (k+1)++l.drop (k+1)).find? p=some l[k]:=by rw[List.find?_append,h1];rfl
 rwa [List.take_append_drop] at h2
theorem Gq {W:World} {ao:Option Addr} {cap:Nat} {l:List cU} {nm:ByteArray} (hl:l.length≤6) (h:bO W 2 (.slice ao l.length cap) l.length (l.flatMap kL)):
  Calls Tryz.prog 62 #[.agg #[.slice ao l.length cap],.string nm] W fun e W'=>e=.returned (zu (jg l nm))∧Below W.heap.size W W':=by
 have HS:=hid h
 have HB:=hid ((Below.refl W.heap.size W).alloc (Nat.le_refl _) (.cells #[.slice ao l.length cap] 122))
 have HX:=hid (Loc.new (W.alloc (.cells #[.slice ao l.length cap] 122)) #[.string ⟨#[]⟩,.map none] 118)
 have HB2:=hid (HB.out.alloc HB.out.size (.cells #[.string ⟨#[]⟩,.map none] 118))
 have HN:=hid HB.out.size
 clear h HB
 go_enter Tryz.func62,Tryz.ntmps62
 go_wp2_with fail
 obtain⟨X,hX⟩:∃X,X=(W.alloc (.cells #[.slice ao l.length cap] 122)).heap.size:=⟨_,rfl⟩
 have hX':X=W.heap.size+1:=by rw[hX];simp
 rw[←hX] at HX HN
 rw[←hX']
 clear hX hX'
 generalize (W.alloc (.cells #[.slice ao l.length cap] 122)).alloc (.cells #[.string ⟨#[]⟩,.map none] 118)=W1 at HX HB2⊢
 go_loopg [11] l.length (fun n iv w=>∃k:Nat,iv=.int .i64 (k:Int)∧k+n=l.length∧(l.take k).find? (fun x=>x.1.toList==nm.toList)=none∧Loc w X #[.string ⟨#[]⟩,.map none] 118∧Below W.heap.size W w)
 case atStart=>exact⟨0,rfl,by omega,by simp,HX.out,HB2.out⟩
 case round=>
  obtain⟨k,rfl,hk,hf,hx,hb⟩:=hrel
  have HF:=hid hf
  have HX1:=hid hx
  have HB1:=hid hb
  clear hf hx hb HX HB2
  by_cases hlt:k<l.length
  ·obtain⟨g,o,rfl,hcell⟩:=bY (l:=l) kL (fun _=>rfl) (HS.out.below HB1.out) hlt
   obtain⟨y,hy⟩:∃y,l[k]=y:=⟨_,rfl⟩
   have HY:=hid hy
   rw[hy] at hcell
   have p0:wr.cell? ⟨g,o+k*2,none⟩=some (.string y.1):=hcell 0 (by decide)
   have p1:wr.cell? ⟨g,o+k*2+1,none⟩=some (.map (some y.2.1)):=hcell 1 (by decide)
   have hki:(k:Int)<(l.length:Int):=by omega
   clear hcell hy
   cases ht:(y.1.toList==nm.toList) with
   | true=>
    have HX2:=hid (HX1.out.alloc (.cells #[.string y.1,.map (some y.2.1)] 118))
    have HB2:=hid (HB1.out.alloc HB1.out.size (.cells #[.string y.1,.map (some y.2.1)] 118))
    have x0:(wr.alloc (.cells #[.string y.1,.map (some y.2.1)] 118)).cell? ⟨X,0,none⟩=some (.string ⟨#[]⟩):=(HX2.out.cell 0).trans rfl
    have x1:(wr.alloc (.cells #[.string y.1,.map (some y.2.1)] 118)).cell? ⟨X,1,none⟩=some (.map none):=(HX2.out.cell 1).trans rfl
    have fx0:=HX2.out.free 0
    have fx1:=HX2.out.free 1
    go_wp2_with fail
    have HX3:=hid ((HX2.out.set 0 (.string y.1)).set 1 (.map (some y.2.1)))
    have HB3:=hid ((HB2.out.setCell (p:=⟨X,0,none⟩) HN.out (.string y.1)).setCell (p:=⟨X,1,none⟩) HN.out (.map (some y.2.1)))
    clear x0 x1 fx0 fx1 HX2 HB2 HX1 HB1
    generalize ((wr.alloc (.cells #[.string y.1,.map (some y.2.1)] 118)).setCell ⟨X,0,none⟩ (.string y.1)).setCell ⟨X,1,none⟩ (.map (some y.2.1))=W3 at HX3 HB3⊢
    have x0:=HX3.out.at_ 0 (.string y.1) rfl
    have x1:=HX3.out.at_ 1 (.map (some y.2.1)) rfl
    have HR:Hid (jg l nm=some y):=hid (by unfold jg;rw[uG hlt HF.out (by rw[HY.out];exact ht),HY.out])
    refine bodyPost_ret (v:=.tuple #[.agg #[.string y.1,.map (some y.2.1)],.bool true]) ?_ rfl ⟨by rw[HR.out];rfl,HB3.out⟩
    simp[results,Tryz.results62,go_sem,x0,x1]
   | false=>
    have HX2:=hid (HX1.out.alloc (.cells #[.string y.1,.map (some y.2.1)] 118))
    have HB2:=hid (HB1.out.alloc HB1.out.size (.cells #[.string y.1,.map (some y.2.1)] 118))
    go_wp2_with fail
    go_roundg (gk - 1)
    case rel=>
     refine⟨k+1,by simp,by omega,?_,HX2.out,HB2.out⟩
     rw[vJ hlt HF.out,HY.out]
     simp only[ht];rfl
    case measure=>omega
  ·have hki:¬(k:Int)<(l.length:Int):=by omega
   have x0:=HX1.out.at_ 0 (.string ⟨#[]⟩) rfl
   have x1:=HX1.out.at_ 1 (.map none) rfl
   have fx0:=HX1.out.free 0
   have fx1:=HX1.out.free 1
   have HR:Hid (jg l nm=none):=hid (by unfold jg;have:=HF.out;rwa [List.take_of_length_le (by omega)] at this)
   go_wp2_with fail
   have HX3:=hid ((HX1.out.set 0 (.string ⟨#[]⟩)).set 1 (.map none))
   have HB3:=hid ((HB1.out.setCell (p:=⟨X,0,none⟩) HN.out (.string ⟨#[]⟩)).setCell (p:=⟨X,1,none⟩) HN.out (.map none))
   clear x0 x1 fx0 fx1 HX1 HB1
   generalize (wr.setCell ⟨X,0,none⟩ (.string ⟨#[]⟩)).setCell ⟨X,1,none⟩ (.map none)=W3 at HX3 HB3⊢
   have x0:=HX3.out.at_ 0 (.string ⟨#[]⟩) rfl
   have x1:=HX3.out.at_ 1 (.map none) rfl
   refine bodyPost_ret (v:=.tuple #[.agg #[.string ⟨#[]⟩,.map none],.bool false]) ?_ rfl ⟨by rw[HR.out];rfl,HB3.out⟩
   simp[results,Tryz.results62,go_sem,x0,x1]
end
section
open Go.RowKit
def kO (s:ByteArray):Int:=
 if s.toList==[115,101,101] then 1 else if s.toList==[119,97,108,107] then 2 else if s.toList==[114,101,97,100] then 3
 else if s.toList==[109,97,107,101] then 4 else if s.toList==[115,101,116] then 5 else if s.toList==[100,114,111,112] then 6
 else if s.toList==[108,105,110,107] then 7 else if s.toList==[99,117,116] then 8 else if s.toList==[99,97,108,108] then 9 else 0
theorem GR (s:ByteArray) (W:World):
  Calls Tryz.prog 280 #[.string s] W fun e W'=>e=.returned (.int .i64 (kO s))∧W'=W:=by
 go_enter Tryz.func280,Tryz.ntmps280
 go_wp2_with fail
 all_goals (go_ret;exact⟨by simp[kO, *],rfl⟩)
end
end Go.Proofs.YtobgbmfpicmpcaaGreatDoor
namespace Go.Proofs
open Go.Shelf
def Tryz.lays103_ren : Go.Shelf.Ren := ⟨fun | 103 => 226 | 210 => 278 | 206 => 326 | n => n, fun | 9 => 9 | 4 => 4 | 24 => 294 | 3 => 3 | n => n, fun | n => n⟩
theorem Tryz.lays103 : Go.Proofs.Lays.n103 Tryz.prog Tryz.lays103_ren := {
  mixed := by kernel_rfl
  f103 := Tryz.func226.trans (congrArg some (by kernel_rfl))
  f206 := Tryz.func326.trans (congrArg some (by kernel_rfl))
  f210 := Tryz.func278.trans (congrArg some (by kernel_rfl))
  t3 := Tryz.underlying3
  a3 := Tryz.isAgg3
  z3 := Tryz.sizeOf3
  v3 := Tryz.zeroValue3
  t4 := Tryz.underlying4
  a4 := Tryz.isAgg4
  z4 := Tryz.sizeOf4
  v4 := Tryz.zeroValue4
  t9 := Tryz.underlying9
  a9 := Tryz.isAgg9
  z9 := Tryz.sizeOf9
  v9 := Tryz.zeroValue9
  t24 := Tryz.underlying294
  a24 := Tryz.isAgg294
  z24 := Tryz.sizeOf294
  v24 := Tryz.zeroValue294 }
open Go.RowKit in
theorem Tryz.strings_CutPrefix (s p : ByteArray) (w : World) :
    Calls Tryz.prog 226 #[.string s, .string p] w fun e w' => e = .returned (.tuple #[.string ⟨(Lib.trimPrefix s.data.toList p.data.toList).toArray⟩, .bool (Lib.hasPrefix s.data.toList p.data.toList)]) ∧ w' = w := Any.strings_CutPrefix Tryz.lays103 s p w
def Tryz.lays145_ren : Go.Shelf.Ren := ⟨fun | 145 => 279 | 220 => 327 | 219 => 354 | 217 => 363 | 225 => 364 | 224 => 365 | 267 => 366 | 266 => 386 | 314 => 387 | n => n, fun | 9 => 9 | 4 => 4 | 59 => 194 | 3 => 3 | 5 => 5 | 46 => 204 | 146 => 447 | 51 => 327 | n => n, fun | 1 => 1 | n => n⟩
theorem Tryz.lays145 : Go.Proofs.Lays.n145 Tryz.prog Tryz.lays145_ren := {
  mixed := by kernel_rfl
  f145 := Tryz.func279.trans (congrArg some (by kernel_rfl))
  f217 := Tryz.func363.trans (congrArg some (by kernel_rfl))
  f219 := Tryz.func354.trans (congrArg some (by kernel_rfl))
  f220 := Tryz.func327.trans (congrArg some (by kernel_rfl))
  f224 := Tryz.func365.trans (congrArg some (by kernel_rfl))
  f225 := Tryz.func364.trans (congrArg some (by kernel_rfl))
  f266 := Tryz.func386.trans (congrArg some (by kernel_rfl))
  f267 := Tryz.func366.trans (congrArg some (by kernel_rfl))
  f314 := Tryz.func387.trans (congrArg some (by kernel_rfl))
  t3 := Tryz.underlying3
  a3 := Tryz.isAgg3
  z3 := Tryz.sizeOf3
  v3 := Tryz.zeroValue3
  t4 := Tryz.underlying4
  a4 := Tryz.isAgg4
  z4 := Tryz.sizeOf4
  v4 := Tryz.zeroValue4
  t5 := Tryz.underlying5
  a5 := Tryz.isAgg5
  z5 := Tryz.sizeOf5
  v5 := Tryz.zeroValue5
  t9 := Tryz.underlying9
  a9 := Tryz.isAgg9
  z9 := Tryz.sizeOf9
  v9 := Tryz.zeroValue9
  t46 := Tryz.underlying204
  a46 := Tryz.isAgg204
  z46 := Tryz.sizeOf204
  v46 := Tryz.zeroValue204
  t51 := Tryz.underlying327
  a51 := Tryz.isAgg327
  z51 := Tryz.sizeOf327
  v51 := Tryz.zeroValue327
  t59 := Tryz.underlying194
  a59 := Tryz.isAgg194
  z59 := Tryz.sizeOf194
  v59 := Tryz.zeroValue194
  t146 := Tryz.underlying447
  a146 := Tryz.isAgg447
  z146 := Tryz.sizeOf447
  v146 := Tryz.zeroValue447
  g1 := by kernel_rfl }
open Go.RowKit Go.Lib in
theorem Tryz.strings_Cut (s sep : ByteArray) (m : Int) (w : World) (hs : s.size < 4294967281) (hm : w.cell? ⟨1, 0, none⟩ = some (.int .i64 m)) :
    Calls Tryz.prog 279 #[.string s, .string sep] w fun e w' => e = .returned (.tuple #[.string ⟨(Lib.cut s.data.toList sep.data.toList).1.toArray⟩, .string ⟨(Lib.cut s.data.toList sep.data.toList).2.1.toArray⟩, .bool (Lib.cut s.data.toList sep.data.toList).2.2]) ∧ ∃ n, w' = w.drewN n := Any.strings_Cut Tryz.lays145 s sep m w hs hm
def Tryz.lays102_ren : Go.Shelf.Ren := ⟨fun | 102 => 225 | 209 => 277 | 207 => 325 | n => n, fun | 9 => 9 | 4 => 4 | 3 => 3 | n => n, fun | n => n⟩
theorem Tryz.lays102 : Go.Proofs.Lays.n102 Tryz.prog Tryz.lays102_ren := {
  mixed := by kernel_rfl
  f102 := Tryz.func225.trans (congrArg some (by kernel_rfl))
  f207 := Tryz.func325.trans (congrArg some (by kernel_rfl))
  f209 := Tryz.func277.trans (congrArg some (by kernel_rfl))
  t3 := Tryz.underlying3
  a3 := Tryz.isAgg3
  z3 := Tryz.sizeOf3
  v3 := Tryz.zeroValue3
  t4 := Tryz.underlying4
  a4 := Tryz.isAgg4
  z4 := Tryz.sizeOf4
  v4 := Tryz.zeroValue4
  t9 := Tryz.underlying9
  a9 := Tryz.isAgg9
  z9 := Tryz.sizeOf9
  v9 := Tryz.zeroValue9 }
open Go.RowKit Go.Lib in
theorem Tryz.strings_TrimSuffix (s p : ByteArray) (w : World) (hs : s.size ≤ 9223372036854775807) :
    Calls Tryz.prog 225 #[.string s, .string p] w fun e w' => e = .returned (.string ⟨(Lib.trimSuffix s.data.toList p.data.toList).toArray⟩) ∧ w' = w := Any.strings_TrimSuffix Tryz.lays102 s p w hs
def Tryz.lays146_ren : Go.Shelf.Ren := ⟨fun | 146 => 224 | 221 => 276 | 268 => 322 | 138 => 323 | 143 => 324 | 195 => 351 | 197 => 352 | 218 => 353 | 219 => 354 | 260 => 362 | 217 => 363 | 225 => 364 | 224 => 365 | 267 => 366 | 266 => 386 | 314 => 387 | n => n, fun | 9 => 9 | 31 => 56 | 3 => 3 | 4 => 4 | 0 => 0 | 105 => 415 | 21 => 21 | 5 => 5 | 46 => 204 | 119 => 443 | 139 => 446 | 138 => 445 | 146 => 447 | 51 => 327 | n => n, fun | 1 => 1 | 3 => 6 | 4 => 7 | n => n⟩
theorem Tryz.lays146 : Go.Proofs.Lays.n146 Tryz.prog Tryz.lays146_ren := {
  mixed := by kernel_rfl
  f138 := Tryz.func323.trans (congrArg some (by kernel_rfl))
  f143 := Tryz.func324.trans (congrArg some (by kernel_rfl))
  f146 := Tryz.func224.trans (congrArg some (by kernel_rfl))
  f195 := Tryz.func351.trans (congrArg some (by kernel_rfl))
  f197 := Tryz.func352.trans (congrArg some (by kernel_rfl))
  f217 := Tryz.func363.trans (congrArg some (by kernel_rfl))
  f218 := Tryz.func353.trans (congrArg some (by kernel_rfl))
  f219 := Tryz.func354.trans (congrArg some (by kernel_rfl))
  f221 := Tryz.func276.trans (congrArg some (by kernel_rfl))
  f224 := Tryz.func365.trans (congrArg some (by kernel_rfl))
  f225 := Tryz.func364.trans (congrArg some (by kernel_rfl))
  f260 := Tryz.func362.trans (congrArg some (by kernel_rfl))
  f266 := Tryz.func386.trans (congrArg some (by kernel_rfl))
  f267 := Tryz.func366.trans (congrArg some (by kernel_rfl))
  f268 := Tryz.func322.trans (congrArg some (by kernel_rfl))
  f314 := Tryz.func387.trans (congrArg some (by kernel_rfl))
  t0 := Tryz.underlying0
  a0 := Tryz.isAgg0
  z0 := Tryz.sizeOf0
  v0 := Tryz.zeroValue0
  t3 := Tryz.underlying3
  a3 := Tryz.isAgg3
  z3 := Tryz.sizeOf3
  v3 := Tryz.zeroValue3
  t4 := Tryz.underlying4
  a4 := Tryz.isAgg4
  z4 := Tryz.sizeOf4
  v4 := Tryz.zeroValue4
  t5 := Tryz.underlying5
  a5 := Tryz.isAgg5
  z5 := Tryz.sizeOf5
  v5 := Tryz.zeroValue5
  t9 := Tryz.underlying9
  a9 := Tryz.isAgg9
  z9 := Tryz.sizeOf9
  v9 := Tryz.zeroValue9
  t21 := Tryz.underlying21
  a21 := Tryz.isAgg21
  z21 := Tryz.sizeOf21
  v21 := Tryz.zeroValue21
  t31 := Tryz.underlying56
  a31 := Tryz.isAgg56
  z31 := Tryz.sizeOf56
  v31 := Tryz.zeroValue56
  t46 := Tryz.underlying204
  a46 := Tryz.isAgg204
  z46 := Tryz.sizeOf204
  v46 := Tryz.zeroValue204
  t51 := Tryz.underlying327
  a51 := Tryz.isAgg327
  z51 := Tryz.sizeOf327
  v51 := Tryz.zeroValue327
  t105 := Tryz.underlying415
  a105 := Tryz.isAgg415
  z105 := Tryz.sizeOf415
  v105 := Tryz.zeroValue415
  t119 := Tryz.underlying443
  a119 := Tryz.isAgg443
  z119 := Tryz.sizeOf443
  t138 := Tryz.underlying445
  a138 := Tryz.isAgg445
  z138 := Tryz.sizeOf445
  v138 := Tryz.zeroValue445
  t139 := Tryz.underlying446
  a139 := Tryz.isAgg446
  z139 := Tryz.sizeOf446
  v139 := Tryz.zeroValue446
  t146 := Tryz.underlying447
  a146 := Tryz.isAgg447
  z146 := Tryz.sizeOf447
  v146 := Tryz.zeroValue447
  g1 := by kernel_rfl
  g3 := by kernel_rfl
  g4 := by kernel_rfl }
open Go.RowKit Go.Lib in
theorem Tryz.strings_Split (s sep : ByteArray) (m : Int) (w : World) (hs : s.size < 4294967281) (hm : w.cell? ⟨1, 0, none⟩ = some (.int .i64 m)) (h1 : 1 ≤ sep.size) :
    Calls Tryz.prog 224 #[.string s, .string sep] w fun e w' =>
      e = .returned (.slice (some ⟨w.heap.size, 0, none⟩) (Lib.countB s sep + 1) (Lib.countB s sep + 1)) ∧ w' = w.alloc (.cells ((Lib.splitB sep 0 (Lib.countB s sep) s).map Value.string).toArray 9) := Any.strings_Split Tryz.lays146 (by kernel_rfl) s sep m w hs hm h1
end Go.Proofs
namespace Go.Proofs.YtobgbmfpicmpcaaGreatDoor
open Go.Lib (hid)
end Go.Proofs.YtobgbmfpicmpcaaGreatDoor
