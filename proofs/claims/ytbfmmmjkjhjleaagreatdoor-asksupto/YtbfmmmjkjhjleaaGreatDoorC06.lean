/- Mine. -/
import Derived.Test.YtbfmmmjkjhjleaaGreatDoorC04
import Derived.Test.YtbfmmmjkjhjleaaGreatDoorC02
set_option maxRecDepth 100000
set_option maxHeartbeats 0
namespace Go.Proofs.YtbfmmmjkjhjleaaGreatDoor
open Go.Proofs.Tryz
variable {s t u:ByteArray} {W w0:World} {b f a:Nat} {acc:List Tok} {v:Int}
namespace Pure
variable {st:RS}
def iY(st:RS):bm × RS:=(⟨(cI st).1,(fq (-1000000000) 1000000000 (bG cD (cI st).2)).1⟩,(fq (-1000000000) 1000000000 (bG cD (cI st).2)).2)
theorem O0(h:Ok st):Ag (gW st) (iY st):=by
 unfold gW iY
 try simp only
 rcases lK h with ⟨a,b⟩|⟨e,h1⟩
 ·exact ad ⟨et (aF a),iT (aS b)⟩
 ·rw[<-e];rcases dE h1 (s:=cD) (by simp[lits,aC]) with ⟨a,b⟩|⟨c,f⟩
  ·exact ad ⟨et a,iT b⟩
  ·rw[<-c];rcases oN f (-1000000000) 1000000000 with ⟨a,b⟩|⟨d,g⟩
   ·exact ad ⟨a,b⟩
   ·exact a6 ⟨by rw[d],g⟩
theorem yF(l:List bm)(st:RS):tG l st=((iY st).1,(iY st).2.bA (l.any fun x=>jb x.key (iY st).1.key)):=rfl
theorem n9(b:List bm):∀(a pre:List bm),eF pre (a++b)=(eF pre a || eF (pre++a) b):=by
 intro a
 induction a with
 | nil=>intro pre;simp[eF]
 | cons x a ih=>intro pre;simp only[tw,eF,ih];simp[Bool.or_assoc]
theorem GI{α:Type}{one:RS->α × RS}{sep:ByteArray}(n:Nat):∀(out:List α) (st:RS),∃l,(iX one sep n out st).1=out++l:=by
 induction n with
 | zero=>intro out st;exact⟨[],by simp[iX]⟩
 | succ n ih=>
  intro out st;simp only[iX];split
  ·obtain⟨l,a⟩:=ih (out++[(one st).1]) (bz sep (one st).2);exact⟨(one st).1::l,by rw[a];simp⟩
  ·exact⟨[(one st).1],rfl⟩
theorem GD{α:Type}{one:RS->α × RS}{sep:ByteArray}(n:Nat)(out:List α)(st:RS):∃l,(iX one sep (n+1) out st).1=(out++[(one st).1])++l:=by
 simp only[iX];split
 ·exact GI n _ _
 ·exact⟨[],by simp⟩
theorem tN(n:Nat):∀(out:List bm) (st:RS),st.bad=false->eF [] out=false->
  (eu n out st=iX iY aN n out st/\((iX iY aN n out st).2.bad=false->eF [] (iX iY aN n out st).1=false))\/
  ((eu n out st).2.bad=true/\((iX iY aN n out st).2.bad=true\/eF [] (iX iY aN n out st).1=true)):=by
 induction n with
 | zero=>intro out st _ j;exact ad ⟨rfl,fun _=>j⟩
 | succ n ih=>
  intro out st h j;by_cases a:(iY st).2.bad=true
  ·refine ad ⟨?_,fun e=>?_⟩
   ·have g:(iY st).2.bA (out.any fun x=>jb x.key (iY st).1.key)=(iY st).2:=by
     unfold RS.bA;rw[a];cases m:(iY st).2 with
     | mk r b=>rw[m] at a;simp only at a;simp[a]
    simp only[eu,iX,h,yF,g,a];simp
   ·simp only[iX,a] at e;simp[a] at e
  ·have c:(iY st).2.bad=false:=by simpa using a
   by_cases i:(out.any fun x=>jb x.key (iY st).1.key)=true
   ·refine a6 ⟨?_,a6 ?_⟩
    ·simp only[eu,h,yF,i,RS.bA];simp
    ·obtain⟨l,k⟩:=GD (one:=iY) (sep:=aN) n out st;rw[k,n9,n9];simp[eF,i]
   ·have d:(out.any fun x=>jb x.key (iY st).1.key)=false:=by simpa using i
    have g:tG out st=iY st:=by rw[yF,d,dS]
    have f:eF [] (out++[(iY st).1])=false:=by rw[n9,j];simp[eF,d]
    simp only[eu,iX,h,g,c];by_cases hp:aO aN (iY st).2=true
    ·simp only[hp]
     simpa using ih (out++[(iY st).1]) (bz aN (iY st).2) (by rw[yQ];exact c) f
    ·simp only[hp];exact ad ⟨rfl,fun _=>f⟩
theorem ou{st:RS}(h:(dJ (aM bO st)).2.bad=true):(cH st).2.bad=true:=by
 unfold cH;simp only;by_cases hp:aP dC (dJ (aM bO st)).2=true
 ·simp only[hp,if_true];split;rfl;exact aF (aF (vD vj (bh h)))
 ·simp only[hp];simp only[th,if_false,eF];exact aF h
theorem A6{st:RS}(h:(fA (bG bO st)).2.bad=true):(mv st).2.bad=true:=by
 unfold mv;simp only;refine ix (aS ?_);have a:(bz dC (fA (bG bO st)).2).bad=true:=dI h;by_cases hp:aO dC (fA (bG bO st)).2=true
 ·simp only[hp,if_true];refine aS ?_;simp[eu,a]
 ·simp only[hp];exact h
theorem P7(h:Ok st):Ag (cH st) (mv st):=by
 have u:=iC bO st;have o:=pQ (bG bO st);rcases dE h (s:=bO) (by simp[lits,aC]) with ⟨a,b⟩|⟨e,h1⟩
 ·exact ad ⟨ou (fD a),A6 (gS b)⟩
 ·rcases tX h1 with ⟨a,b⟩|⟨p,j⟩
  ·exact ad ⟨ou a,A6 (by rw[<-e];exact b)⟩
  ·unfold cH mv
   try simp only
   rw[<-e] at u o⊢;rw[<-p] at o⊢;rw[dL j (s:=dC) (by simp[lits,aC]),du j (s:=dC) (by simp[lits,aC])];by_cases hp:aO dC (dJ (aM bO st)).2=true
   ·simp only[hp,if_true];have n:=j.has dC;have v:=gz dC (dJ (aM bO st)).2;have t:(bz dC (dJ (aM bO st)).2).rest.length<st.rest.length+1:=by omega
    have g:=Cr (sep:=aN) (by simp[lits,aC]) O0 vj (fun {st} _=>rV st) n t;rcases tN (st.rest.length+1) [] (bz dC (dJ (aM bO st)).2) n.qZ rfl with ⟨m,d⟩|⟨m,d⟩
    ·rw[m];generalize iX iY aN (st.rest.length+1) [] (bz dC (dJ (aM bO st)).2)=L at g d⊢;rcases g with ⟨a,b⟩|⟨i,f⟩
     ·refine ad ⟨?_,?_⟩
      ·split
       ·rfl
       ·exact aF (aF a)
      ·unfold RS.bA at b⊢;simp only[zd] at b⊢;rcases b with b|b
       ·exact ad (aS (aS b))
       ·exact a6 b
     ·have c:=f.qZ;rw[i] at c f;simp only[RS.bA,L5] at c;rw[i];simp only at f⊢;rw[d c.1];have q:L.2.bA (decide (6<L.1.length))=L.2:=by rw[c.2,dS]
      rw[q] at f⊢;rw[c.2];simp only[th,if_false,dS];rcases dE f (s:=iy) (by simp[lits,aC]) with ⟨a,b⟩|⟨e6,r⟩
      ·exact ad ⟨aF a,aS b⟩
      ·rw[<-e6];rcases dE r (s:=bN) (by simp[lits,aC]) with ⟨a,b⟩|⟨k,l⟩
       ·exact ad ⟨a,b⟩
       ·exact a6 ⟨by rw[k],l⟩
    ·refine ad ⟨?_,ix (aS (aS m))⟩;rcases g with ⟨a,b⟩|⟨i,f⟩
     ·split
      ·rfl
      ·exact aF (aF a)
     ·have c:=f.qZ;rw[i] at c;simp only[RS.bA,L5] at c;rw[i];simp only;rcases d with d|d
      ·rw[c.1] at d;cases d
      ·rw[d];rfl
   ·simp only[hp];simp only[th,if_false,eF,yd];rcases dE j (s:=bN) (by simp[lits,aC]) with ⟨a,b⟩|⟨k,l⟩
    ·exact ad ⟨a,ix b⟩
    ·refine a6 ⟨?_,l⟩;rw[k];simp[dS]
end Pure
namespace Pure
variable {st:RS}
theorem Ml(h:Ok st)(k:Int):Ag (jy k st) (qS k st):=by
 unfold jy qS;rw[dL h (s:=eC) (by simp[lits,aC]),du h (s:=eC) (by simp[lits,aC]),h.qZ];by_cases hp:aO eC st=true
 ·simp only[hp,GS,F9,if_true];rcases dE (h.has eC) (s:=L8) (by simp[lits,aC]) with ⟨a,b⟩|⟨e,h1⟩
  ·exact ad ⟨bh (et a),dI (iT b)⟩
  ·rw[<-e];rcases oN h1 1 k with ⟨a,b⟩|⟨d,c⟩
   ·exact ad ⟨bh a,dI b⟩
   ·rw[<-d,dL c (s:=kV) (by simp[lits,aC]),du c (s:=kV) (by simp[lits,aC])];exact a6 ⟨rfl,c.has kV⟩
 ·simp only[hp];exact a6 ⟨rfl,h⟩
theorem II(h:Ok st)(a:s∈lits)(k:Int):Ag (jx s k st) (pV s k st):=by
 unfold jx pV;rw[dL h a,du h a,h.qZ];by_cases hp:aO s st=true
 ·simp only[hp,GS,F9,if_true];exact oN (h.has s) 0 1000000000
 ·simp only[hp];exact a6 ⟨rfl,h⟩
theorem PO(h:Ok st):Ag (fW st) (jE st):=by
 have d:=Cr (sep:=aN) (n:=st.rest.length+1) (by simp[lits,aC]) Oz vS (fun {st} _=>uX st) h (by omega);unfold fW jE
 try simp only
 rw[Ef _ _ _ h.qZ];generalize iX lR aN (st.rest.length+1) [] st=L at d⊢;rcases d with ⟨a,b⟩|⟨g,c⟩
 ·refine ad ⟨jL (jL (sU a)),?_⟩;unfold RS.bA at b⊢;simp only[zd] at b⊢;rcases b with b|b
  ·exact ad (oR (oR (FO b)))
  ·exact a6 b
 ·have f:=c.qZ;rw[g] at f c;simp only[RS.bA,L5] at f;rw[g];have j:L.2.bA (decide (6<L.1.length))=L.2:=by rw[f.2,dS]
  simp only at c⊢;rw[j] at c⊢;rw[f.2];simp only[dS];rcases Ml c L.1.length with ⟨a,b⟩|⟨e,h1⟩
  ·exact ad ⟨jL (jL a),oR (oR b)⟩
  ·rw[<-e];rcases II h1 (s:=iZ) (by simp[lits,aC]) 0 with ⟨a,b⟩|⟨i,k⟩
   ·exact ad ⟨jL a,oR b⟩
   ·rw[<-i];rcases II k (s:=gH) (by simp[lits,aC]) (-1) with ⟨a,b⟩|⟨e6,l⟩
    ·exact ad ⟨a,b⟩
    ·exact a6 ⟨by rw[e6],l⟩
theorem Pq(h:Ok st)(hp:aO aW st=true):Ag (kP (bz aW st)) (By st):=by
 unfold kP By;have e0:bG aW st=bz aW st:=by unfold bG;rw[hp];exact dS _
 rw[e0]
 try simp only
 rcases dE (h.has aW) (s:=bO) (by simp[lits,aC]) with ⟨a,b⟩|⟨e,h1⟩
 ·exact ad ⟨aF (cE (aF (aF (fD (aF (aF (cE a))))))),aS (dM (aS (aS (gS (aS (aS (dM b)))))))⟩
 rw[<-e];rcases lK h1 with ⟨a,b⟩|⟨e,c⟩
 ·exact ad ⟨aF (cE (aF (aF (fD (aF (aF a)))))),aS (dM (aS (aS (gS (aS (aS b))))))⟩
 rw[<-e];rcases dE c (s:=bN) (by simp[lits,aC]) with ⟨a,b⟩|⟨e,d⟩
 ·exact ad ⟨aF (cE (aF (aF (fD (aF a))))),aS (dM (aS (aS (gS (aS b)))))⟩
 rw[<-e];rcases dE d (s:=jI) (by simp[lits,aC]) with ⟨a,b⟩|⟨e,f⟩
 ·exact ad ⟨aF (cE (aF (aF (fD a)))),aS (dM (aS (aS (gS b))))⟩
 rw[<-e];rcases tX f with ⟨a,b⟩|⟨e,g⟩
 ·exact ad ⟨aF (cE (aF (aF a))),aS (dM (aS (aS b)))⟩
 rw[<-e];rcases dE g (s:=dy) (by simp[lits,aC]) with ⟨a,b⟩|⟨e,i⟩
 ·exact ad ⟨aF (cE (aF a)),aS (dM (aS b))⟩
 rw[<-e];rcases dE i (s:=bO) (by simp[lits,aC]) with ⟨a,b⟩|⟨e,j⟩
 ·exact ad ⟨aF (cE a),aS (dM b)⟩
 rw[<-e];rcases lK j with ⟨a,b⟩|⟨e,k⟩
 ·exact ad ⟨aF a,aS b⟩
 rw[<-e];rcases dE k (s:=bN) (by simp[lits,aC]) with ⟨a,b⟩|⟨e,l⟩
 ·exact ad ⟨a,b⟩
 exact a6 ⟨by rw[e],l⟩
theorem RY(h:Ok st):Ag (vR st) (OC st):=by
 unfold vR OC
 try simp only
 rcases IL h with ⟨a,b⟩|⟨e,h1⟩
 ·exact ad ⟨jh (aF a),rI (aS b)⟩
 ·have c:(j9 st).1.1=(cI st).1:=by rw[e]
  have d:(j9 st).1.2=(cI (bG eN (cI st).2)).1:=by rw[e]
  have f:(j9 st).2=(cI (bG eN (cI st).2)).2:=by rw[e]
  rw[<-c,<-d,<-f];rcases dE h1 (s:=ze) (by simp[lits,aC]) with ⟨a,b⟩|⟨g,j⟩
  ·exact ad ⟨jh a,rI b⟩
  ·rw[<-g];rcases BO j with ⟨a,b⟩|⟨i,k⟩
   ·exact ad ⟨a,b⟩
   ·exact a6 ⟨by rw[i],k⟩
theorem Kr(h:Ok st)(q:aI):Ag (dt q st) (df q st):=by
 unfold dt df;simp only[dL h (s:=bH) (by simp[lits,aC]),dL h (s:=fZ) (by simp[lits,aC]),dL h (s:=bR) (by simp[lits,aC]),dL h (s:=aW) (by simp[lits,aC]),du h (s:=bH) (by simp[lits,aC]),du h (s:=fZ) (by simp[lits,aC]),du h (s:=bR) (by simp[lits,aC]),du h (s:=aW) (by simp[lits,aC])];by_cases h1:aO bH st=true
 ·simp only[h1,if_true];rcases PO (h.has bH) with ⟨a,b⟩|⟨e,k⟩
  ·exact ad ⟨a,b⟩
  ·exact a6 ⟨by rw[e],k⟩
 ·simp only[h1];by_cases d:aO fZ st=true
  ·simp only[d,if_true];rcases RY (h.has fZ) with ⟨a,b⟩|⟨e,k⟩
   ·exact ad ⟨a,b⟩
   ·exact a6 ⟨by rw[e];rfl,k⟩
  ·simp only[d];by_cases f:aO bR st=true
   ·simp only[f,if_true];rcases lK (h.has bR) with ⟨a,b⟩|⟨e,k⟩
    ·exact ad ⟨a,b⟩
    ·exact a6 ⟨by rw[e];rfl,k⟩
   ·simp only[f];by_cases c:aO aW st=true
    ·simp only[c,if_true];rcases Pq h c with ⟨a,b⟩|⟨e,k⟩
     ·exact ad ⟨a,b⟩
     ·exact a6 ⟨by rw[e];rfl,k⟩
    ·simp only[c];have g:aO aW st=false:=by simpa using c
     exact ad ⟨rfl,JY (by unfold bG;rw[g];exact pE _)⟩
theorem oz(n:Nat):∀(out:List aK) (st:RS),(dw n out st).2.rest.length<=st.rest.length:=by
 induction n with
 | zero=>intro out st;exact rm _
 | succ n ih=>
  intro out st;simp only[dw];have h1:=Ao st;split
  ·exact rm _
  ·split
   ·have a:=ih (out++(ie st).1) (bz aN (ie st).2);have b:=gz aN (ie st).2;omega
   ·exact h1
def Rj(st:RS):(List aK × List bW) × RS:=(((gd (aM dK st)).1,(fm (gd (aM dK st)).2).1),(fm (gd (aM dK st)).2).2)
theorem Mv(h:Ok st):Ag (Rj st) (fE st):=by
 unfold Rj fE
 try simp only
 have i:=iC dK st;rcases dE h (s:=dK) (by simp[lits,aC]) with ⟨a,b⟩|⟨e,h1⟩
 ·refine ad ⟨pd (FT a),ix ?_⟩;simp[dw,b]
 ·rw[<-e] at i⊢;have c:=MT h1 (n:=st.rest.length+1) (by omega);have j:∀(L:List aK × RS),(bE (dA cV (aM dK st)).2.rest.length [(dA cV (aM dK st)).1] (dA cV (aM dK st)).2)=L->gd (aM dK st)=(L.1,if 6<L.1.length then eh else L.2):=by
   intro L m;unfold gd;rw[m]
  rcases c with ⟨a,b⟩|⟨f,d⟩
  ·refine ad ⟨?_,ix ?_⟩
   ·refine pd ?_;rw[j _ rfl];simp only;split;rfl;exact a
   ·simp[b]
  ·rw[j _ rfl,<-f];generalize bE (dA cV (aM dK st)).2.rest.length [(dA cV (aM dK st)).1] (dA cV (aM dK st)).2=L at f d;have o:L.2.rest.length<=st.rest.length:=by
    rw[f];exact r8 (oz _ _ _) i
   by_cases g:6<L.1.length
   ·simp only[g,if_true,decide_true,Bool.true_or];exact ad ⟨pd rfl,pE _⟩
   ·simp only[g,if_false,decide_false,Bool.false_or];unfold fm;rw[dL d (s:=eD) (by simp[lits,aC]),du d (s:=eD) (by simp[lits,aC]),d.qZ];by_cases hw:aO eD L.2=true
    ·simp only[hw,GS,F9,if_true];have p:=gz eD L.2;have c:=Cr (sep:=oF) (n:=st.rest.length+1) (by simp[lits,aC]) Oi vQ (fun {st} _=>oG st) (d.has eD) (by omega);rw[Ed];rcases c with ⟨a,b⟩|⟨k,l⟩
     ·exact ad ⟨a,b⟩
     ·exact a6 ⟨by rw[k],l⟩
    ·simp only[hw];simp only[Bool.and_false,th,if_false,yd];exact a6 ⟨by simp[dS],d⟩
theorem NX(h:Ok st):Ag (gK st) (iS st):=by
 unfold gK iS;simp only[dL h (s:=fl) (by simp[lits,aC]),dL h (s:=aW) (by simp[lits,aC]),du h (s:=fl) (by simp[lits,aC]),du h (s:=aW) (by simp[lits,aC])];by_cases h1:aO fl st=true
 ·have c:aO aW st=false:=Ak h1 (by decide +kernel);simp only[h1,c,if_true,th,if_false];rcases lK (h.has fl) with ⟨a,b⟩|⟨e,k⟩
  ·exact ad ⟨a,b⟩
  ·exact a6 ⟨by rw[e],k⟩
 ·simp only[h1];by_cases c:aO aW st=true
  ·simp only[c,if_true,th,if_false];rcases P7 (h.has aW) with ⟨a,b⟩|⟨e,k⟩
   ·exact ad ⟨a,b⟩
   ·exact a6 ⟨by rw[e],k⟩
  ·simp only[c,th,if_false];have hm:=Mv h;unfold Rj at hm;rcases hm with ⟨a,b⟩|⟨e,k⟩
   ·refine ad ⟨wA a,?_⟩;rw[b];exact b
   ·have f:(gd (aM dK st)).1=(fE st).1.1:=by rw[<-e]
    have g:(fm (gd (aM dK st)).2).1=(fE st).1.2:=by rw[<-e]
    have d:(fm (gd (aM dK st)).2).2=(fE st).2:=by rw[<-e]
    simp only at k;rw[f,g,d];rw[d] at k;rw[k.qZ];exact Kr k _
structure Shape(q:aI):Prop where
 val:q.kind≠2->q.value.name=e0
 Rl:q.kind=1\/q.kind=5->q.name=e0/\q.dest=e0
 TT:q.kind=1\/q.kind=2\/q.kind=3\/q.kind=4\/q.kind=5\/q.kind=6
theorem shape(st:RS)(h:(iS st).2.bad=false):Shape (iS st).1:=by
 unfold iS at h⊢;split
 ·exact⟨fun _=>rfl,fun _=>⟨rfl,rfl⟩,by simp⟩
 ·rename_i b;rw[bk b] at h;split
  ·exact⟨fun _=>rfl,fun e=>by simp at e,by simp⟩
  ·rename_i c;rw[bk c] at h;simp only at h⊢;split
   ·rename_i a;rw[a8 a] at h;simp only at h;rw[a] at h;cases h
   ·unfold df;split
    ·exact⟨fun _=>rfl,fun _=>⟨rfl,rfl⟩,by simp⟩
    ·split
     ·exact⟨fun e=>by simp at e,fun e=>by simp at e,by simp⟩
     ·split
      ·exact⟨fun _=>rfl,fun e=>by simp at e,by simp⟩
      ·exact⟨fun _=>rfl,fun e=>by simp at e,by simp⟩
theorem qM:e0.toList.isEmpty=true:=by decide +kernel
theorem ND{l:List aK}{a b:ByteArray}(h:jb a b=true):dQ l a=dQ l b:=by
 unfold dQ jb at*;have:a.toList=b.toList:=by simpa using h
 rw[this]
theorem N6{q:aI}(h:Shape q):fF q=kK q:=by
 unfold fF kK lO Co;simp only[List.all_append];by_cases c:q.kind=2
 ·simp only[c];simp only[ne_eq,Int.reduceEq,not_false_eq_true,if_true,not_true_eq_false,decide_false,Bool.false_or,List.all_cons,List.all_nil,Bool.and_true,Int.le_refl,Int.reduceLE,and_self];cases f:q.value.name.toList.isEmpty with
  | true=>simp
  | false=>
   cases he:jb q.value.name q.name with
   | false=>simp
   | true=>
    have d:q.name.toList.isEmpty=false:=by
     have:q.value.name.toList=q.name.toList:=by unfold jb at he;simpa using he
     rw[<-this];exact f
    rw[ND he];simp only[d,Bool.false_or,Bool.or_true,Bool.and_true];cases dQ q.ah q.name<;>simp
 ·rw[h.val c];simp only[qM,Bool.true_or,Bool.and_true,Bool.or_true,ne_eq,c,not_false_eq_true,decide_true];rcases h.TT with k|k|k|k|k|k
  ·obtain⟨a,b⟩:=h.Rl (ad k);rw[a,b];simp[k,qM]
  ·exact absurd k c
  ·simp[k,qM]
  ·simp[k,qM]
  ·obtain⟨a,b⟩:=h.Rl (a6 k);rw[a,b];simp[k,qM]
  ·simp[k]
theorem Ls{c:List Tok}(h:∀t∈c,VT t):iE c=sF c:=by
 unfold iE sF;simp only;rcases NX (st:=⟨c,false⟩) ⟨rfl,h⟩ with ⟨a,b⟩|⟨e,k⟩
 ·simp[a,b]
 ·have d:=shape ⟨c,false⟩ (by rw[<-e];exact k.qZ);rw[<-e,N6 (by rw[e];exact d)]
end Pure
namespace Pure
theorem Lw(a:ByteArray):jb a a=true:=by unfold jb;simp
theorem bQ{a b:Bool}(h:a=true->b=true)(c:b=false):a=false:=by
 cases a
 ·rfl
 ·rw[h rfl] at c;cases c
end Pure
section
open Go.RowKit Go.Sort
theorem clone(t:ByteArray)(w:World)(a:t.size<=281474976710656):Calls prog 41 #[.string t] w fun e w'=>e=.returned (.string t)/\Below w.heap.size w w':=by
 go_enter func41,ntmps41
 go_wp2_with (go_at_call 96;refine(Tryz.stringslite_Clone t _ a).mono ?_;rintro e w' ⟨rfl,b⟩)
 go_ret;exact⟨rfl,b⟩
theorem Jb{w:World}{B n:Nat}{v:Value}{xs:List Value}(h:w.ownsRow B 115 3 v (n+1) xs):∃g cap,v=.slice (some ⟨g,0,none⟩) (n+1) cap:=by
 rcases h.2 with ⟨_,b⟩|⟨g,cap,a,rfl,_⟩
 ·omega
 ·exact⟨g,cap,rfl⟩
theorem sE.grown{g:World}{f a:Int}{d:Value}{o:Obj}{r:Option Nat}(h:sE W b s f a d)(i:(W.alloc o).grownBy g r)(c:r≠some b):sE g b s f a d:=by
 have h1:sE (W.alloc o) b s f a d:=h.old ((r5 _ _).alloc (rm _) o);unfold sE;rw[i.block b h1.lt (fun e=>c e.symm)];exact h1
theorem Inv.E9{k:World}{f a:Int}{j i:Value}{n q:Int}{p:ByteArray}{o:Obj}(r:Below w0.heap.size w0 W)(c:w0.heap.size<=b)(m:sE W b s f a j)
  (d:W.ownsRow w0.heap.size 115 3 j acc.length (dO acc)) (g:k.ownsRow w0.heap.size 115 3 i (acc.length+1) (dO acc++[.int .i64 n,.string p,.int .i64 q])) (l:(W.alloc o).grownBy k j.ownBlock):
  Inv w0 b s f a (acc++[⟨n,p,q⟩]) (k.setCell ⟨b,3,none⟩ i):=by
 have R:=pJ r (rm _) d g l;have h:=m.grown l (m.ne d);exact⟨R.1.setCell c _,c,i,h.OM i,ownsRow_setCell_other R.2 (h.ne R.2) _⟩
theorem add(y A:Int)(hinv:Inv w0 b s (f:Nat) (a:Nat) acc W)(T:s.size<=2000)(N:f<=a)(L:a<=s.size)(M:acc.length<=2000):
  Calls prog 221 #[.pointer (some ⟨b,0,none⟩),.int .i64 y,.int .i64 A] W fun e W'=>e=.returned (.tuple #[])/\Inv w0 b s (f:Nat) (a:Nat) (acc++[⟨y,s.extract f a,A⟩]) W':=by
 obtain⟨i0,hi,v,w,x⟩:=info_parts Tryz.MC;have B:qv (Inv w0 b s (f:Nat) (a:Nat) acc W):=hinv;obtain⟨G,k,m⟩:=hinv.cut;obtain⟨r,c1,c2,C⟩:=k.cells;have P:=cell_regrown r;have Q:=cell_regrown c1;have R:=cell_regrown c2;have F:(s.extract f a).size<=281474976710656:=by rw[de _ _ _ L];omega
 have D:∀d os,Calls prog 41 #[.string (s.extract f a)] (grow (redrawn W d) os) fun e w''=>e=.returned (.string (s.extract f a))/\∃p:Regrown,w''=grow (redrawn W p.d) p.os:=fun d os=>Calls.regrown_of (clone _ _ F);clear hinv k m r c1 c2 C F;go_enter func221,ntmps221
 go_wp2
 refine wp_region_quiet_below (by kernel_rfl) (by kernel_rfl) ?_
 repeat (quiet_step (exact D _ _))
 refine wpQuiet_nil ?_;intro u n;have h:Inv w0 b s (f:Nat) (a:Nat) acc u:=by
  obtain⟨⟨J,z⟩,rfl⟩:=n;exact B.o.old (below_regrown W J z)
 clear n D P Q R B;have j:=h.below;have O:=j.size;have H:qv (Below w0.heap.size w0 u):=j;have l:=h.Qv;obtain⟨G,k,m⟩:=h.cut;have t:qv (sE u b s (f:Nat) (a:Nat) G):=k;obtain⟨r,c1,c2,C⟩:=k.cells;clear j h k r c1 c2;go_wp2_with (at_builtin;refine wpList_append_own _ rfl _ _ 86 rfl w0.heap.size 115 i0 (.agg #[.int .i64 0,.string ⟨#[]⟩,.int .i64 0]) 3 32 underlying86 hi v w x rfl (by decide) _ _ _ rfl (m.alloc _) _ 1 1 [.int .i64 y,.string (s.extract f a),.int .i64 A] rfl rfl nN rN (by unfold maxLen;omega) (by omega) (by simp;omega) ?_;intro U V g c _;have q:=t.o.grown c (t.o.ne m);have I:=q.cells.2.2.2;have K:=q.free 3;obtain⟨S,E,i⟩:=Jb g;subst i)
 go_end0;exact⟨rfl,Inv.E9 H.o l t.o m g c⟩
end
section
open Go.RowKit
theorem JC(hinv:Inv w0 b s (f:Nat) (a:Nat) acc W)(m:s.size<=2000)(i:f<=a)(l:a<=s.size)(k:8<a - f):
  Calls prog 219 #[.pointer (some ⟨b,0,none⟩)] W fun e W'=>e=.returned (.bool false)/\Inv w0 b s (f:Nat) (a:Nat) acc W':=by
 have d:qv (Inv w0 b s (f:Nat) (a:Nat) acc W):=hinv;obtain⟨n,c,j⟩:=hinv.cut;obtain⟨g,c1,c2,h⟩:=c.cells;clear hinv c j g h;go_enter func219,ntmps219
 go_wp2
 go_quiet (fail)
 go_wp2
 go_ret;exact⟨rfl,d.o.drew nq⟩
theorem Fk(hinv:Inv w0 b s (f:Nat) (a:Nat) acc W)(m:s.size<=2000)(d:f<=a)(k:a<=s.size)(c:acc.length<=2000)(n:a - f<=8):
  Calls prog 219 #[.pointer (some ⟨b,0,none⟩)] W fun e W'=>e=.returned (.bool true)/\Inv w0 b s (f:Nat) (a:Nat) (acc++[⟨1,s.extract f a,0⟩]) W':=by
 have h:qv (Inv w0 b s (f:Nat) (a:Nat) acc W):=hinv;obtain⟨p,g,l⟩:=hinv.cut;obtain⟨i,c1,c2,j⟩:=g.cells;clear hinv g l i j;go_enter func219,ntmps219
 go_wp2
 go_quiet (fail)
 go_wp2_with (go_at_call 221;refine(add 1 0 (h.o.drew nq) m d k c).mono ?_;rintro e W' ⟨rfl,h1⟩)
 go_ret;exact⟨rfl,h1⟩
theorem IK(hinv:Inv w0 b s (f:Nat) (a:Nat) acc W)(j:f<=a)(p:a<=s.size)(q:s.extract f a=t)
  (c:∀W,Calls prog 268 #[.string t,.string ⟨#[45]⟩] W fun e w'=>e=.returned (.string u)/\w'=W) (hu:0<u.size) (k:(t.toList==[48])=false) (m:(((u[0]'hu).toNat:Int)==48)=true):
  Calls prog 220 #[.pointer (some ⟨b,0,none⟩)] W fun e W'=>e=.returned (.bool false)/\Inv w0 b s (f:Nat) (a:Nat) acc W':=by
 have g:qv (Inv w0 b s (f:Nat) (a:Nat) acc W):=hinv;obtain⟨r,d,l⟩:=hinv.cut;obtain⟨n,c1,c2,i⟩:=d.cells;have h:qv (∀W,Calls prog 268 #[.string t,.string ⟨#[45]⟩] W fun e w'=>e=.returned (.string u)/\w'=W):=c;clear c;clear hinv d l i;go_enter func220,ntmps220
 go_wp2
 go_quiet (fail)
 go_wp2_with (first|(go_at_call 268;refine(h.o _).mono ?_;rintro e W' ⟨rfl,rfl⟩))
 go_ret;exact⟨rfl,g.o.drew nq⟩
theorem OY(hinv:Inv w0 b s (f:Nat) (a:Nat) acc W)(u:s.size<=2000)(h:f<=a)(p:a<=s.size)(g:acc.length<=2000)(B:s.extract f a=t)
  (q:(t.toList==[48])=true) (i:∀W,Calls prog 269 #[.string t] W fun e w'=>e=.returned (.tuple #[.int .i64 v,.nilIface])/\Below W.heap.size W w') (w:-1000000000<=v) (x:v<=1000000000):
  Calls prog 220 #[.pointer (some ⟨b,0,none⟩)] W fun e W'=>e=.returned (.bool true)/\Inv w0 b s (f:Nat) (a:Nat) (acc++[⟨2,s.extract f a,v⟩]) W':=by
 have l:qv (Inv w0 b s (f:Nat) (a:Nat) acc W):=hinv;obtain⟨C,j,r⟩:=hinv.cut;obtain⟨A,c1,c2,m⟩:=j.cells;have k:qv (∀W,Calls prog 269 #[.string t] W fun e w'=>e=.returned (.tuple #[.int .i64 v,.nilIface])/\Below W.heap.size W w'):=i;clear i;clear hinv j r m;go_enter func220,ntmps220
 go_wp2
 go_quiet (fail)
 go_wp2_with (first|(go_at_call 269;refine(k.o _).mono ?_;rintro e y ⟨rfl,c⟩;have d:=p9 ((l.o.drew nq).old c);clear c)|(go_at_call 221;refine(add 2 v d.o u h p g).mono ?_;rintro e z ⟨rfl,n⟩))
 go_ret;exact⟨rfl,n⟩
theorem Hw(hinv:Inv w0 b s (f:Nat) (a:Nat) acc W)(n:f<=a)(y:a<=s.size)(z:s.extract f a=t)
  (i:∀W,Calls prog 268 #[.string t,.string ⟨#[45]⟩] W fun e w'=>e=.returned (.string u)/\w'=W) (hu:0<u.size) (p:(t.toList==[48])=false) (r:(((u[0]'hu).toNat:Int)==48)=false) (h:∀W,Below w0.heap.size w0 W->Calls prog 269 #[.string t] W fun e w'=>∃N x,e=.returned (.tuple #[.int .i64 x,.iface 383 (.pointer (some ⟨N,0,none⟩))])/\Below W.heap.size W w'):
  Calls prog 220 #[.pointer (some ⟨b,0,none⟩)] W fun e W'=>e=.returned (.bool false)/\Inv w0 b s (f:Nat) (a:Nat) acc W':=by
 have g:qv (Inv w0 b s (f:Nat) (a:Nat) acc W):=hinv;obtain⟨A,j,q⟩:=hinv.cut;obtain⟨w,c1,c2,m⟩:=j.cells;have l:qv (∀W,Calls prog 268 #[.string t,.string ⟨#[45]⟩] W fun e w'=>e=.returned (.string u)/\w'=W):=i;clear i;have k:qv (∀W,Below w0.heap.size w0 W->Calls prog 269 #[.string t] W fun e w'=>∃N x,e=.returned (.tuple #[.int .i64 x,.iface 383 (.pointer (some ⟨N,0,none⟩))])/\Below W.heap.size W w'):=h;clear h;clear hinv j q m;go_enter func220,ntmps220
 go_wp2
 go_quiet (fail)
 go_wp2_with (first|(go_at_call 268;refine(l.o _).mono ?_;rintro e W' ⟨rfl,rfl⟩)|(go_at_call 269;refine(k.o _ (g.o.drew nq).below).mono ?_;rintro e v ⟨N,x,rfl,c⟩;have d:=p9 ((g.o.drew nq).old c);clear c))
 go_ret;exact⟨rfl,d.o⟩
theorem Mq(hinv:Inv w0 b s (f:Nat) (a:Nat) acc W)(n:f<=a)(y:a<=s.size)(z:s.extract f a=t)
  (h:∀W,Calls prog 268 #[.string t,.string ⟨#[45]⟩] W fun e w'=>e=.returned (.string u)/\w'=W) (hu:0<u.size) (p:(t.toList==[48])=false) (r:(((u[0]'hu).toNat:Int)==48)=false) (g:∀W,Calls prog 269 #[.string t] W fun e w'=>e=.returned (.tuple #[.int .i64 v,.nilIface])/\Below W.heap.size W w') (A:v < -1000000000):
  Calls prog 220 #[.pointer (some ⟨b,0,none⟩)] W fun e W'=>e=.returned (.bool false)/\Inv w0 b s (f:Nat) (a:Nat) acc W':=by
 have k:qv (Inv w0 b s (f:Nat) (a:Nat) acc W):=hinv;obtain⟨B,i,q⟩:=hinv.cut;obtain⟨x,c1,c2,m⟩:=i.cells;have l:qv (∀W,Calls prog 268 #[.string t,.string ⟨#[45]⟩] W fun e w'=>e=.returned (.string u)/\w'=W):=h;clear h;have j:qv (∀W,Calls prog 269 #[.string t] W fun e w'=>e=.returned (.tuple #[.int .i64 v,.nilIface])/\Below W.heap.size W w'):=g;clear g;clear hinv i q m;go_enter func220,ntmps220
 go_wp2
 go_quiet (fail)
 go_wp2_with (first|(go_at_call 268;refine(l.o _).mono ?_;rintro e W' ⟨rfl,rfl⟩)|(go_at_call 269;refine(j.o _).mono ?_;rintro e w ⟨rfl,c⟩;have d:=p9 ((k.o.drew nq).old c);clear c))
 go_ret;exact⟨rfl,d.o⟩
theorem LS(hinv:Inv w0 b s (f:Nat) (a:Nat) acc W)(n:f<=a)(y:a<=s.size)(z:s.extract f a=t)
  (h:∀W,Calls prog 268 #[.string t,.string ⟨#[45]⟩] W fun e w'=>e=.returned (.string u)/\w'=W) (hu:0<u.size) (p:(t.toList==[48])=false) (r:(((u[0]'hu).toNat:Int)==48)=false) (g:∀W,Calls prog 269 #[.string t] W fun e w'=>e=.returned (.tuple #[.int .i64 v,.nilIface])/\Below W.heap.size W w') (A:1000000000<v):
  Calls prog 220 #[.pointer (some ⟨b,0,none⟩)] W fun e W'=>e=.returned (.bool false)/\Inv w0 b s (f:Nat) (a:Nat) acc W':=by
 have k:qv (Inv w0 b s (f:Nat) (a:Nat) acc W):=hinv;obtain⟨B,i,q⟩:=hinv.cut;obtain⟨x,c1,c2,m⟩:=i.cells;have l:qv (∀W,Calls prog 268 #[.string t,.string ⟨#[45]⟩] W fun e w'=>e=.returned (.string u)/\w'=W):=h;clear h;have j:qv (∀W,Calls prog 269 #[.string t] W fun e w'=>e=.returned (.tuple #[.int .i64 v,.nilIface])/\Below W.heap.size W w'):=g;clear g;clear hinv i q m;go_enter func220,ntmps220
 go_wp2
 go_quiet (fail)
 go_wp2_with (first|(go_at_call 268;refine(l.o _).mono ?_;rintro e W' ⟨rfl,rfl⟩)|(go_at_call 269;refine(j.o _).mono ?_;rintro e w ⟨rfl,c⟩;have d:=p9 ((k.o.drew nq).old c);clear c))
 go_ret;exact⟨rfl,d.o⟩
theorem Ib(hinv:Inv w0 b s (f:Nat) (a:Nat) acc W)(y:s.size<=2000)(h:f<=a)(r:a<=s.size)(g:acc.length<=2000)(F:s.extract f a=t)
  (j:∀W,Calls prog 268 #[.string t,.string ⟨#[45]⟩] W fun e w'=>e=.returned (.string u)/\w'=W) (hu:0<u.size) (w:(t.toList==[48])=false) (z:(((u[0]'hu).toNat:Int)==48)=false) (i:∀W,Calls prog 269 #[.string t] W fun e w'=>e=.returned (.tuple #[.int .i64 v,.nilIface])/\Below W.heap.size W w') (A:-1000000000<=v) (B:v<=1000000000):
  Calls prog 220 #[.pointer (some ⟨b,0,none⟩)] W fun e W'=>e=.returned (.bool true)/\Inv w0 b s (f:Nat) (a:Nat) (acc++[⟨2,s.extract f a,v⟩]) W':=by
 have m:qv (Inv w0 b s (f:Nat) (a:Nat) acc W):=hinv;obtain⟨G,k,x⟩:=hinv.cut;obtain⟨E,c1,c2,p⟩:=k.cells;have n:qv (∀W,Calls prog 268 #[.string t,.string ⟨#[45]⟩] W fun e w'=>e=.returned (.string u)/\w'=W):=j;clear j;have l:qv (∀W,Calls prog 269 #[.string t] W fun e w'=>e=.returned (.tuple #[.int .i64 v,.nilIface])/\Below W.heap.size W w'):=i;clear i;clear hinv k x p;go_enter func220,ntmps220
 go_wp2
 go_quiet (fail)
 go_wp2_with (first|(go_at_call 268;refine(n.o _).mono ?_;rintro e W' ⟨rfl,rfl⟩)|(go_at_call 269;refine(l.o _).mono ?_;rintro e C ⟨rfl,c⟩;have d:=p9 ((m.o.drew nq).old c);clear c)|(go_at_call 221;refine(add 2 v d.o y h r g).mono ?_;rintro e D ⟨rfl,q⟩))
 go_ret;exact⟨rfl,q⟩
theorem rS(t:ByteArray)(a:0<t.size)(h:bt t 0≠45)(w:World):Calls prog 268 #[.string t,.string ⟨#[45]⟩] w fun e w'=>e=.returned (.string t)/\w'=w:=by
 have:=Tryz.strings_TrimPrefix t ⟨#[45]⟩ w;have e:(⟨(Lib.trimPrefix t.data.toList (⟨#[45]⟩:ByteArray).data.toList).toArray⟩:ByteArray)=t:=by
  obtain⟨c,r,d,b,-,-⟩:=mN a;have f:Lib.trimPrefix t.data.toList [45]=t.data.toList:=by
   unfold Lib.trimPrefix;rw[bk];rw[d];unfold Lib.hasPrefix;intro hp;simp[List.isPrefixOf] at hp;subst hp;apply h;rw[<-b];rfl
  show (⟨(Lib.trimPrefix t.data.toList [45]).toArray⟩:ByteArray)=t;rw[f]
 rw[e] at this;exact this
def oA(t:ByteArray):ByteArray:=⟨(t.data.toList.drop 1).toArray⟩
theorem uP(t:ByteArray):(oA t).size=t.size - 1:=by
 have:(oA t).data.toList.length=(oA t).size:=dd _;rw[<-this];show ((t.data.toList.drop 1).toArray).toList.length=_;rw[List.toList_toArray,x9,dd]
theorem wU(t:ByteArray)(h:1<t.size):bt (oA t) 0=bt t 1:=by
 have h1:0<(oA t).data.toList.length:=by rw[dd,uP];omega
 rw[mr h1,mr (s:=t) (k:=1) (by rw[dd];exact h)];have:(oA t).data.toList=t.data.toList.drop 1:=by
  show ((t.data.toList.drop 1).toArray).toList=_;rw[List.toList_toArray]
 simp only[this,List.getElem_drop]
theorem tF(t:ByteArray)(b:0<t.size)(h:bt t 0=45)(w:World):Calls prog 268 #[.string t,.string ⟨#[45]⟩] w fun e w'=>e=.returned (.string (oA t))/\w'=w:=by
 have:=Tryz.strings_TrimPrefix t ⟨#[45]⟩ w;have e:(⟨(Lib.trimPrefix t.data.toList (⟨#[45]⟩:ByteArray).data.toList).toArray⟩:ByteArray)=oA t:=by
  obtain⟨c,r,d,g,-,-⟩:=mN b;have a:c=45:=UInt8.toNat_inj.1 (by show c.toNat=45;omega);have f:Lib.trimPrefix t.data.toList [45]=t.data.toList.drop 1:=by
   unfold Lib.trimPrefix;rw[a8]
   ·rfl
   ·rw[d,a];unfold Lib.hasPrefix;simp[List.isPrefixOf]
  show (⟨(Lib.trimPrefix t.data.toList [45]).toArray⟩:ByteArray)=_;rw[f];rfl
 rw[e] at this;exact this
theorem yD(t:ByteArray)(v:Int)(a:t.size<=2000)(h:Lib.atoiAll t.data.toList=.ok v)(W:World):Calls prog 269 #[.string t] W fun e w'=>e=.returned (.tuple #[.int .i64 v,.nilIface])/\Below W.heap.size W w':=by
 refine(Tryz.strconv_Atoi_ok t (by omega) v h W).mono ?_;rintro e w' ⟨he,hw|⟨x,hw⟩⟩
 ·subst hw;exact⟨he,r5 _ _⟩
 ·subst hw;exact⟨he,Lib.bytesWorld_below _ _ _⟩
theorem Ax{ev:Value}(c:w0.cell? ⟨7,0,none⟩=some ev)(a:ev=.nilIface\/∃te pe,ev=.iface te pe)(t:ByteArray)(g:t.size<=2000)(h:Lib.atoiAll t.data.toList=.range)(W:World)(d:Below w0.heap.size w0 W):
  Calls prog 269 #[.string t] W fun e w'=>∃N x,e=.returned (.tuple #[.int .i64 x,.iface 383 (.pointer (some ⟨N,0,none⟩))])/\Below W.heap.size W w':=by
 have b:=Lib.lt_of_cell c;refine(Tryz.strconv_Atoi_range t (by omega) h ev W ((d.cell b).trans c) a).mono ?_;rintro e w' ⟨N,he,-,-,f⟩;exact⟨N,_,he,f⟩
theorem EP(t:ByteArray):(t.toList==[48])=true↔t.size=1/\bt t 0=48:=by
 rw[ByteArray.toList_eq];constructor
 ·intro h;have h:t.data.toList=[48]:=by simpa using h
  have f:=dd t;have b:=mr (s:=t) (k:=0) (by rw[h];simp);simp only[h] at b;rw[h] at f;exact⟨by simpa using f.symm,by rw[b];rfl⟩
 ·rintro ⟨h1,i⟩;obtain⟨c,r,g,b,-,j⟩:=mN (s:=t) (by omega);have d:r=[]:=RA (by omega);have a:c=48:=UInt8.toNat_inj.1 (by show c.toNat=48;omega);rw[g,d,a];rfl
theorem nV(h:¬(t.size=1/\bt t 0=48)):(t.toList==[48])=false:=by
 cases a:(t.toList==[48]) with
 | true=>exact absurd ((EP t).1 a) h
 | false=>rfl
theorem D8(hu:0<u.size)(h:bt u 0=48):(((u[0]'hu).toNat:Int)==48)=true:=by rw[bX hu,h];rfl
theorem mV(hu:0<u.size)(h:bt u 0≠48):(((u[0]'hu).toNat:Int)==48)=false:=by rw[bX hu];simpa using h
theorem Ac(hinv:Inv w0 b s (f:Nat) (a:Nat) acc W)(r:s.size<=2000)(l:f<=a)(o:a<=s.size)(k:acc.length<=2000)(q:s.extract f a=t)
  (w:nR t) (c:je t.data.toList=some v):
  Calls prog 220 #[.pointer (some ⟨b,0,none⟩)] W fun e W'=>e=.returned (.bool true)/\Inv w0 b s (f:Nat) (a:Nat) (acc++[⟨2,s.extract f a,v⟩]) W':=by
 have u:t.size<=2000:=by rw[<-q,de _ _ _ o];omega
 rcases w with ⟨j,p⟩|⟨h1,g,p⟩
 ·have x:=p 0 j;by_cases d:(bt t 0=48/\1<t.size)\/1000000000<(fQ 0 t.data.toList:Nat)
  ·rw[mX j (by omega) d] at c;cases c
  ·have m:=lG j (by omega) (by omega) (by omega);rw[m] at c;injection c with c
   have i:Lib.atoiAll t.data.toList=.ok v:=by
    rcases yP j p with h|⟨_,h⟩
    ·rw[h,c]
    ·omega
   by_cases n:t.size=1/\bt t 0=48
   ·exact OY hinv r l o k q ((EP t).2 n) (yD t v u i) (by omega) (by omega)
   ·exact Ib hinv r l o k q (rS t j (by omega)) j (nV n) (mV j (by omega)) (yD t v u i) (by omega) (by omega)
 ·by_cases d:bt t 1=48\/1000000000<(fQ 0 (t.data.toList.drop 1):Nat)
  ·rw[oy h1 g d] at c;cases c
  ·have m:=pz h1 g (by omega) (by omega);rw[m] at c;injection c with c
   have i:Lib.atoiAll t.data.toList=.ok v:=by
    rcases Bv h1 g p with h|⟨_,h⟩
    ·rw[h,c]
    ·omega
   have hu:0<(oA t).size:=by rw[uP];omega
   exact Ib hinv r l o k q (tF t (by omega) g) hu (nV (by omega)) (mV hu (by rw[wU t h1];omega)) (yD t v u i) (by omega) (by omega)
theorem zL{ev:Value}(x:w0.cell? ⟨7,0,none⟩=some ev)(o:ev=.nilIface\/∃te pe,ev=.iface te pe)(hinv:Inv w0 b s (f:Nat) (a:Nat) acc W)(C:s.size<=2000)(d:f<=a)(k:a<=s.size)(l:s.extract f a=t)
  (A:nR t) (r:je t.data.toList=none):
  Calls prog 220 #[.pointer (some ⟨b,0,none⟩)] W fun e W'=>e=.returned (.bool false)/\Inv w0 b s (f:Nat) (a:Nat) acc W':=by
 have u:t.size<=2000:=by rw[<-l,de _ _ _ k];omega
 rcases A with ⟨g,n⟩|⟨h1,i,n⟩
 ·have B:=n 0 g;by_cases q:bt t 0=48/\1<t.size
  ·exact IK hinv d k l (rS t g (by omega)) g (nV (by omega)) (D8 g q.1)
  ·have m:1000000000<(fQ 0 t.data.toList:Nat):=by
    by_cases h:1000000000<(fQ 0 t.data.toList:Nat)
    ·exact h
    ·rw[lG g (by omega) q (by omega)] at r;cases r
   have p:¬(t.size=1/\bt t 0=48):=by
    rintro ⟨v,w⟩;have y:=xx t 0 (fun j _=>n j) (by omega);rw[v,List.drop_zero] at y;have z:dn t 0 1=10*0+(bt t (0+0) - 48):=by simp only[dn]
    rw[Bs,w] at z;have:dn t 0 (1 - 0)=dn t 0 1:=by rfl
    omega
   have c:bt t 0≠48:=by intro h;omega
   rcases yP g n with h|⟨h,_⟩
   ·exact LS hinv d k l (rS t g (by omega)) g (nV p) (mV g c) (yD t _ u h) (by omega)
   ·exact Hw hinv d k l (rS t g (by omega)) g (nV p) (mV g c) (fun W hB=>Ax x o t u h W hB)
 ·have hu:0<(oA t).size:=by rw[uP];omega
  by_cases c:bt t 1=48
  ·exact IK hinv d k l (tF t (by omega) i) hu (nV (by omega)) (D8 hu (by rw[wU t h1];exact c))
  ·have m:1000000000<(fQ 0 (t.data.toList.drop 1):Nat):=by
    by_cases h:1000000000<(fQ 0 (t.data.toList.drop 1):Nat)
    ·exact h
    ·rw[pz h1 i c (by omega)] at r;cases r
   rcases Bv h1 i n with h|⟨h,_⟩
   ·exact Mq hinv d k l (tF t (by omega) i) hu (nV (by omega)) (mV hu (by rw[wU t h1];exact c)) (yD t _ u h) (by omega)
   ·exact Hw hinv d k l (tF t (by omega) i) hu (nV (by omega)) (mV hu (by rw[wU t h1];exact c)) (fun W hB=>Ax x o t u h W hB)
theorem IF{a b:ByteArray}(h:a=b):Ending.returned (.string a)=.returned (.string b):=by rw[h]
theorem zR(s:ByteArray):s.extract 0 0=⟨#[]⟩:=
 CN (by rw[de _ _ _ (tJ _)];rfl) (fun j hj=>by rw[de _ _ _ (tJ _)] at hj;omega)
theorem Gz{m:ByteArray}(h1:m.size<=s.size)(a:((s.extract 0 m.size).toList==m.toList)=true):fits s m:=by
 refine⟨h1,?_⟩;rw[ByteArray.toList_eq,ByteArray.toList_eq] at a;exact ByteArray.ext (Array.toList_inj.1 (by simpa using a))
theorem xU{m:ByteArray}(a:((s.extract 0 m.size).toList==m.toList)=false):¬fits s m:=by
 rintro ⟨-,h⟩;rw[h] at a;simp at a
theorem FQ(w:World)(j:Nat)(a:j<17):(w.alloc (.cells #[Value.string {data:=#[93,45,62]},Value.string {data:=#[45,91]},Value.string {data:=#[46,46]},Value.string {data:=#[60,61]},Value.string {data:=#[62,61]},Value.string {data:=#[60,62]},Value.string {data:=#[40]},Value.string {data:=#[41]},Value.string {data:=#[58]},Value.string {data:=#[44]},Value.string {data:=#[46]},Value.string {data:=#[61]},Value.string {data:=#[60]},Value.string {data:=#[62]},Value.string {data:=#[42]},Value.string {data:=#[123]},Value.string {data:=#[125]}] 9)).cell? ⟨w.heap.size,j,none⟩=some (.string (bj j)):=by
 rcases (show j=0\/j=1\/j=2\/j=3\/j=4\/j=5\/j=6\/j=7\/j=8\/j=9\/j=10\/j=11\/j=12\/j=13\/j=14\/j=15\/j=16 by omega) with rfl|rfl|rfl|rfl|rfl|rfl|rfl|rfl|rfl|rfl|rfl|rfl|rfl|rfl|rfl|rfl|rfl
 all_goals (simp[AL,bj])
theorem OR(s:ByteArray)(w:World):
  Calls prog 49 #[.string s] w fun e w'=>e=.returned (.string (s.extract 0 (aG s 0)))/\Below w.heap.size w w':=by
 go_enter func49,ntmps49
 go_wp2
 go_loopw [4] (fun i wr=>∃k:Nat,k<=17/\i=.int .i64 k/\(∀j,j<17->wr.cell? ⟨w.heap.size,j,none⟩=some (.string (bj j)))/\Below w.heap.size w wr/\∀j,j<k->¬fits s (bj j)) (fun i _=>17 - (intOf i).toNat)
 case atStart=>exact⟨0,by omega,rfl,FQ w,(r5 _ _).alloc (rm _) _,fun j n=>absurd n (by omega)⟩
 case round=>
  obtain⟨k,hk,rfl,r,q,b⟩:=hrel;have f:qv (∀j,j<17->wr.cell? ⟨w.heap.size,j,none⟩=some (.string (bj j))):=r;have c:qv (Below w.heap.size w wr):=q;have h:qv (∀j,j<k->¬fits s (bj j)):=b;clear r q b;by_cases a:k<17
  ·obtain⟨m,hm⟩:∃m,m=bj k:=⟨_,rfl⟩;have u:wr.cell? ⟨w.heap.size,k,none⟩=some (.string m):=by rw[hm];exact f.o k a
   have g:qv (m=bj k):=hm;clear hm;have p:qv (¬fits s m->∀j,j<k+1->¬fits s (bj j)):=by
    intro v j n;by_cases e:j=k
    ·subst e;rw[<-g.o];exact v
    ·exact h.o j (by omega)
   by_cases hle:m.size<=s.size
   ·go_wp2
    go_quiet (fail)
    go_wp2
    ·go_ret;have l:((s.extract 0 m.size).toList==m.toList)=true:=by assumption
     have d:=Gz hle l;rw[g.o] at d;exact⟨IF (by rw[g.o];exact(FX a d h.o).1),below_drewN c.o _⟩
    ·go_roundw
     case rel=>
      have l:((s.extract 0 m.size).toList==m.toList)=false:=by assumption
      exact⟨k+1,by omega,by go_num,f.o,below_drewN c.o _,p.o (xU l)⟩
     case measure=>simp[intOf];omega
   ·have x:decide ((m.size:Int)<=(s.size:Int))=false:=by simpa using hle
    go_wp2
    go_quiet (fail)
    go_wp2
    go_roundw
    case rel=>exact⟨k+1,by omega,by go_num,f.o,below_drewN c.o _,p.o (fun d=>hle d.1)⟩
    case measure=>simp[intOf];omega
  ·have t:qv (aG s 0=0):=KE (fun j n=>h.o j (by omega))
   go_wp2
   go_ret;exact⟨IF (by rw[t.o];exact(zR s).symm),c.o⟩
end
end Go.Proofs.YtbfmmmjkjhjleaaGreatDoor
