/- Mine. -/
import Derived.Test.YtbfmmmjkjhjleaaGreatDoorC26
import Derived.Test.YtbfmmmjkjhjleaaGreatDoorC30
import Derived.Test.YtbfmmmjkjhjleaaGreatDoorC24
import Derived.Test.YtbfmmmjkjhjleaaGreatDoorC28
import Derived.Test.YtbfmmmjkjhjleaaGreatDoorC10
set_option maxRecDepth 100000
set_option maxHeartbeats 0
namespace Go.Proofs.YtbfmmmjkjhjleaaGreatDoor
open Go.Proofs.Tryz
variable {s w:ByteArray} {order:Int} {down:Bool} {W:World}
section
open Go.RowKit
def lU(l:List (Option Int)):bY:=l++List.replicate (6 - l.length) none
theorem zD{l:List (Option Int)}(h:l.length<=6):(lU l).length=6:=by simp[lU];omega
theorem wX(l:List (Option Int))(i:Nat):jm (lU l) i=(l[i]?).getD none:=by
 unfold jm lU;rcases ua i l.length with h|h
 ·rw[Mc h]
 ·rw[F7 h,x7 h,List.getElem?_replicate];split<;>rfl
theorem Ay:∀n,cmpL (List.replicate n none) (List.replicate n none)=0
 | 0=>rfl
 | n+1=>by
  rw[List.replicate_succ];unfold cmpL;rw[a8 (show eB none none=0 from rfl)];exact Ay n
theorem AI:∀(a b p:List (Option Int)),a.length=b.length->cmpL p p=0->mD a b=decide (cmpL (a++p) (b++p)<0)
 | [],[],p,_,hp=>by
  rw[tV,hp]
  rfl
 | [],_::_,_,h,_=>by simp at h
 | _::_,[],_,h,_=>by simp at h
 | x::a,y::b,p,h,hp=>by
  have ih:=AI a b p (by simpa using h) hp;rw[tw,tw];unfold mD cmpL;by_cases e:eB x y=0
  ·rw[uo e,a8 e,ih]
  ·rw[rR e,bk e,Bool.bne_false]
theorem PK{a b:List (Option Int)}(h:a.length=b.length):gG order down a b=decide (kz order down (lU a) (lU b)<0):=by
 have f:mD a b=decide (cmpL (lU a) (lU b)<0):=by
  unfold lU;rw[h];exact AI a b _ h (Ay _)
 unfold gG kz;by_cases d:0<order
 ·rw[a8 d,a8 d,wX,wX];have g:=sS ((a[(order - 1).toNat]?).getD none) ((b[(order - 1).toNat]?).getD none);generalize eB ((a[(order - 1).toNat]?).getD none) ((b[(order - 1).toNat]?).getD none)=c at g;simp only;by_cases e:c=0
  ·subst e;rw[uo rfl,f];cases down<;>simp
  ·rw[rR e];cases down with
   | false=>simp[e]
   | true=>
    simp only[if_true,Bool.bne_true];rw[bk (by omega),Ft];simp;omega
 ·rw[bk d,bk d,f]
theorem zh(s y z:List UInt8)(r:List (List UInt8)):Lib.join (y::z::r) s=y++s++Lib.join (z::r) s:=by simp[Lib.join,List.intercalate]
theorem vO(s:List UInt8)(x:List UInt8):∀(l:List (List UInt8)),Lib.join (l++[x]) s=if l=[] then x else Lib.join l s++s++x
 | []=>by rw[a8 rfl,tV,Lib.join_one]
 | [a]=>by rw[bk (by simp),List.singleton_append,zh,Lib.join_one,Lib.join_one]
 | a::b::l=>by
  have ih:=vO s x (b::l);rw[bk (by simp),tw] at ih;rw[bk (by simp),tw,tw,zh,ih,zh];simp
theorem Ks(o:Option Int):OX o=nz o:=by cases o<;>rfl
theorem Be(l:List (Option Int)):∀n,n<=l.length->(kL l n).data.toList=Lib.join (((l.take n).map nz).map (·.data.toList)) [124]
 | 0,_=>rfl
 | n+1,h=>by
  have ih:=Be l n (by omega);have b:l[n]?=some l[n]:=r6 (by omega);rw[tt,b];simp only[F2,vb,xd,Cf];rw[vO];unfold kL;rw[b,xp,Ks,PP,Array.toList_append];by_cases a:0<n
  ·rw[a8 a,bk (fun e=>by have:=congrArg List.length e;rw[tB,tB,v8,yd] at this;omega),PP,Array.toList_append,ih]
  ·obtain rfl:n=0:=by omega
   rw[bk a,a8 (by simp)];simp[kL]
theorem PT(l:List (Option Int)):sd l=iG l.length (lU l):=by
 have h:=Be l l.length (rm _);unfold sd iG;have e:(lU l).take l.length=l:=by unfold lU;rw[List.take_left'];rfl
 rw[e,<-(show l.take l.length=l from yt),<-h];rw[yt]
end
section
variable {α:Type} (lt:α->α->Bool)
def kR:Nat->List α->List α
 | 0,l=>l
 | k+1,l=>match l[k+1]?,l[k]? with
  | some a,some b=>if lt a b then kR k ((l.set (k+1) b).set k a) else l
  | _,_=>l
def gY(l:List α):Nat->List α
 | 0=>l
 | n+1=>kR lt n (gY l n)
def yC:List α->α->List α
 | [],x=>[x]
 | b::r,x=>if lt x b then b::yC r x else x::b::r
theorem De:∀(r:List α) (x:α) (s:List α),kR lt r.length (r.reverse++x::s)=(yC lt r x).reverse++s
 | [],x,s=>by simp[kR,yC]
 | b::r,x,s=>by
  have e0:(b::r).reverse++x::s=r.reverse++b::x::s:=by simp
  have a:(r.reverse++b::x::s)[r.length+1]?=some x:=by
   rw[F7 (by simp),List.length_reverse,Nat.add_sub_cancel_left]
   rfl
  have c:(r.reverse++b::x::s)[r.length]?=some b:=by
   rw[F7 (by simp),List.length_reverse,F3]
   rfl
  rw[e0,vw];unfold kR yC;rw[a,c];simp only;split
  ·have d:((r.reverse++b::x::s).set (r.length+1) b).set r.length x=r.reverse++x::b::s:=by
    rw[List.set_append_right _ _ (by simp),List.set_append_right _ _ (by simp),List.length_reverse,Nat.add_sub_cancel_left,F3]
    rfl
   rw[d,De r x (b::s)];simp
  ·simp
def vf(l:List α):Nat->List α
 | 0=>[]
 | n+1=>match l[n]? with
  | some x=>yC lt (vf l n) x
  | none=>vf l n
theorem Dz(x:α):∀r:List α,(yC lt r x).length=r.length+1
 | []=>rfl
 | b::r=>by
  unfold yC;split
  ·rw[vw,Dz x r,vw]
  ·rfl
theorem xe(l:List α):∀n,n<=l.length->(vf lt l n).length=n
 | 0,_=>rfl
 | n+1,h=>by
  unfold vf;rw[r6 (by omega)];simp only;rw[Dz,xe l n (by omega)]
theorem rU(l:List α):∀n,n<=l.length->gY lt l n=(vf lt l n).reverse++l.drop n
 | 0,_=>by simp[gY,vf]
 | n+1,h=>by
  unfold gY vf;rw[rU l n (by omega),r6 (by omega),xi (by omega)];simp only;have:=De lt (vf lt l n) (l[n]'(by omega)) (l.drop (n+1))
  rwa [xe lt l n (by omega)] at this
theorem uN(x:α):∀r:List α,(yC lt r x).Perm (x::r)
 | []=>List.Perm.refl _
 | b::r=>by
  unfold yC;split
  ·exact(List.Perm.cons b (uN x r)).trans (List.Perm.swap x b r)
  ·exact List.Perm.refl _
theorem Ba(l:List α):∀n,n<=l.length->(vf lt l n).Perm (l.take n)
 | 0,_=>by simp[vf]
 | n+1,h=>by
  unfold vf;rw[r6 (by omega),tt,r6 (by omega)];simp only;exact(uN lt _ _).trans ((List.Perm.cons _ (Ba l n (by omega))).trans (List.perm_append_singleton _ _).symm)
theorem xK(l:List α):(gY lt l l.length).Perm l:=by
 rw[rU lt l _ (rm _),List.drop_length,x8];have:=Ba lt l l.length (rm _);rw[yt] at this;exact(List.reverse_perm _).trans this
variable {lt}
theorem wt(g:∀a b c,lt b a=false->lt c b=false->lt c a=false)(has:∀a b,lt a b=true->lt b a=false)(x:α):∀r:List α,r.Pairwise (fun a b=>lt a b=false)->(yC lt r x).Pairwise (fun a b=>lt a b=false)
 | [],_=>List.pairwise_singleton _ _
 | b::r,h=>by
  have hc:=List.pairwise_cons.1 h;unfold yC;split
  ·rename_i f;rw[List.pairwise_cons];refine⟨fun y d=>?_,wt g has x r hc.2⟩;rcases List.mem_cons.1 ((uN lt x r).mem_iff.1 d) with rfl|d
   ·exact has _ _ f
   ·exact hc.1 y d
  ·rename_i f;have f:lt x b=false:=by simpa using f
   rw[List.pairwise_cons];refine⟨fun y d=>?_,h⟩;rcases List.mem_cons.1 d with rfl|d
   ·exact f
   ·exact g y b x (hc.1 y d) f
theorem ur(d:∀a b c,lt b a=false->lt c b=false->lt c a=false)(has:∀a b,lt a b=true->lt b a=false)(l:List α):(gY lt l l.length).Pairwise (fun a b=>lt b a=false):=by
 have h:∀n,n<=l.length->(vf lt l n).Pairwise (fun a b=>lt a b=false):=fun n=>by
  induction n with
  | zero=>intro _;exact List.Pairwise.nil
  | succ n ih=>
   intro f;unfold vf;rw[r6 (by omega)];exact wt d has _ _ (ih (by omega))
 rw[rU lt l _ (rm _),List.drop_length,x8,List.pairwise_reverse];exact h _ (rm _)
end
def Sa(a b:bm):Bool:=Op.bytesLess a.key.toList b.key.toList
theorem I4:∀(k:Nat) (l:List bm),pY k l=kR Sa k l
 | 0,_=>rfl
 | k+1,l=>by
  unfold pY kR;cases l[k+1]? with
  | none=>rfl
  | some a=>
   cases l[k]? with
   | none=>rfl
   | some b=>
    simp only;rw[I4 k]
    rfl
theorem CD(l:List bm):∀n,jg l n=gY Sa l n
 | 0=>rfl
 | n+1=>by unfold jg gY;rw[I4,CD l n]
theorem tg(l:List bm):(jg l l.length).Perm l:=by
 rw[CD];exact xK Sa l
section
open Go.RowKit
theorem rP(s:ByteArray):bB s=(bM s==1):=by
 unfold bB bM;cases isWord s with
 | false=>rfl
 | true=>
  by_cases h:97<=bt s 0
  ·simp[h]
  ·cases dU s<;>simp[h]
theorem yI(s:ByteArray):bI s=(bM s==2):=by
 unfold bI bM;cases isWord s with
 | false=>rfl
 | true=>
  by_cases h:97<=bt s 0
  ·have a:¬bt s 0<97:=by omega
   simp[h,a]
  ·have a:bt s 0<97:=by omega
   cases dU s<;>simp[h,a]
theorem jX{l:List UInt8}(h:s.toList=l):s=⟨l.toArray⟩:=by
 rw[ByteArray.toList_eq] at h;cases s
 congr 1
 exact Array.toList_inj.1 (by simpa using h)
theorem xX{c:UInt8}(h:cB s c=false):cA s c=s/\cZ s c=⟨#[]⟩:=by
 unfold cB Lib.cut at h;unfold cA cZ Lib.cut;split at h
 ·cases h
 ·rename_i hi;rw[bk hi];exact⟨rfl,rfl⟩
theorem Ip:bB ⟨#[]⟩=false:=by decide +kernel
theorem Pa(h:s.toList=[100,101,116,97,99,104]):(cA s 32).toList=[100,101,116,97,99,104]/\cB s 32=false:=by
 rw[jX h]
 decide +kernel
def QK(r:dX):bF:=if r.1.toList=[99,97,108,108] then (9,r.2.2,⟨#[]⟩) else if r.1.toList=[100,101,116,97,99,104] then (10,⟨#[]⟩,⟨#[]⟩) else (fH r.1,r.2.1,r.2.2)
theorem uq(s:ByteArray):(fg s).2=(dP s).2/\((fg s).2=true->(dP s).1=QK (fg s).1):=by
 have n:kX s 32=cA s 32:=rfl;have o:kw s 32=cZ s 32:=rfl;have g:kX (cZ s 32) 46=cA (cZ s 32) 46:=rfl;have i:kw (cZ s 32) 46=cZ (cZ s 32) 46:=rfl;unfold dP;rw[n,o,g,i];by_cases f:s.toList=[100,101,116,97,99,104]
 ·obtain⟨h1,a⟩:=Pa f;simp[fg,sV,uS,QK,h1,a,f]
 ·have k:(s.toList==[100,101,116,97,99,104])=false:=by simpa using f
  rw[k];simp only[th,if_false];have l:cB s 32=false->(cA s 32).toList≠[100,101,116,97,99,104]:=fun b e=>f (by rw[(xX b).1] at e;exact e);unfold fg;by_cases h1:sV (cA s 32)=true
  ·have c:=h1;simp only[sV,zd,beq_iff_eq] at c;rcases c with ((((h|h)|h)|h)|h)|h<;>(rw[a8 h1,yI];simp[fH,QK,h])
  ·rw[bk h1];by_cases a:uS (cA s 32)=true
   ·have d:=a;simp only[uS,zd,beq_iff_eq] at d;rw[a8 a];have p:(cB (cZ s 32) 46&&bI (cA (cZ s 32) 46)&&bB (cZ (cZ s 32) 46))=(bM (cA (cZ s 32) 46)==2&&bM (cZ (cZ s 32) 46)==1):=by
     rw[yI,<-rP];cases b:cB (cZ s 32) 46 with
     | true=>rfl
     | false=>rw[(xX b).2,Ip];simp
    rw[p];rcases d with h|h<;>simp[fH,QK,h]
   ·rw[bk a];simp only[sV,zd,beq_iff_eq,not_or] at h1;simp only[uS,zd,beq_iff_eq,not_or] at a;by_cases m:(cA s 32).toList=[99,97,108,108]
    ·rw[rP];simp[fH,QK,m]
    ·by_cases j:(cA s 32).toList=[100,101,116,97,99,104]
     ·have b:cB s 32=true:=by
       cases b:cB s 32 with
       | true=>rfl
       | false=>exact absurd j (l b)
      simp[fH,j,b]
     ·simp[fH,h1,a,m,j]
def D7:ByteArray:=⟨#[109,97,107,101]⟩
def JE:ByteArray:=⟨#[115,101,116]⟩
def Pn(w:ByteArray):Prop:=w=Aa\/w=qJ\/w=D7\/w=JE
def mq(a:kj)(b:ByteArray × (bF->Bool)):Prop:=a.1=b.1/\∀w t k,Pn w->b.2 (fH w,t,k)=jo a.2 (w,t,k)
theorem tU:fH Aa=1/\fH qJ=3/\fH D7=4/\fH JE=5:=by decide +kernel
theorem Eh(h:Pn w):w.toList=[115,101,101]\/w.toList=[114,101,97,100]\/w.toList=[109,97,107,101]\/w.toList=[115,101,116]:=by
 rcases h with rfl|rfl|rfl|rfl
 ·exact ad (by decide +kernel)
 ·exact a6 (ad (by decide +kernel))
 ·exact a6 (a6 (ad (by decide +kernel)))
 ·exact a6 (a6 (a6 (by decide +kernel)))
theorem xB(h:(fg s).2=true):(fg s).1.1=cA s 32/\(sV (cA s 32)=true\/uS (cA s 32)=true\/(cA s 32).toList=[99,97,108,108]\/(cA s 32).toList=[100,101,116,97,99,104]):=by
 unfold fg at h⊢;split at h
 ·rename_i h1;rw[a8 h1];exact⟨rfl,ad h1⟩
 ·rename_i h1;rw[bk h1];split at h
  ·rename_i a;rw[a8 a];exact⟨rfl,a6 (ad a)⟩
  ·rename_i a;rw[bk a];split at h
   ·rename_i b;rw[a8 b];exact⟨rfl,a6 (a6 (ad (by simpa using b)))⟩
   ·rename_i b;rw[bk b];split at h
    ·rename_i c;rw[a8 c];exact⟨rfl,a6 (a6 (a6 (by simpa using c)))⟩
    ·cases h
theorem N8{v:ByteArray}(hw:Pn w)(a:sV v=true\/uS v=true\/v.toList=[99,97,108,108]\/v.toList=[100,101,116,97,99,104]):fH w=fH v->w.toList=v.toList:=by
 simp only[sV,uS,zd,beq_iff_eq] at a;have hw:=Eh hw;intro he;rcases hw with h|h|h|h<;>rcases a with ((((((a|a)|a)|a)|a)|a)|(a|a)|a|a)<;>simp[fH,h,a] at he⊢
theorem Qu{t k:ByteArray}(hw:Pn w)(h:(fg s).2=true):decide ((fH w,t,k)=(dP s).1)=decide ((fg s).1=(w,t,k)):=by
 rw[(uq s).2 h];obtain⟨h1,f⟩:=xB h;have c:=Eh hw;rw[decide_eq_decide];constructor
 ·intro he;unfold QK at he;split at he
  ·injection he with he
   exfalso;rcases c with h|h|h|h<;>simp[fH,h] at he
  ·split at he
   ·injection he with he
    exfalso;rcases c with h|h|h|h<;>simp[fH,h] at he
   ·injection he with b a
    injection a with a d
    rw[h1] at b;have:=N8 hw f b;have e:w=cA s 32:=(jX this).trans (jX rfl).symm;rw[e,a,d,<-h1]
 ·intro he;rw[he];unfold QK;rw[bk (by rcases c with h|h|h|h<;>simp[h]),bk (by rcases c with h|h|h|h<;>simp[h])]
theorem mq.add{a:kj}{b:ByteArray × (bF->Bool)}(h:mq a b)(c:(fg s).2=true):mq (a.1,a.2++[(fg s).1]) (b.1,pZ b.2 (dP s).1):=by
 refine⟨h.1,fun w t k hw=>?_⟩;show (b.2 (fH w,t,k) || decide ((fH w,t,k)=(dP s).1))=jo (a.2++[(fg s).1]) (w,t,k);unfold jo;rw[List.any_append,Qu hw c,h.2 w t k hw];simp[jo]
def lA(l:List kj)(p:wF):Prop:=l.length=p.length/\∀(i:Nat) (h1:i<l.length) (h2:i<p.length),mq l[i] p[i]
theorem lA.snoc{l:List kj}{p:wF}{a:kj}{b:ByteArray × (bF->Bool)}(h:lA l p)(c:mq a b):lA (l++[a]) (p++[b]):=by
 refine⟨by simp[h.1],fun i h1 h2=>?_⟩;rcases ua i l.length with hi|hi
 ·rw[F5 hi,F5 (by rw[<-h.1];exact hi)];exact h.2 i hi _
 ·obtain rfl:i=l.length:=by simp at h1;omega
  rw[GX (rm _),GX (by rw[h.1];exact rm _)]
  simpa [h.1] using c
theorem lA.split{l:List kj}{p:wF}(h:lA l p)(c:l≠[]):∃l0 a p0 b,l=l0++[a]/\p=p0++[b]/\lA l0 p0/\mq a b:=by
 obtain⟨l0,a,rfl⟩:∃l0 a,l=l0++[a]:=⟨l.dropLast,l.getLast c,(List.dropLast_concat_getLast c).symm⟩;have hp:p≠[]:=fun e=>by have:=h.1;rw[e] at this;simp at this
 obtain⟨p0,b,rfl⟩:∃p0 b,p=p0++[b]:=⟨p.dropLast,p.getLast hp,(List.dropLast_concat_getLast hp).symm⟩;have hlen:l0.length=p0.length:=by have:=h.1;simpa using this
 refine⟨l0,a,p0,b,rfl,rfl,⟨hlen,fun i h1 h2=>?_⟩,?_⟩
 ·have:=h.2 i (by simp;omega) (by simp;omega)
  rwa [F5 h1,F5 h2] at this
 ·have:=h.2 l0.length (by simp) (by simp[hlen]);rw[GX (rm _),GX (by omega)] at this
  simpa [hlen] using this
theorem zu(h:vq s=true):(cA s 32).toList=[114,111,108,101]/\iH s=cZ s 32:=by
 obtain⟨r,d⟩:=List.isPrefixOf_iff_prefix.1 (show [114,111,108,101,32].isPrefixOf s.data.toList=true from h);obtain⟨⟨l⟩⟩:=s;have b:l=[114,111,108,101,32]++r:=d.symm;subst b;have a:=Il (s:=⟨([114,111,108,101,32]++r).toArray⟩) (c:=32) (i:=4) (by show 4<([114,111,108,101,32]++r).toArray.size;simp) rfl (fun j h hj=>by
  match j,hj with
  | 0,_=>show (114:UInt8)≠32;decide
  | 1,_=>show (111:UInt8)≠32;decide
  | 2,_=>show (108:UInt8)≠32;decide
  | 3,_=>show (101:UInt8)≠32;decide)
 constructor
 ·rw[a.1,ByteArray.toList_eq,Lib.extract_from_zero]
  rfl
 ·unfold iH Lib.trimPrefix;rw[a8 (show Lib.hasPrefix _ _=true from h),a.2.1];exact(jX (by rw[ByteArray.toList_eq,Lib.extract_to_end];rfl)).symm
theorem Lu(h:(cA s 32).toList=[114,111,108,101])(c:cB s 32=true):vq s=true:=by
 unfold cB Lib.cut at c;split at c
 ·rename_i hi;unfold cA Lib.cut at h;rw[a8 hi,ByteArray.toList_eq] at h;rcases Lib.index_spec s.data.toList [32] with ⟨h1,_⟩|⟨i,h1,g,a,_⟩
  ·omega
  ·rw[h1] at h;have h:s.data.toList.take i=[114,111,108,101]:=by simpa using h
   have b:i<s.data.toList.length:=by
    rcases ua i s.data.toList.length with d|d
    ·exact d
    ·unfold Lib.occAt at a;rw[BS d] at a;cases a
   have f:s.data.toList[i]=32:=by
    unfold Lib.occAt at a;rw[xi b] at a;simp only[List.isPrefixOf,Bool.and_true,beq_iff_eq] at a;exact a.symm
   refine List.isPrefixOf_iff_prefix.2 ⟨s.data.toList.drop (i+1),?_⟩
   conv=>rhs;rw[<-Mp i s.data.toList,h,xi b,f]
   rfl
 ·cases c
theorem BX(h:(cA s 32).toList=[114,111,108,101]):(fg s).2=false:=by
 cases a:(fg s).2 with
 | false=>rfl
 | true=>
  have:=(xB a).2;simp[sV,uS,h] at this
theorem Mw{l:List kj}{p:wF}(h:lA l p)(s:ByteArray):(lT l s=none/\kg p s=none)\/∃l' p',lT l s=some l'/\kg p s=some p'/\lA l' p':=by
 have j:(p.find? (fun x=>x.1.toList==(cZ s 32).toList)).isNone=true↔∀x∈l,¬x.1=cZ s 32:=by
  rw[Option.isNone_iff_eq_none,List.find?_eq_none];constructor
  ·intro m x v e;obtain⟨i,hi,rfl⟩:=zc v;have f:i<p.length:=by rw[<-h.1];exact hi
   have:=m p[i] (sT f);rw[<-(h.2 i hi f).1,e] at this;simp at this
  ·intro m x v e;obtain⟨i,hi,rfl⟩:=zc v;have f:i<l.length:=by rw[h.1];exact hi
   refine m l[i] (sT f) ?_;rw[(h.2 i f hi).1];exact(jX (by simpa using e)).trans (jX rfl).symm
 have g:i7 p s=false->(dP s).2=false->kg p s=none:=fun h1 h2=>by
  unfold kg;rw[h1];simp only[th,if_false];cases p.getLast? with
  | none=>rfl
  | some y=>simp[h2]
 unfold lT;by_cases o:(cA s 32).toList=[114,111,108,101]
 ·rw[a8 (by simpa using o)];have u:(dP s).2=false:=by rw[<-(uq s).1];exact BX o
  by_cases c:bB (cZ s 32)=true/\(∀x∈l,¬x.1=cZ s 32)/\¬l.length=6
  ·have r:cB s 32=true:=by
    cases r:cB s 32 with
    | true=>rfl
    | false=>rw[(xX r).2,Ip] at c;exact absurd c.1 (by simp)
   have hi:=Lu o r;have m:=(zu hi).2;have d:i7 p s=true:=by
    unfold i7;rw[hi,m,<-rP,c.1,<-h.1,j.2 c.2.1];simp[c.2.2]
   refine a6 ⟨l++[(cZ s 32,[])],p++[(iH s,TO)],by rw[a8 c],by unfold kg;rw[a8 d],h.snoc ⟨m.symm,fun w t k _=>rfl⟩⟩
  ·refine ad ⟨by rw[bk c],g ?_ u⟩;cases d:i7 p s with
   | false=>rfl
   | true=>
    unfold i7 at d;simp only[wa] at d;have m:=(zu d.1.1.1).2;rw[m] at d;refine absurd ⟨by rw[rP];exact d.1.1.2,j.1 d.2,?_⟩ c;have:=d.1.2;rw[<-h.1] at this
    simpa using this
 ·rw[bk (by simpa using o)];have n:i7 p s=false:=by
   cases d:i7 p s with
   | false=>rfl
   | true=>
    unfold i7 at d;simp only[wa] at d;exact absurd (zu d.1.1.1).1 o
  by_cases c:(fg s).2=true/\l≠[]
  ·rw[a8 c];obtain⟨B,a,A,b,rfl,rfl,z,q⟩:=h.split c.2;refine a6 ⟨_,A++[(b.1,pZ b.2 (dP s).1)],rfl,?_,?_⟩
   ·unfold kg;rw[n];simp[<-(uq s).1,c.1]
   ·unfold Ke;rw[List.getLast?_concat];simp only[List.dropLast_concat];exact z.snoc (q.add c.1)
  ·rw[bk c];refine ad ⟨rfl,?_⟩;by_cases h1:(fg s).2=true
   ·have d:l=[]:=Classical.byContradiction fun e=>c ⟨h1,e⟩;have hp:p=[]:=RA (by rw[<-h.1,d];rfl);unfold kg;rw[n,hp]
    rfl
   ·exact g n (by rw[<-(uq s).1];simpa using h1)
theorem DB:∀(xs:List ByteArray) {l:List kj} {p:wF},lA l p->(xs.foldlM lT l=none/\xs.foldlM kg p=none)\/∃l' p',xs.foldlM lT l=some l'/\xs.foldlM kg p=some p'/\lA l' p'
 | [],l,p,h=>a6 ⟨l,p,rfl,rfl,h⟩
 | s::xs,l,p,h=>by
  rw[List.foldlM_cons,List.foldlM_cons];rcases Mw h s with ⟨h1,h2⟩|⟨l',p',h1,h2,h3⟩
  ·rw[h1,h2];exact ad ⟨rfl,rfl⟩
  ·rw[h1,h2];exact DB xs h3
theorem Ij(s:ByteArray):(oD s=none/\gN s=none)\/∃l p,oD s=some l/\gN s=some p/\lA l p:=by
 unfold oD gN;rw[NC];split
 ·exact DB _ ⟨rfl,fun i h1 _=>absurd h1 (by simp)⟩
 ·exact ad ⟨rfl,rfl⟩
open Go.Maps Go.Sort
theorem Al(a b:Option Int)(W:World):Calls prog 134 #[.agg (eS a),.agg (eS b)] W fun e W'=>e=.returned (.int .i64 (eB a b))/\Grown W W':=by
 have d:=p9 ((Grown.refl W).alloc (.cells (eS a) 161));have c:=p9 (d.o.alloc (.cells (eS b) 161));cases a<;>cases b<;>unfold eS at c⊢
 all_goals
  go_enter func134,ntmps134
  go_wp2_with (go_at_call 190;refine(Tryz.cmp_Compare_int _ _ _).mono ?_;rintro e f ⟨rfl,hw⟩;obtain rfl:=hw.symm)
  go_ret;exact⟨rfl,c.o⟩
theorem vI{X Y:Nat}{a b:bY}(E:Loc W X (fM a) 163)(F:Loc W Y (fM b) 163)(H:a.length=6)(lb:b.length=6):
  Calls prog 135 #[.slice (some ⟨X,0,none⟩) 6 6,.slice (some ⟨Y,0,none⟩) 6 6,.func (.func 134) #[] #[]] W fun e W'=>e=.returned (.int .i64 (cmpL a b))/\Grown W W':=by
 have I:=p9 E;have J:=p9 F;have m:=p9 H;have v:=p9 lb;clear E F H lb;go_enter func135,ntmps135
 go_wp2_with fail;go_loopg [13] 6 (fun c iv w=>∃k:Nat,iv=.int .i64 (k:Int)/\k+c=6/\cmpL a b=cmpL (a.drop k) (b.drop k)/\Grown W w)
 case atStart=>exact⟨0,rfl,by omega,by simp,Grown.refl _⟩
 case round=>
  obtain⟨k,rfl,hk,G,q⟩:=hrel;have u:=p9 G;have r:=p9 q;clear G q;by_cases d:k<6
  ·have C:(k:Int)<6:=by omega
   have g:=I.o.grown (ag r.o.below none) (by simp);have h:=J.o.grown (ag r.o.below none) (by simp);have z:=p9 (uO m.o v.o d);obtain⟨x,s⟩:∃x,jm a k=x:=⟨_,rfl⟩;obtain⟨y,t⟩:∃y,jm b k=y:=⟨_,rfl⟩;have x0:wr.cell? ⟨X,k*2,none⟩=some (.bool x.isSome):=(g.cell (k*2)).trans ((jR d).1.trans (by rw[<-s];rfl));have x1:wr.cell? ⟨X,k*2+1,none⟩=some (.int .i64 (x.getD 0)):=(g.cell (k*2+1)).trans ((jR d).2.trans (by rw[<-s];rfl));have M:(wr.alloc (.cells #[.bool x.isSome,.int .i64 (x.getD 0)] 161)).cell? ⟨Y,k*2,none⟩=some (.bool y.isSome):=((h.alloc (.cells #[.bool x.isSome,.int .i64 (x.getD 0)] 161)).cell (k*2)).trans ((jR d).1.trans (by rw[<-t];rfl));have N:(wr.alloc (.cells #[.bool x.isSome,.int .i64 (x.getD 0)] 161)).cell? ⟨Y,k*2+1,none⟩=some (.int .i64 (y.getD 0)):=((h.alloc (.cells #[.bool x.isSome,.int .i64 (x.getD 0)] 161)).cell (k*2+1)).trans ((jR d).2.trans (by rw[<-t];rfl));rw[s,t] at z;have A:=p9 (r.o.alloc (.cells #[.bool x.isSome,.int .i64 (x.getD 0)] 161));have B:=p9 (A.o.alloc (.cells #[.bool y.isSome,.int .i64 (y.getD 0)] 161));have l:=p9 (fun w=>Al x y w);rw[ko,ko] at l;clear g h s t;go_wp2_with fail;refine(l.o _).mono ?_;rintro e O ⟨rfl,p⟩;have n:=p9 (B.o.trans p);clear p x0 x1 M N;have f:=sS x y;by_cases j:eB x y=0
   ·have i:qv (cmpL a b=cmpL (a.drop (k+1)) (b.drop (k+1))):=p9 (by rw[u.o,z.o,a8 j]);rw[j];clear j f;go_wp2_with fail;go_roundg (gk - 1)
    case rel=>exact⟨k+1,by simp,by omega,i.o,n.o⟩
    case measure=>omega
   ·have i:qv (cmpL a b=eB x y):=p9 (by rw[u.o,z.o,bk j]);have D:(eB x y != 0)=true:=by simpa using j
    generalize eB x y=c at i f D⊢;clear j;obtain⟨K,L⟩:=f;go_wp2_with fail;go_ret;exact⟨by rw[i.o];rfl,n.o⟩
  ·have C:¬(k:Int)<6:=by omega
   have i:qv (cmpL a b=0):=p9 (by rw[u.o,LY (by have:=m.o;omega)];rfl);go_wp2_with fail;go_ret;exact⟨by rw[i.o];rfl,r.o⟩
theorem Jc{a b:bY}{cs:Array Value}(la:a.length=6)(lb:b.length=6)(V:cs[4]?=some (.int .i64 order))(h5:cs[5]?=some (.bool down))(ho:0<=order/\order<=6):
  Calls prog 86 #[.agg (fM a),.agg (fM b),.agg cs] W fun e W'=>e=.returned (.int .i64 (kz order down a b))/\Grown W W':=by
 have J:=(Grown.refl W).alloc (.cells (fM a) 163);have K:=J.alloc (.cells (fM b) 163);have m:=p9 (K.alloc (.cells cs 49));have s:=p9 (((Loc.new W (fM a) 163).alloc (.cells (fM b) 163)).alloc (.cells cs 49));have k:=p9 ((Loc.new (W.alloc (.cells (fM a) 163)) (fM b) 163).alloc (.cells cs 49));have C:=p9 (Loc.new ((W.alloc (.cells (fM a) 163)).alloc (.cells (fM b) 163)) cs 49);have O:=p9 V;have P:=p9 h5;have A:=p9 la;have B:=p9 lb;clear J K V h5 la lb;go_enter func86,ntmps86
 go_upto_region 1 with fail;rw[z6] at k C;rw[z6] at C;obtain⟨X,hX⟩:∃X,X=W.heap.size:=⟨_,rfl⟩;obtain⟨Y,hY⟩:∃Y,Y=W.heap.size+1:=⟨_,rfl⟩;obtain⟨Z,hZ⟩:∃Z,Z=W.heap.size+1+1:=⟨_,rfl⟩;rw[<-hZ] at C⊢;rw[<-hY] at k⊢;rw[<-hX] at s⊢;clear hX hY hZ;generalize ((W.alloc (.cells (fM a) 163)).alloc (.cells (fM b) 163)).alloc (.cells cs 49)=g at m s k C⊢;have T:g.cell? ⟨Z,4,none⟩=some (.int .i64 order):=(C.o.cell 4).trans O.o;by_cases v:0<order
 ·obtain⟨n,rfl⟩:∃n:Nat,order=(n:Int)+1:=⟨(order - 1).toNat,by omega⟩;have u:n<6:=by omega
  have A2:(n:Int)<6:=by omega
  have R:IntKind.i64.wrap (n:Int)=(n:Int):=by simp[IntKind.wrap,IntKind.bits,IntKind.signed];omega
  obtain⟨x,L⟩:∃x,jm a n=x:=⟨_,rfl⟩;obtain⟨y,M⟩:∃y,jm b n=y:=⟨_,rfl⟩;have j:qv (∀d,kz ((n:Int)+1) d a b=if (if d then -(eB x y) else eB x y)=0 then cmpL a b else (if d then -(eB x y) else eB x y)):=p9 (by
   intro d;unfold kz;rw[a8 v,show ((n:Int)+1 - 1).toNat=n by omega,L,M])
  have x0:=cell_grown (w:=g) (a:=⟨X,n*2,none⟩) s.o.lt ((s.o.cell (n*2)).trans ((jR u).1.trans (by rw[<-L];rfl):(fM a)[n*2]?=some (.bool x.isSome)));have x1:=cell_grown (w:=g) (a:=⟨X,n*2+1,none⟩) s.o.lt ((s.o.cell (n*2+1)).trans ((jR u).2.trans (by rw[<-L];rfl):(fM a)[n*2+1]?=some (.int .i64 (x.getD 0))));have y0:=cell_grown (w:=g) (a:=⟨Y,n*2,none⟩) k.o.lt ((k.o.cell (n*2)).trans ((jR u).1.trans (by rw[<-M];rfl):(fM b)[n*2]?=some (.bool y.isSome)));have y1:=cell_grown (w:=g) (a:=⟨Y,n*2+1,none⟩) k.o.lt ((k.o.cell (n*2+1)).trans ((jR u).2.trans (by rw[<-M];rfl):(fM b)[n*2+1]?=some (.int .i64 (y.getD 0))));have r4:=cell_grown (block_lt_of_cell T) T;have z:=p9 (fun w=>Al x y w);rw[ko,ko] at z;have U:qv (∀d os,Calls prog 134 #[.agg #[.bool x.isSome,.int .i64 (x.getD 0)],.agg #[.bool y.isSome,.int .i64 (y.getD 0)]] (grow (g.drewN d) os) fun e w''=>e=.returned (.int .i64 (eB x y))/\∃p:GrownBy,w''=grow (g.drewN p.n) p.os):=p9 fun d os=>Calls.grown_of (z.o _);clear L M;go_upto_region 2 with fail;refine wp_region_quiet_grown (by kernel_rfl) (by kernel_rfl) ?_
  iterate 10 (quiet_step (fail))
  quiet_step (exact U.o _ _)
  quiet_step (fail)
  refine wpQuiet_nil ?_;intro l hw;have F:Grown g l:=(by obtain⟨⟨E,f⟩,rfl⟩:=hw;exact⟨E,f,rfl⟩);have t:=F.below;have q:=p9 (m.o.trans F);have G:=p9 (s.o.grown (ag t none) (by simp));have H:=p9 (k.o.grown (ag t none) (by simp));have Q:=p9 (C.o.grown (ag t none) (by simp));clear F t hw x0 x1 y0 y1 r4 T R U z m s k C;have q5:l.cell? ⟨Z,5,none⟩=some (.bool down):=(Q.o.cell 5).trans P.o;have D:=p9 (sS x y);obtain⟨c,hc⟩:∃c,eB x y=c:=⟨_,rfl⟩;rw[hc] at j D⊢;clear hc;have A0:=D.o.1;have A1:=D.o.2;cases down with
  | true=>
   by_cases N:c=0
   ·subst N;have r:qv (kz ((n:Int)+1) true a b=cmpL a b):=p9 (by rw[j.o];rfl);have i:qv (∀d os,Calls prog 135 #[.slice (some ⟨X,0,none⟩) 6 6,.slice (some ⟨Y,0,none⟩) 6 6,.func (.func 134) #[] #[]] (grow (l.drewN d) os) fun e w''=>e=.returned (.int .i64 (cmpL a b))/\∃p:GrownBy,w''=grow (l.drewN p.n) p.os):=p9 fun d os=>Calls.grown_of (vI (G.o.grown (ag (Grown.below (W:=l) ⟨d,os,rfl⟩) none) (by simp)) (H.o.grown (ag (Grown.below (W:=l) ⟨d,os,rfl⟩) none) (by simp)) A.o B.o);go_upto_region 7 with fail;refine wp_region_quiet_grown (by kernel_rfl) (by kernel_rfl) ?_
    iterate 2 (quiet_step (fail))
    quiet_step (exact i.o _ _)
    quiet_step (fail)
    refine wpQuiet_nil ?_;intro I hw;have h:qv (Grown W I):=p9 (by obtain⟨⟨E,f⟩,rfl⟩:=hw;exact q.o.trans ⟨E,f,rfl⟩);clear hw;go_wp2_with fail;go_ret;exact⟨by rw[r.o];rfl,h.o⟩
   ·have S:(-c != 0)=true:=by simp;omega
    have r:qv (kz ((n:Int)+1) true a b=-c):=p9 (by rw[j.o];simp only[if_true];rw[bk (by omega)]);go_wp2_with fail;go_ret;exact⟨by rw[r.o];rfl,q.o⟩
  | false=>
   by_cases N:c=0
   ·subst N;have r:qv (kz ((n:Int)+1) false a b=cmpL a b):=p9 (by rw[j.o];rfl);have i:qv (∀d os,Calls prog 135 #[.slice (some ⟨X,0,none⟩) 6 6,.slice (some ⟨Y,0,none⟩) 6 6,.func (.func 134) #[] #[]] (grow (l.drewN d) os) fun e w''=>e=.returned (.int .i64 (cmpL a b))/\∃p:GrownBy,w''=grow (l.drewN p.n) p.os):=p9 fun d os=>Calls.grown_of (vI (G.o.grown (ag (Grown.below (W:=l) ⟨d,os,rfl⟩) none) (by simp)) (H.o.grown (ag (Grown.below (W:=l) ⟨d,os,rfl⟩) none) (by simp)) A.o B.o);go_upto_region 7 with fail;refine wp_region_quiet_grown (by kernel_rfl) (by kernel_rfl) ?_
    iterate 2 (quiet_step (fail))
    quiet_step (exact i.o _ _)
    quiet_step (fail)
    refine wpQuiet_nil ?_;intro I hw;have h:qv (Grown W I):=p9 (by obtain⟨⟨E,f⟩,rfl⟩:=hw;exact q.o.trans ⟨E,f,rfl⟩);clear hw;go_wp2_with fail;go_ret;exact⟨by rw[r.o];rfl,h.o⟩
   ·have S:(c != 0)=true:=by simp;omega
    have r:qv (kz ((n:Int)+1) false a b=c):=p9 (by rw[j.o];simp only[th,if_false];rw[bk N]);go_wp2_with fail;go_ret;exact⟨by rw[r.o];rfl,q.o⟩
 ·have r:qv (kz order down a b=cmpL a b):=p9 (by unfold kz;rw[bk v]);have i:qv (∀d os,Calls prog 135 #[.slice (some ⟨X,0,none⟩) 6 6,.slice (some ⟨Y,0,none⟩) 6 6,.func (.func 134) #[] #[]] (grow (g.drewN d) os) fun e w''=>e=.returned (.int .i64 (cmpL a b))/\∃p:GrownBy,w''=grow (g.drewN p.n) p.os):=p9 fun d os=>Calls.grown_of (vI (s.o.grown (ag (Grown.below (W:=g) ⟨d,os,rfl⟩) none) (by simp)) (k.o.grown (ag (Grown.below (W:=g) ⟨d,os,rfl⟩) none) (by simp)) A.o B.o);go_upto_region 7 with fail;refine wp_region_quiet_grown (by kernel_rfl) (by kernel_rfl) ?_
  iterate 2 (quiet_step (fail))
  quiet_step (exact i.o _ _)
  quiet_step (fail)
  refine wpQuiet_nil ?_;intro I hw;have h:qv (Grown W I):=p9 (by obtain⟨⟨E,f⟩,rfl⟩:=hw;exact m.o.trans ⟨E,f,rfl⟩);clear hw;go_wp2_with fail;go_ret;exact⟨by rw[r.o];rfl,h.o⟩
theorem PV{a b:bY}{Q:Nat}{cs:Array Value}(q:Loc W Q cs 49)(r:cs.size=17)(s:a.length=6)(lb:b.length=6)(k:cs[4]?=some (.int .i64 order))(l:cs[5]?=some (.bool down))(p:0<=order/\order<=6):
  Calls prog 85 #[.agg (fM a),.agg (fM b),.pointer (some ⟨Q,0,none⟩)] W fun e W'=>e=.returned (.int .i64 (kz order down a b))/\Grown W W':=by
 have d:=(Grown.refl W).alloc (.cells (fM a) 163);have c:=p9 (d.alloc (.cells (fM b) 163));have i:=p9 ((Loc.new W (fM a) 163).alloc (.cells (fM b) 163));have g:=p9 (Loc.new (W.alloc (.cells (fM a) 163)) (fM b) 163);have j:=p9 ((q.alloc (.cells (fM a) 163)).alloc (.cells (fM b) 163));have t:=p9 (fun w:World=>Jc (W:=w) s lb k l p);have u:=p9 r;clear d q r s lb k l p;go_enter func85,ntmps85
 go_upto_region 1 with fail;rw[z6] at g;obtain⟨X,m⟩:∃X,X=W.heap.size:=⟨_,rfl⟩;obtain⟨Y,n⟩:∃Y,Y=W.heap.size+1:=⟨_,rfl⟩;rw[<-n] at g⊢;rw[<-m] at i⊢;clear m n;generalize (W.alloc (.cells (fM a) 163)).alloc (.cells (fM b) 163)=v at c i g j⊢;refine wp_region_lit ?_;refine wpList_load_mid rfl 163 _ rfl X 0 rfl (fM a).toList _ i.o.range underlying163 rfl (by rw[Tryz.jV];rfl) ?_;refine wpList_load_mid rfl 163 _ rfl Y 0 rfl (fM b).toList _ g.o.range underlying163 rfl (by rw[Tryz.jV];rfl) ?_;refine wpList_load_mid rfl 49 _ rfl Q 0 rfl cs.toList _ j.o.range underlying49 rfl (by rw[Tryz.bp];simp[u.o]) ?_;simp only[DI];go_wp2_with fail;refine(t.o _).mono ?_;rintro e x ⟨rfl,f⟩;have h:=p9 (c.o.trans f);clear f;go_wp2_with fail;go_ret;exact⟨rfl,h.o⟩
end
section
open Go.RowKit
theorem B0(s:ByteArray)(W:World)(C:s.size<=maxLen)(g:dN s=none):Calls prog 8 #[.string s] W (rF (parseText (dN s)) W):=by
 have k:Below W.heap.size W (W.alloc (.cells zq 49)):=FD (r5 _ _) (rm _) _;have u:=Loc.new W zq 49;have t:=size_alloc W (.cells zq 49);have d:=p9 k;have c:=p9 u;clear k u;go_enter func8,ntmps8
 go_wp2_with fail;obtain⟨X0,f⟩:∃X0,X0=W.heap.size:=⟨_,rfl⟩;rw[<-f] at c⊢;have p:W.heap.size<=X0:=by omega
 have q:X0+1=(W.alloc (.cells zq 49)).heap.size:=by rw[t,f]
 clear f;generalize W.alloc (.cells zq 49)=A at d c t q⊢;refine(uD s A C).mono ?_;rintro e j ⟨a,B⟩;have n:=p9 a;have D:=a.size;rcases B with ⟨r,rfl⟩|⟨F,E,m,rfl,y⟩
 ·have h:qv (Loc j X0 zq 49):=c.o.grown (ag a none) (by simp);have z:qv (Below W.heap.size W j):=eI (b:=W.heap.size) d.o (ag a _) (rm _);clear a n c d;have i:qv (parseText (dN s)=(aB,3)):=by show _=_;rw[r];rfl
  go_upto_region 3 with fail;refine wp_region_lit ?_;refine fc rfl rfl ?_;refine ej rfl rfl ?_;refine wpList_store_mid rfl 49 _ _ rfl X0 0 zq rfl rfl h.o.there Tryz.bp yG ?_;have w:Loc (j.setCells X0 0 zq.toList) X0 zq 49:=h.o.fC rfl;have x:=aU X0 zq.toList 0 j;obtain⟨WF,l⟩:∃WF,j.setCells X0 0 zq.toList=WF:=⟨_,rfl⟩;rw[l] at w x⊢;clear l;go_wp2_with fail;refine bodyPost_ret (v:=.tuple #[.agg zq,.int .i64 3]) (kC results8 rfl rfl w rfl) rfl ⟨?_,.slice none 0 0,.slice none 0 0,.slice none 0 0,.slice none 0 0,?_,?_⟩
  ·exact eI (b:=X0) z.o x p
  ·rw[i.o];rfl
  ·rw[i.o];exact iJ.none _ _
 ·rw[g] at m;cases m
end
end Go.Proofs.YtbfmmmjkjhjleaaGreatDoor
