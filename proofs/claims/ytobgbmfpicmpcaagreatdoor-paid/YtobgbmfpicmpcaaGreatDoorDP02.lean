/- The two ways to write a query, the program's and the reference's, as plain functions: the words that the program joins, the text that the reference makes. No program in this text. -/
import Derived.Test.YtobgbmfpicmpcaaGreatDoorC05
import Derived.Lib.Join
import Derived.Lib.ItoaNum
import Derived.Test.YtobgbmfpicmpcaaGreatDoorC26
import Derived.Test.YtobgbmfpicmpcaaGreatDoorC31
import Derived.Test.YtobgbmfpicmpcaaGreatDoorC30
import Derived.Test.YtobgbmfpicmpcaaGreatDoorC28
import Derived.Test.YtobgbmfpicmpcaaGreatDoorC32
import Derived.Test.YtobgbmfpicmpcaaGreatDoorC17
import Derived.Test.YtobgbmfpicmpcaaGreatDoorC38
set_option maxRecDepth 100000
set_option maxHeartbeats 8000000
namespace Go.Proofs.YtobgbmfpicmpcaaGreatDoor
namespace Pure
theorem spaced_append (a b:List ByteArray):ju (a++b)=ju a++ju b:=by simp[ju,Lib.joinTail]
theorem bl_dec (n:Int):bl (dB n)=Lib.itoa n:=by simp[bl,dB]
end Pure
section
open Go.RowKit Go.Maps Go.Sort
theorem goP_more (x:eB) (kind:ByteArray):∀(es:List aJ) (p:Nat) (left d:Int),0≤d→0≤(lL x kind p es left).2→
  lL x kind p es (left+d)=((lL x kind p es left).1,(lL x kind p es left).2+d)∧((lL x kind p es left).1.length:Int)+(lL x kind p es left).2=left
 | [],p,left,d,_,_=>by simp[lL]
 | e::r,p,left,d,hd,h=>by
  unfold lL at h⊢
  by_cases hg:pT x kind p e=true
  ·rw[if_pos hg] at h⊢
   rw[if_pos hg]
   by_cases h1:0≤left - 1
   ·rw[if_pos h1] at h⊢
    rw[if_pos (by omega)]
    obtain⟨a,b⟩:=goP_more x kind r (p+1) (left - 1) d hd h
    have e:left+d - 1=left - 1+d:=by omega
    rw[e,a]
    refine⟨rfl,?_⟩
    simp only[List.length_cons]
    omega
   ·rw[if_neg h1] at h
    simp only at h
    omega
  ·rw[if_neg hg] at h⊢
   rw[if_neg hg]
   exact goP_more x kind r (p+1) left d hd h
theorem walkP_down (es:List aJ) (kind:ByteArray) (least bf:Int) (n:Nat) (ws:List eB) {left:Int} (h:left<0):(eY es kind least bf n ws left).2=left:=by
 match n,ws with
 | 0,_=>rfl
 | _+1,[]=>rfl
 | n+1,x::r=>unfold eY;rw[if_pos h]
theorem walkP_more (es:List aJ) (kind:ByteArray) (least bf:Int) (d:Int) (hd:0≤d):∀(n n':Nat) (ws:List eB) (left:Int),0≤left→(ws.length:Int)+left≤n→(ws.length:Int)+left+d≤n'→0≤(eY es kind least bf n ws left).2→
  eY es kind least bf n' ws (left+d)=((eY es kind least bf n ws left).1,(eY es kind least bf n ws left).2+d)
 | 0,n',[],left,_,_,_,_=>by
  cases n'<;>rfl
 | 0,n',x::r,left,h0,h1,_,_=>by
  simp only[List.length_cons] at h1
  omega
 | n+1,n',[],left,_,_,_,_=>by
  cases n'<;>rfl
 | n+1,0,x::r,left,h0,h1,h2,_=>by
  simp only[List.length_cons] at h2
  omega
 | n+1,n'+1,x::r,left,h0,h1,h2,h=>by
  simp only[List.length_cons] at h1 h2
  unfold eY at h⊢
  have hn1:¬left<0:=by omega
  have hn2:¬left+d<0:=by omega
  rw[if_neg hn1] at h⊢
  rw[if_neg hn2]
  by_cases hm:(x.bM:Int)<bf
  ·rw[if_pos hm] at h⊢
   rw[if_pos hm]
   simp only at h⊢
   by_cases hg:0≤(lL x kind 0 es left).2
   ·obtain⟨a,b⟩:=goP_more x kind es 0 left d hd hg
    have hw:=walkP_more es kind least bf d hd n n' (r++(lL x kind 0 es left).1) (lL x kind 0 es left).2 hg (by rw[List.length_append];omega) (by rw[List.length_append];omega) h
    rw[a]
    simp only
    rw[hw]
   ·rw[walkP_down es kind least bf n _ (by omega)] at h
    omega
  ·rw[if_neg hm] at h⊢
   rw[if_neg hm]
   simp only at h⊢
   have hw:=walkP_more es kind least bf d hd n n' r left h0 (by omega) (by omega) h
   rw[hw]
theorem endsOf_more (ns:List aq) (es:List aJ) (s:aN) (p left d:Int) (hd:0≤d) (h0:0≤left) (h:0≤(fC ns es s p left).2):fC ns es s p (left+d)=((fC ns es s p left).1,(fC ns es s p left).2+d):=by
 unfold fC at h⊢
 split
 ·rfl
 ·rename_i ht
  rw[if_neg ht] at h
  exact walkP_more es s.type s.least s.bf d hd _ _ _ left h0 (by simp only[List.length_cons,List.length_nil];omega) (by simp only[List.length_cons,List.length_nil];omega) h
theorem loopP_down {rec:mA→mA} {skip:Int→Bool} {name:ByteArray} (hrec:∀st,0≤st.left→(rec st).left≤st.left):∀(xs:List Int) (st:mA),(fw rec skip name xs st).1.left≤st.left
 | [],st=>by simp only[fw];omega
 | e::r,st=>by
  unfold fw
  split
  ·exact loopP_down hrec r st
  ·split
   ·rename_i h1
    have a:=hrec ⟨st.left - 1,fD st.f name (some e),st.rows⟩ h1
    have b:=loopP_down hrec (skip:=skip) (name:=name) r (rec ⟨st.left - 1,fD st.f name (some e),st.rows⟩)
    simp only at a
    omega
   ·simp only;omega
def mA.with (st:mA) (d:Int):mA:=⟨st.left+d,st.f,st.rows⟩
theorem loopP_more {rec:mA→mA} {skip:Int→Bool} {name:ByteArray} {d:Int} (hd:0≤d) (hrec:∀st,0≤st.left→(rec st).left≤st.left) (hmore:∀st,0≤st.left→0≤(rec st).left→rec (st.with d)=(rec st).with d):
  ∀(xs:List Int) (st:mA),0≤(fw rec skip name xs st).1.left→fw rec skip name xs (st.with d)=((fw rec skip name xs st).1.with d,(fw rec skip name xs st).2)
 | [],st,_=>by simp only[fw]
 | e::r,st,h=>by
  unfold fw at h⊢
  by_cases hs:skip e=true
  ·rw[if_pos hs] at h⊢
   rw[if_pos hs]
   exact loopP_more hd hrec hmore r st h
  ·rw[if_neg hs] at h⊢
   rw[if_neg hs]
   by_cases h1:0≤st.left - 1
   ·rw[if_pos h1] at h⊢
    have hw:0≤(st.with d).left - 1:=by simp only[mA.with];omega
    rw[if_pos hw]
    have h2:0≤(rec ⟨st.left - 1,fD st.f name (some e),st.rows⟩).left:=Int.le_trans h (loopP_down hrec r _)
    have h3:=hmore ⟨st.left - 1,fD st.f name (some e),st.rows⟩ h1 h2
    have e1:(⟨(st.with d).left - 1,fD (st.with d).f name (some e),(st.with d).rows⟩:mA)=mA.with ⟨st.left - 1,fD st.f name (some e),st.rows⟩ d:=by
     simp only[mA.with,mA.mk.injEq,and_true]
     omega
    rw[e1,h3]
    exact loopP_more hd hrec hmore r _ h
   ·rw[if_neg h1] at h
    simp only at h
    omega
theorem chooseP_down (ns:List aq) (es:List aJ) (cl:List bP) (r:List aN) (prev:ByteArray) (st:mA) (h:0≤st.left):(bH ns es cl r prev st).left≤st.left:=(gD ns es cl r prev st h).2.1
theorem chooseP_more (ns:List aq) (es:List aJ) (cl:List bP) (d:Int) (hd:0≤d):∀(r:List aN) (prev:ByteArray) (st:mA),0≤st.left→0≤(bH ns es cl r prev st).left→bH ns es cl r prev (st.with d)=(bH ns es cl r prev st).with d
 | [],prev,st,_,_=>by
  unfold bH
  have e:(st.with d).f=st.f:=rfl
  rw[e]
  split<;>rfl
 | s::r,prev,st,h0,h=>by
  have hrec:∀t:mA,0≤t.left→(bH ns es cl r s.name t).left≤t.left:=fun t ht=>chooseP_down ns es cl r s.name t ht
  have hmore:∀t:mA,0≤t.left→0≤(bH ns es cl r s.name t).left→bH ns es cl r s.name (t.with d)=(bH ns es cl r s.name t).with d:=fun t h1 h2=>chooseP_more ns es cl d hd r s.name t h1 h2
  have hx:0≤(fw (fun t=>bH ns es cl r s.name t) (qX ns s (st.f s.name)) s.name (fC ns es s ((st.f prev).getD 0) st.left).1 ⟨(fC ns es s ((st.f prev).getD 0) st.left).2,st.f,st.rows⟩).1.left:=by
   simp only[bH] at h
   split at h
   ·exact h
   ·split at h
    ·exact h
    ·exact h
  have he:0≤(fC ns es s ((st.f prev).getD 0) st.left).2:=Int.le_trans hx (loopP_down hrec _ _)
  have h1:=endsOf_more ns es s ((st.f prev).getD 0) st.left d hd h0 he
  have h2:=loopP_more (skip:=qX ns s (st.f s.name)) (name:=s.name) hd hrec hmore _ _ hx
  simp only[bH]
  have e1:(st.with d).f=st.f:=rfl
  have e2:(st.with d).left=st.left+d:=rfl
  have e3:(st.with d).rows=st.rows:=rfl
  rw[e1,e2,e3,h1]
  simp only
  have e4:(⟨(fC ns es s ((st.f prev).getD 0) st.left).2+d,st.f,st.rows⟩:mA)=mA.with ⟨(fC ns es s ((st.f prev).getD 0) st.left).2,st.f,st.rows⟩ d:=rfl
  rw[e4,h2]
  simp only
  split
  ·rfl
  ·split
   ·rfl
   ·rfl
end
section
open Go.RowKit Go.Maps Go.Sort
theorem answerP_more {ns:List aq} {es:List aJ} {q:au} {a b:Int} (h0:0≤a) (hab:a≤b) (h:(eK ns es q a).2=0):eK ns es q b=eK ns es q a:=by
 unfold eK at h⊢
 by_cases hl:0≤(aR ns es q a).left
 ·have h1:=chooseP_more ns es q.conds (b - a) (by omega) q.ai ⟨#[]⟩ ⟨a,jN,[]⟩ h0 hl
  have e:aR ns es q b=(aR ns es q a).with (b - a):=by
   unfold aR
   rw[←h1]
   unfold mA.with
   simp only
   congr 2
   omega
  rw[e]
  unfold mA.with
  simp only
  rw[if_pos (by omega),if_pos hl]
 ·rw[if_neg hl] at h
  simp at h
theorem answerP_no {ns:List aq} {es:List aJ} {q:au} {a:Int}:(eK ns es q a).2=0∨eK ns es q a=([],6):=by
 unfold eK
 split
 ·exact Or.inl rfl
 ·exact Or.inr rfl
end
def vB (i:Int):ByteArray:=if i=0 then ⟨#[97]⟩ else if i=1 then ⟨#[98]⟩ else ⟨#[99]⟩
def kB:ByteArray:=⟨#[107]⟩
def tB:ByteArray:=⟨#[84]⟩
def uB:ByteArray:=⟨#[85]⟩
def kcD (c:Int):Int:=pk (c.tdiv 5) 1099511627776
def kcA (c:Int):gj:=⟨vB (pk (kcD c) 3),kB,0⟩
def kc (c:Int):bP:=
 if pk c 5=0 then ⟨7,kcA c,lD⟩ else if pk c 5=1 then ⟨8,kcA c,lD⟩
 else if pk c 5=2 then ⟨4,kcA c,⟨vB (pk (kcD c / 3) 3),kB,0⟩⟩
 else if pk c 5=3 then ⟨2,kcA c,⟨e0,e0,GP (kcD c / 9)⟩⟩ else ⟨3,kcA c,⟨e0,e0,GP (kcD c / 9)⟩⟩
def kcText (c:bP):ByteArray:=⟨(iy (ig c.a++xN c)).toArray⟩
def kmD (c:Int):Int:=pk (c.tdiv 6) 1099511627776
def at0 (i:Int):aN:=⟨vB i,e0,e0,0,0⟩
def at1 (i:Int) (l:ByteArray):aN:=⟨vB i,l,e0,0,0⟩
def to0 (i:Int):aN:=⟨vB i,e0,tB,1,1⟩
def kmS (c:Int):List aN:=
 if pk c 6=0 then [at0 0,to0 1,to0 2]
 else if pk c 6=1 then [at1 0 (D6 (kmD c)),⟨vB 1,e0,tB,pk (kmD c / 3) 3,2⟩,at0 2]
 else if pk c 6=2 then [at1 0 (D6 (kmD c)),at0 1,to0 2]
 else if pk c 6=3 then [at0 0,⟨vB 1,e0,uB,0,1⟩,at0 1,to0 2]
 else if pk c 6=4 then [at0 0,to0 1,at0 0,⟨vB 2,D6 (kmD c),tB,1,1⟩]
 else [at1 0 (D6 (kmD c)),at1 1 (D6 (kmD c / 3)),at1 2 ⟨#[65]⟩]
def kmC (w:Int):List bP:=if 0<pk w 3 then [kc (w.tdiv 3)] else []
def kmQ (c w:Int):au:={aF with ai:=kmS c,conds:=kmC w}
def kmText (c w:Int):ByteArray:=⟨(iy (mu (kmQ c w))).toArray⟩
def iB (i:Int):bi:=⟨vB i,e0⟩
def iK (i:Int):bi:=⟨vB i,kB⟩
def krQ (c w i:Int):au:=
 if pk i 5=0 then {kmQ c w with kind:=1,items:=[iB 0,iB 1,iB 2],bR:=-1}
 else if pk i 5=1 then {kmQ c w with kind:=1,items:=[iK 0,⟨e0,e0⟩],bR:=-1}
 else if pk i 5=2 then {kmQ c w with kind:=1,items:=[iK 0,iK 1,⟨vB 2,⟨#[106]⟩⟩],order:=2,down:=true,bR:=-1}
 else if pk i 5=3 then {kmQ c w with kind:=1,items:=[⟨e0,e0⟩],bR:=-1}
 else {kmQ c w with kind:=1,items:=[iK 2,iB 0],order:=1,skip:=1,bR:=3}
def krText (c w i:Int):ByteArray:=⟨(iy (cJ (krQ c w i))).toArray⟩
namespace Pure
theorem ba_app (a b:ByteArray):(a++b).data.toList=a.data.toList++b.data.toList:=by simp[ByteArray.data_append]
theorem ba_mk (l:List UInt8):(⟨l.toArray⟩:ByteArray).data.toList=l:=by simp
theorem pk3 (c:Int):pk c 3=0∨pk c 3=1∨pk c 3=2:=by
 have h0:=ma (c:=c) (n:=3) (by omega)
 have h1:=zb (c:=c) (n:=3) (by omega)
 omega
theorem vB_name (i:Int):bN (vB i)=true:=by
 unfold vB
 split
 ·decide +kernel
 ·split<;>decide +kernel
theorem kB_name:bN kB=true:=by decide +kernel
theorem kc_good (c:Int):mg (kc c):=by
 have ha:je (kcA c):=Or.inr ⟨vB_name _,kB_name,rfl⟩
 have hn:je ⟨e0,e0,GP (kcD c / 9)⟩:=Or.inl ⟨rfl,rfl,J1 _⟩
 have hv:je ⟨vB (pk (kcD c / 3) 3),kB,0⟩:=Or.inr ⟨vB_name _,kB_name,rfl⟩
 unfold kc
 split
 ·exact⟨by simp,ha,Or.inr ⟨by simp,rfl⟩⟩
 ·split
  ·exact⟨by simp,ha,Or.inr ⟨by simp,rfl⟩⟩
  ·split
   ·exact⟨by simp,ha,Or.inl ⟨by simp,hv⟩⟩
   ·split
    ·exact⟨by simp,ha,Or.inl ⟨by simp,hn⟩⟩
    ·exact⟨by simp,ha,Or.inl ⟨by simp,hn⟩⟩
theorem at0_good (i:Int):fU (at0 i):=⟨vB_name i,Or.inl rfl,Or.inl ⟨rfl,rfl,rfl⟩⟩
theorem at1_good (i:Int) {l:ByteArray} (h:cD l=true):fU (at1 i l):=⟨vB_name i,Or.inr h,Or.inl ⟨rfl,rfl,rfl⟩⟩
theorem tB_title:cD tB=true:=by decide +kernel
theorem uB_title:cD uB=true:=by decide +kernel
theorem aB_title:cD ⟨#[65]⟩=true:=by decide +kernel
theorem to0_good (i:Int):fU (to0 i):=⟨vB_name i,Or.inl rfl,Or.inr ⟨tB_title,by simp[to0],by simp[to0],by simp[to0]⟩⟩
theorem kmS_good (c:Int):(∀s∈kmS c,fU s)∧(∃s r,kmS c=s::r∧s.type=e0)∧(kmS c).length≤6:=by
 have h0:=ma (c:=kmD c / 3) (n:=3) (by omega)
 have h1:=zb (c:=kmD c / 3) (n:=3) (by omega)
 unfold kmS
 split
 ·refine⟨?_,⟨_,_,rfl,rfl⟩,by simp⟩
  intro s hs
  simp only[List.mem_cons,List.not_mem_nil,or_false] at hs
  rcases hs with rfl|rfl|rfl
  ·exact at0_good _
  ·exact to0_good _
  ·exact to0_good _
 ·split
  ·refine⟨?_,⟨_,_,rfl,rfl⟩,by simp⟩
   intro s hs
   simp only[List.mem_cons,List.not_mem_nil,or_false] at hs
   rcases hs with rfl|rfl|rfl
   ·exact at1_good _ (C4 _)
   ·exact⟨vB_name 1,Or.inl rfl,Or.inr ⟨tB_title,h0,by simp only;omega,by simp⟩⟩
   ·exact at0_good _
  ·split
   ·refine⟨?_,⟨_,_,rfl,rfl⟩,by simp⟩
    intro s hs
    simp only[List.mem_cons,List.not_mem_nil,or_false] at hs
    rcases hs with rfl|rfl|rfl
    ·exact at1_good _ (C4 _)
    ·exact at0_good _
    ·exact to0_good _
   ·split
    ·refine⟨?_,⟨_,_,rfl,rfl⟩,by simp⟩
     intro s hs
     simp only[List.mem_cons,List.not_mem_nil,or_false] at hs
     rcases hs with rfl|rfl|rfl|rfl
     ·exact at0_good _
     ·exact⟨vB_name 1,Or.inl rfl,Or.inr ⟨uB_title,by simp,by simp,by simp⟩⟩
     ·exact at0_good _
     ·exact to0_good _
    ·split
     ·refine⟨?_,⟨_,_,rfl,rfl⟩,by simp⟩
      intro s hs
      simp only[List.mem_cons,List.not_mem_nil,or_false] at hs
      rcases hs with rfl|rfl|rfl|rfl
      ·exact at0_good _
      ·exact to0_good _
      ·exact at0_good _
      ·exact⟨vB_name 2,Or.inr (C4 (kmD c)),Or.inr ⟨tB_title,by simp,by simp,by simp⟩⟩
     ·refine⟨?_,⟨_,_,rfl,rfl⟩,by simp⟩
      intro s hs
      simp only[List.mem_cons,List.not_mem_nil,or_false] at hs
      rcases hs with rfl|rfl|rfl
      ·exact at1_good _ (C4 _)
      ·exact at1_good _ (C4 _)
      ·exact at1_good _ aB_title
theorem kmC_good (w:Int):(∀c∈kmC w,mg c)∧(kmC w).length≤6:=by
 unfold kmC
 split
 ·refine⟨fun c hc=>?_,by simp⟩
  rw[List.mem_singleton.1 hc];exact kc_good _
 ·exact⟨(fun c hc=>(by cases hc)),by simp⟩
theorem km_match (c w:Int) (q:au) (h1:q.ai=kmS c) (h2:q.conds=kmC w):gK q:=by
 obtain⟨a,b,d⟩:=kmS_good c
 obtain⟨e,f⟩:=kmC_good w
 exact⟨by rw[h1];exact a,by rw[h1];exact b,by rw[h1];exact d,by rw[h2];exact e,by rw[h2];exact f⟩
theorem iB_good (i:Int):lO (iB i):=Or.inr ⟨vB_name i,Or.inl rfl⟩
theorem iK_good (i:Int):lO (iK i):=Or.inr ⟨vB_name i,Or.inr kB_name⟩
theorem jB_name:bN ⟨#[106]⟩=true:=by decide +kernel
theorem ij_good (i:Int):lO ⟨vB i,⟨#[106]⟩⟩:=Or.inr ⟨vB_name i,Or.inr jB_name⟩
theorem count_good:lO ⟨e0,e0⟩:=Or.inl ⟨rfl,rfl⟩
theorem kr_good (c w i:Int):jk (krQ c w i):=by
 refine Or.inl ?_
 unfold krQ
 split
 ·refine⟨km_match c w _ rfl rfl,?_,by simp,by simp,by simp[kmQ,aF],by simp[kmQ,aF],by simp[kmQ,aF],by simp[kmQ,aF],by simp[kmQ,aF],Or.inl rfl,rfl⟩
  intro x hx
  simp only[List.mem_cons,List.not_mem_nil,or_false] at hx
  rcases hx with rfl|rfl|rfl<;>exact iB_good _
 ·split
  ·refine⟨km_match c w _ rfl rfl,?_,by simp,by simp,by simp[kmQ,aF],by simp[kmQ,aF],by simp[kmQ,aF],by simp[kmQ,aF],by simp[kmQ,aF],Or.inl rfl,rfl⟩
   intro x hx
   simp only[List.mem_cons,List.not_mem_nil,or_false] at hx
   rcases hx with rfl|rfl
   ·exact iK_good _
   ·exact count_good
  ·split
   ·refine⟨km_match c w _ rfl rfl,?_,by simp,by simp,by simp,by simp,by simp,by simp[kmQ,aF],by simp[kmQ,aF],Or.inl rfl,rfl⟩
    intro x hx
    simp only[List.mem_cons,List.not_mem_nil,or_false] at hx
    rcases hx with rfl|rfl|rfl
    ·exact iK_good _
    ·exact iK_good _
    ·exact ij_good _
   ·split
    ·refine⟨km_match c w _ rfl rfl,?_,by simp,by simp,by simp[kmQ,aF],by simp[kmQ,aF],by simp[kmQ,aF],by simp[kmQ,aF],by simp[kmQ,aF],Or.inl rfl,rfl⟩
     intro x hx
     rw[List.mem_singleton.1 hx];exact count_good
    ·refine⟨km_match c w _ rfl rfl,?_,by simp,by simp,by simp,by simp,by simp[kmQ,aF],by simp,by simp,Or.inr (by simp),rfl⟩
     intro x hx
     simp only[List.mem_cons,List.not_mem_nil,or_false] at hx
     rcases hx with rfl|rfl
     ·exact iK_good _
     ·exact iB_good _
end Pure
def kmA (c:Int):ByteArray:=
 if pk c 6=0 then ⟨#[40,32,97,32,41,32]⟩++⟨#[45,91,32,84,32,93,45,62]⟩++⟨#[32,40,32,98,32,41,32]⟩++⟨#[45,91,32,84,32,93,45,62]⟩++⟨#[32,40,32,99,32,41]⟩
 else if pk c 6=1 then (⟨#[40,32,97,32,58,32]⟩++D6 (kmD c)++⟨#[32,41]⟩)++⟨#[32,45,91,32,84,32,42,32]⟩++dB (pk (kmD c / 3) 3)++⟨#[32,46,46,32,50,32,93,45,62,32,40,32,98,32,41,32,44,32,40,32,99,32,41]⟩
 else if pk c 6=2 then (⟨#[40,32,97,32,58,32]⟩++D6 (kmD c)++⟨#[32,41]⟩)++⟨#[32,44,32,40,32,98,32,41,32]⟩++⟨#[45,91,32,84,32,93,45,62]⟩++⟨#[32,40,32,99,32,41]⟩
 else if pk c 6=3 then ⟨#[40,32,97,32,41,32,45,91,32,85,32,42,32,48,32,46,46,32,49,32,93,45,62,32,40,32,98,32,41,32,44,32,40,32,98,32,41,32]⟩++⟨#[45,91,32,84,32,93,45,62]⟩++⟨#[32,40,32,99,32,41]⟩
 else if pk c 6=4 then ⟨#[40,32,97,32,41,32]⟩++⟨#[45,91,32,84,32,93,45,62]⟩++⟨#[32,40,32,98,32,41,32,44,32,40,32,97,32,41,32]⟩++⟨#[45,91,32,84,32,93,45,62]⟩++⟨#[32,40,32,99,32,58,32]⟩++D6 (kmD c)++⟨#[32,41]⟩
 else (⟨#[40,32,97,32,58,32]⟩++D6 (kmD c)++⟨#[32,41]⟩)++⟨#[32,44,32,40,32,98,32,58,32]⟩++D6 (kmD c / 3)++⟨#[32,41,32,44,32,40,32,99,32,58,32,65,32,41]⟩
def krI (i:Int):ByteArray:=
 if pk i 5=0 then ⟨#[32,82,69,84,85,82,78,32,97,32,44,32,98,32,44,32,99]⟩ else if pk i 5=1 then ⟨#[32,82,69,84,85,82,78,32,97,32,46,32,107,32,44,32,67,79,85,78,84]⟩ else if pk i 5=2 then ⟨#[32,82,69,84,85,82,78,32,97,32,46,32,107,32,44,32,98,32,46,32,107,32,44,32,99,32,46,32,106,32,79,82,68,69,82,32,66,89,32,50,32,68,69,83,67]⟩ else if pk i 5=3 then ⟨#[32,82,69,84,85,82,78,32,67,79,85,78,84]⟩ else ⟨#[32,82,69,84,85,82,78,32,99,32,46,32,107,32,44,32,97,32,79,82,68,69,82,32,66,89,32,49,32,83,75,73,80,32,49,32,76,73,77,73,84,32,51]⟩
namespace Pure
theorem spaced_joined {l:List ByteArray} (h:l≠[]):ju l=32::iy l:=by
 cases l with
 | nil=>exact absurd rfl h
 | cons a r=>rw[nj,qR]
theorem termW_ne (t:gj):ig t≠[]:=by unfold ig;split<;>simp
theorem vB0:vB 0=⟨#[97]⟩:=rfl
theorem vB1:vB 1=⟨#[98]⟩:=rfl
theorem vB2:vB 2=⟨#[99]⟩:=rfl
theorem bl_mk (l:Array UInt8):bl ⟨l⟩=l.toList:=rfl
theorem e0e:e0.toList.isEmpty=true:=dY
theorem tBe:tB.toList.isEmpty=false:=kq tB_title
theorem uBe:uB.toList.isEmpty=false:=kq uB_title
theorem aBe:(⟨#[65]⟩:ByteArray).toList.isEmpty=false:=kq aB_title
theorem ttle (c:Int):(D6 c).toList.isEmpty=false:=kq (C4 c)
theorem vBe (i:Int):(vB i).toList.isEmpty=false:=eo (vB_name i)
theorem dec0:bl (dB 0)=[48]:=by rw[bl_dec];decide +kernel
theorem dec1:bl (dB 1)=[49]:=by rw[bl_dec];decide +kernel
theorem dec2:bl (dB 2)=[50]:=by rw[bl_dec];decide +kernel
theorem dec3:bl (dB 3)=[51]:=by rw[bl_dec];decide +kernel
theorem spots_text (c:Int):ju (bT iV true (kmS c))=32::(kmA c).data.toList:=by
 have hb:∀s:ByteArray,s.data.toList=bl s:=fun _=>rfl
 unfold kmS kmA
 split
 ·simp only[bT,iV,mU,pO,at0,to0,e0e,tBe,vB0,vB1,vB2,ba_app]
  simp[nj,o5,bl_mk,bE,bA,jG,da,tB]
 ·split
  ·simp only[bT,iV,mU,pO,at0,at1,e0e,tBe,ttle,vB0,vB1,vB2,ba_app]
   simp[nj,o5,bl_mk,bE,bA,jG,da,bX,aK,dU,kw,tB,dec2,hb]
  ·split
   ·simp only[bT,iV,mU,pO,at0,at1,to0,e0e,tBe,ttle,vB0,vB1,vB2,ba_app]
    simp[nj,o5,bl_mk,bE,bA,jG,da,bX,aK,tB,hb]
   ·split
    ·simp only[bT,iV,mU,pO,at0,to0,e0e,tBe,uBe,vB0,vB1,vB2,ba_app]
     simp[nj,o5,bl_mk,bE,bA,jG,da,aK,dU,kw,tB,uB,dec0,dec1]
    ·split
     ·simp only[bT,iV,mU,pO,at0,to0,e0e,tBe,ttle,vB0,vB1,vB2,ba_app]
      simp[nj,o5,bl_mk,bE,bA,jG,da,bX,aK,tB,hb]
     ·simp only[bT,iV,mU,at1,e0e,aBe,ttle,vB0,vB1,vB2,ba_app]
      simp[nj,o5,bl_mk,bE,bA,bX,aK,hb]
theorem km_textNo {c w:Int} (h:¬0<pk w 3):kmText c w=⟨#[77,65,84,67,72,32]⟩++kmA c:=by
 apply KD
 unfold kmText mu
 rw[ba_mk,ba_app,qR,spaced_append]
 have e1:(kmQ c w).ai=kmS c:=rfl
 have e2:(kmQ c w).conds=[]:=by unfold kmQ kmC;simp[h]
 rw[e1,e2,spots_text]
 simp[bT,o5,dz,bl_mk]
theorem km_textYes {c w:Int} (h:0<pk w 3):kmText c w=⟨#[77,65,84,67,72,32]⟩++kmA c++⟨#[32,87,72,69,82,69,32]⟩++kcText (kc (w.tdiv 3)):=by
 apply KD
 unfold kmText mu kcText
 rw[ba_mk,ba_app,ba_app,ba_app,ba_mk,qR,spaced_append]
 have e1:(kmQ c w).ai=kmS c:=rfl
 have e2:(kmQ c w).conds=[kc (w.tdiv 3)]:=by unfold kmQ kmC;simp[h]
 have e3:bT oG true [kc (w.tdiv 3)]=ej::(ig (kc (w.tdiv 3)).a++xN (kc (w.tdiv 3))):=by simp[bT,oG]
 rw[e1,e2,spots_text,e3,nj,spaced_joined (by simp[termW_ne])]
 simp[dz,ej,bl_mk]
theorem kr_text (c w i:Int):krText c w i=kmText c w++krI i:=by
 apply KD
 have hm:∀q:au,q.kind=1→q.ai=kmS c→q.conds=kmC w→cJ q=mu (kmQ c w)++Ez q:=by
  intro q h1 h2 h3
  unfold cJ nv
  rw[if_neg (by omega),if_neg (by omega),if_pos h1]
  unfold mu
  rw[h2,h3];rfl
 have hj:∀l:List ByteArray,iy (mu (kmQ c w)++l)=iy (mu (kmQ c w))++ju l:=by
  intro l
  unfold mu
  rw[List.cons_append,qR,qR,spaced_append,List.append_assoc]
 unfold krText kmText
 rw[ba_mk,ba_app,ba_mk]
 unfold krQ krI
 split
 ·rw[hm _ rfl rfl rfl,hj]
  congr 1
  simp only[Ez,pL,oT,td,oS,bT,oA,xq,iB,e0e,vB0,vB1,vB2,kmQ,aF]
  simp[nj,o5,bl_mk,bq,aK]
 ·split
  ·rw[hm _ rfl rfl rfl,hj]
   congr 1
   simp only[Ez,pL,oT,td,oS,bT,oA,xq,iK,e0e,eo kB_name,vB0,kmQ,aF]
   simp[nj,o5,bl_mk,bq,aK,eX,kB,ga]
  ·split
   ·rw[hm _ rfl rfl rfl,hj]
    congr 1
    simp only[Ez,pL,oT,td,oS,bT,oA,xq,iK,eo kB_name,eo jB_name,vB0,vB1,vB2,kmQ,aF]
    simp[nj,o5,bl_mk,bq,aK,eX,kB,eJ,IH,jF,dec2]
   ·split
    ·rw[hm _ rfl rfl rfl,hj]
     congr 1
     simp only[Ez,pL,oT,td,oS,bT,oA,xq,e0e,kmQ,aF]
     simp[nj,o5,bl_mk,bq,ga]
    ·rw[hm _ rfl rfl rfl,hj]
     congr 1
     simp only[Ez,pL,oT,td,oS,bT,oA,xq,iK,iB,e0e,eo kB_name,vB0,vB2,kmQ,aF]
     simp[nj,o5,bl_mk,bq,aK,eX,kB,eJ,IH,jI,iN,dec1,dec3]
theorem kc_text0 {c:Int} (h:pk c 5=0):kcText (kc c)=vB (pk (kcD c) 3)++⟨#[32,46,32,107]⟩++⟨#[32,73,83,32,78,85,76,76]⟩:=by
 apply KD
 unfold kcText kc
 rw[if_pos h,ba_mk,ba_app,ba_app]
 simp only[ig,xN,kcA,vBe]
 simp[qR,nj,o5,bl,eX,kB,ng,il]
theorem kc_text1 {c:Int} (h:pk c 5=1):kcText (kc c)=vB (pk (kcD c) 3)++⟨#[32,46,32,107]⟩++⟨#[32,73,83,32,78,79,84,32,78,85,76,76]⟩:=by
 apply KD
 unfold kcText kc
 rw[if_neg (by omega),if_pos h,ba_mk,ba_app,ba_app]
 simp only[ig,xN,kcA,vBe]
 simp[qR,nj,o5,bl,eX,kB,ng,jo,il]
theorem kc_text2 {c:Int} (h:pk c 5=2):kcText (kc c)=vB (pk (kcD c) 3)++⟨#[32,46,32,107]⟩++⟨#[32,60,61,32]⟩++vB (pk (kcD c / 3) 3)++⟨#[32,46,32,107]⟩:=by
 apply KD
 unfold kcText kc
 rw[if_neg (by omega),if_neg (by omega),if_pos h,ba_mk,ba_app,ba_app,ba_app,ba_app]
 simp only[ig,xN,kcA,vBe,lR]
 simp[qR,nj,o5,bl,eX,kB,D2]
theorem kc_text3 {c:Int} (h:pk c 5=3):kcText (kc c)=vB (pk (kcD c) 3)++⟨#[32,46,32,107]⟩++⟨#[32,60,62,32]⟩++dB (GP (kcD c / 9)):=by
 apply KD
 unfold kcText kc
 rw[if_neg (by omega),if_neg (by omega),if_neg (by omega),if_pos h,ba_mk,ba_app,ba_app,ba_app]
 simp only[ig,xN,kcA,vBe,e0e,lR]
 simp[qR,nj,o5,bl,eX,kB,D7]
theorem kc_text4 {c:Int} (h:pk c 5=4):kcText (kc c)=vB (pk (kcD c) 3)++⟨#[32,46,32,107]⟩++⟨#[32,60,32]⟩++dB (GP (kcD c / 9)):=by
 apply KD
 unfold kcText kc
 rw[if_neg (by omega),if_neg (by omega),if_neg (by omega),if_neg (by omega),ba_mk,ba_app,ba_app,ba_app]
 simp only[ig,xN,kcA,vBe,e0e,lR]
 simp[qR,nj,o5,bl,eX,kB,D9]
theorem joined_size {l:List ByteArray} (h:WL 160 l):(⟨(iy l).toArray⟩:ByteArray).size≤2000:=by
 have hz:(⟨(iy l).toArray⟩:ByteArray).size=(iy l).length:=by simp[ByteArray.size]
 rw[hz]
 exact Bt h
theorem kcText_size (c:Int):(kcText (kc c)).size≤2000:=by
 unfold kcText
 have h:=Hz (kc_good c) true
 refine joined_size ⟨fun w hw=>h.1 w ?_,?_⟩
 ·unfold oG;exact List.mem_cons_of_mem _ hw
 ·have:=h.2
  unfold oG at this
  simp only[List.length_cons] at this
  omega
theorem kmText_size (c w:Int):(kmText c w).size≤2000:=by
 unfold kmText
 exact joined_size (dD (pA (km_match c w _ rfl rfl)) (by omega))
theorem pk3_size (c:Int):(dB (pk c 3)).size≤11:=(nD (n:=pk c 3) (by
 have h0:=ma (c:=c) (n:=3) (by omega)
 have h1:=zb (c:=c) (n:=3) (by omega)
 exact⟨by omega,by omega⟩)).2
theorem vB_cases (i:Int):vB i=vB 0∨vB i=vB 1∨vB i=vB 2:=by
 by_cases h:i=0
 ·left;rw[h]
 ·by_cases h1:i=1
  ·right;left;rw[h1]
  ·right;right;unfold vB;simp[h,h1]
theorem bound_of {l:List aN} {s:aN} (h:s∈l):fl l s.name=true:=by
 unfold fl
 exact List.any_eq_true.2 ⟨s,h,EW _⟩
theorem kmS_bound (c i:Int):fl (kmS c) (vB i)=true:=by
 have key:∀j:Int,j=0∨j=1∨j=2→∃s∈kmS c,s.name=vB j:=by
  intro j hj
  unfold kmS
  rcases hj with rfl|rfl|rfl
  ·split
   ·exact⟨at0 0,by simp,rfl⟩
   ·split
    ·exact⟨at1 0 (D6 (kmD c)),by simp,rfl⟩
    ·split
     ·exact⟨at1 0 (D6 (kmD c)),by simp,rfl⟩
     ·split
      ·exact⟨at0 0,by simp,rfl⟩
      ·split
       ·exact⟨at0 0,by simp,rfl⟩
       ·exact⟨at1 0 (D6 (kmD c)),by simp,rfl⟩
  ·split
   ·exact⟨to0 1,by simp,rfl⟩
   ·split
    ·exact⟨⟨vB 1,e0,tB,pk (kmD c / 3) 3,2⟩,by simp,rfl⟩
    ·split
     ·exact⟨at0 1,by simp,rfl⟩
     ·split
      ·exact⟨at0 1,by simp,rfl⟩
      ·split
       ·exact⟨to0 1,by simp,rfl⟩
       ·exact⟨at1 1 (D6 (kmD c / 3)),by simp,rfl⟩
  ·split
   ·exact⟨to0 2,by simp,rfl⟩
   ·split
    ·exact⟨at0 2,by simp,rfl⟩
    ·split
     ·exact⟨to0 2,by simp,rfl⟩
     ·split
      ·exact⟨to0 2,by simp,rfl⟩
      ·split
       ·exact⟨⟨vB 2,D6 (kmD c),tB,1,1⟩,by simp,rfl⟩
       ·exact⟨at1 2 ⟨#[65]⟩,by simp,rfl⟩
 rcases vB_cases i with e|e|e
 ·obtain⟨s,hs,hn⟩:=key 0 (by simp);rw[e,←hn];exact bound_of hs
 ·obtain⟨s,hs,hn⟩:=key 1 (by simp);rw[e,←hn];exact bound_of hs
 ·obtain⟨s,hs,hn⟩:=key 2 (by simp);rw[e,←hn];exact bound_of hs
theorem kc_names (c:Int):(∃i,(kc c).a.name=vB i)∧((kc c).b.name=e0∨∃i,(kc c).b.name=vB i):=by
 unfold kc
 split
 ·exact⟨⟨_,rfl⟩,Or.inl rfl⟩
 ·split
  ·exact⟨⟨_,rfl⟩,Or.inl rfl⟩
  ·split
   ·exact⟨⟨_,rfl⟩,Or.inr ⟨_,rfl⟩⟩
   ·split
    ·exact⟨⟨_,rfl⟩,Or.inl rfl⟩
    ·exact⟨⟨_,rfl⟩,Or.inl rfl⟩
theorem kr_items (c w i:Int):∀x∈(krQ c w i).items,x.name=e0∨∃j,x.name=vB j:=by
 unfold krQ
 split
 ·intro x hx
  simp only[List.mem_cons,List.not_mem_nil,or_false] at hx
  rcases hx with rfl|rfl|rfl<;>first|exact Or.inr ⟨0,rfl⟩|exact Or.inr ⟨1,rfl⟩|exact Or.inr ⟨2,rfl⟩
 ·split
  ·intro x hx
   simp only[List.mem_cons,List.not_mem_nil,or_false] at hx
   rcases hx with rfl|rfl
   ·first|exact Or.inr ⟨0,rfl⟩|exact Or.inr ⟨1,rfl⟩|exact Or.inr ⟨2,rfl⟩
   ·exact Or.inl rfl
  ·split
   ·intro x hx
    simp only[List.mem_cons,List.not_mem_nil,or_false] at hx
    rcases hx with rfl|rfl|rfl<;>first|exact Or.inr ⟨0,rfl⟩|exact Or.inr ⟨1,rfl⟩|exact Or.inr ⟨2,rfl⟩
   ·split
    ·intro x hx
     rw[List.mem_singleton.1 hx];exact Or.inl rfl
    ·intro x hx
     simp only[List.mem_cons,List.not_mem_nil,or_false] at hx
     rcases hx with rfl|rfl<;>first|exact Or.inr ⟨0,rfl⟩|exact Or.inr ⟨1,rfl⟩|exact Or.inr ⟨2,rfl⟩
theorem kr_parts (c w i:Int):(krQ c w i).kind=1∧(krQ c w i).ai=kmS c∧(krQ c w i).conds=kmC w∧(krQ c w i).name=e0∧(krQ c w i).dest=e0:=by
 unfold krQ
 repeat' split
 all_goals exact⟨rfl,rfl,rfl,rfl,rfl⟩
theorem kr_scope (c w i:Int):eG (krQ c w i)=true:=by
 obtain⟨hk,hs,hc,hn,ht⟩:=kr_parts c w i
 unfold eG lM
 rw[hk,hs,hc,hn,ht]
 simp only[Bool.and_eq_true]
 refine⟨?_,by simp⟩
 rw[List.all_eq_true]
 have ok:∀n:ByteArray,(n=e0∨∃j,n=vB j)→(n.toList.isEmpty || fl (kmS c) n)=true:=by
  rintro n (rfl|⟨j,rfl⟩)
  ·rw[e0e];rfl
  ·rw[kmS_bound];simp
 intro n hmem
 simp only[List.mem_append,List.mem_flatMap,List.mem_map] at hmem
 rcases hmem with (⟨x,hx,hxn⟩|⟨x,hx,rfl⟩)|hmem
 ·unfold kmC at hx
  split at hx
  ·rw[List.mem_singleton.1 hx] at hxn
   obtain⟨h1,h2⟩:=kc_names (w.tdiv 3)
   simp only[List.mem_cons,List.not_mem_nil,or_false] at hxn
   rcases hxn with rfl|rfl
   ·exact ok _ (Or.inr h1)
   ·exact ok _ h2
  ·cases hx
 ·exact ok _ (kr_items c w i x hx)
 ·rw[if_pos (by omega)] at hmem
  simp only[List.mem_cons,List.not_mem_nil,or_false,or_self] at hmem
  exact ok _ (Or.inl hmem)
end Pure
end Go.Proofs.YtobgbmfpicmpcaaGreatDoor
