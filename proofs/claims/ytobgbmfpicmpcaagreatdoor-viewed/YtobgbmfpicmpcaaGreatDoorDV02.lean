/- What stands in memory while the reference looks at a query's scope: the query's copy, its rows, the list of names. No walk in this text. -/
import Derived.Test.YtobgbmfpicmpcaaGreatDoorC03
import Derived.Test.YtobgbmfpicmpcaaGreatDoorC05
import Derived.Lib.Join
import Derived.Lib.ItoaNum
import Derived.Test.YtobgbmfpicmpcaaGreatDoorC17
import Derived.Test.YtobgbmfpicmpcaaGreatDoorC38
import Derived.Test.YtobgbmfpicmpcaaGreatDoorC20
import Derived.Test.YtobgbmfpicmpcaaGreatDoorC14
import Derived.Test.YtobgbmfpicmpcaaGreatDoorC40
import Derived.Lib.Hide
set_option maxRecDepth 100000
set_option maxHeartbeats 8000000
namespace Go.Proofs.YtobgbmfpicmpcaaGreatDoor
open Go.Lib (hid)
section
open Go.RowKit
theorem mi (a:List ByteArray):(strs a).length=a.length:=by unfold strs;rw[List.length_map]
variable {W w w2:World} {B X:Nat} {cs:Array Value} {q:au} {vs vc vi v:Value} {ns:List ByteArray}
end
namespace Pure
theorem cO (a b:List ByteArray):ju (a++b)=ju a++ju b:=by simp[ju,Lib.joinTail]
theorem lp (n:Int):bl (dB n)=Lib.itoa n:=by simp[bl,dB]
end Pure
def vB (i:Int):ByteArray:=if i=0 then ⟨#[97]⟩ else if i=1 then ⟨#[98]⟩ else ⟨#[99]⟩
def kB:ByteArray:=⟨#[107]⟩
def tB:ByteArray:=⟨#[84]⟩
def uB:ByteArray:=⟨#[85]⟩
def ky (c:Int):Int:=pk (c.tdiv 5) 1099511627776
def F1 (c:Int):gj:=⟨vB (pk (ky c) 3),kB,0⟩
def kc (c:Int):bP:=
 if pk c 5=0 then ⟨7,F1 c,lD⟩ else if pk c 5=1 then ⟨8,F1 c,lD⟩
 else if pk c 5=2 then ⟨4,F1 c,⟨vB (pk (ky c / 3) 3),kB,0⟩⟩
 else if pk c 5=3 then ⟨2,F1 c,⟨e0,e0,GP (ky c / 9)⟩⟩ else ⟨3,F1 c,⟨e0,e0,GP (ky c / 9)⟩⟩
def bc (c:bP):ByteArray:=⟨(iy (ig c.a++xN c)).toArray⟩
def cM (c:Int):Int:=pk (c.tdiv 6) 1099511627776
def lu (i:Int):aN:=⟨vB i,e0,e0,0,0⟩
def p9 (i:Int) (l:ByteArray):aN:=⟨vB i,l,e0,0,0⟩
def lI (i:Int):aN:=⟨vB i,e0,tB,1,1⟩
def mC (c:Int):List aN:=
 if pk c 6=0 then [lu 0,lI 1,lI 2]
 else if pk c 6=1 then [p9 0 (D6 (cM c)),⟨vB 1,e0,tB,pk (cM c / 3) 3,2⟩,lu 2]
 else if pk c 6=2 then [p9 0 (D6 (cM c)),lu 1,lI 2]
 else if pk c 6=3 then [lu 0,⟨vB 1,e0,uB,0,1⟩,lu 1,lI 2]
 else if pk c 6=4 then [lu 0,lI 1,lu 0,⟨vB 2,D6 (cM c),tB,1,1⟩]
 else [p9 0 (D6 (cM c)),p9 1 (D6 (cM c / 3)),p9 2 ⟨#[65]⟩]
def LD (w:Int):List bP:=if 0<pk w 3 then [kc (w.tdiv 3)] else []
def dc (c w:Int):au:={aF with ai:=mC c,conds:=LD w}
def a8 (c w:Int):ByteArray:=⟨(iy (mu (dc c w))).toArray⟩
def iB (i:Int):bi:=⟨vB i,e0⟩
def iK (i:Int):bi:=⟨vB i,kB⟩
def od (c w i:Int):au:=
 if pk i 5=0 then {dc c w with kind:=1,items:=[iB 0,iB 1,iB 2],bR:=-1}
 else if pk i 5=1 then {dc c w with kind:=1,items:=[iK 0,⟨e0,e0⟩],bR:=-1}
 else if pk i 5=2 then {dc c w with kind:=1,items:=[iK 0,iK 1,⟨vB 2,⟨#[106]⟩⟩],order:=2,down:=true,bR:=-1}
 else if pk i 5=3 then {dc c w with kind:=1,items:=[⟨e0,e0⟩],bR:=-1}
 else {dc c w with kind:=1,items:=[iK 2,iB 0],order:=1,skip:=1,bR:=3}
def br (c w i:Int):ByteArray:=⟨(iy (cJ (od c w i))).toArray⟩
namespace Pure
theorem bb (a b:ByteArray):(a++b).data.toList=a.data.toList++b.data.toList:=by simp[ByteArray.data_append]
theorem e8 (l:List UInt8):(⟨l.toArray⟩:ByteArray).data.toList=l:=by simp
theorem LU (c:Int):pk c 3=0∨pk c 3=1∨pk c 3=2:=by
 have h0:=ma (c:=c) (n:=3) (by omega)
 have h1:=zb (c:=c) (n:=3) (by omega)
 omega
theorem bs (i:Int):bN (vB i)=true:=by
 unfold vB
 split
 ·decide +kernel
 ·split<;>decide +kernel
theorem ep:bN kB=true:=by decide +kernel
theorem qx (c:Int):mg (kc c):=by
 have ha:je (F1 c):=Or.inr ⟨bs _,ep,rfl⟩
 have hn:je ⟨e0,e0,GP (ky c / 9)⟩:=Or.inl ⟨rfl,rfl,J1 _⟩
 have hv:je ⟨vB (pk (ky c / 3) 3),kB,0⟩:=Or.inr ⟨bs _,ep,rfl⟩
 unfold kc
 split
 ·exact⟨by simp,ha,Or.inr ⟨by simp,rfl⟩⟩
 ·split
  ·exact⟨by simp,ha,Or.inr ⟨by simp,rfl⟩⟩
  ·split
   ·exact⟨by simp,ha,Or.inl ⟨by simp,hv⟩⟩
   ·split
    ·exact⟨by simp,ha,Or.inl ⟨by simp,hn⟩⟩
    ·exact⟨by simp,ha,Or.inl ⟨by simp,hn⟩⟩
theorem cr (i:Int):fU (lu i):=⟨bs i,Or.inl rfl,Or.inl ⟨rfl,rfl,rfl⟩⟩
theorem dT (i:Int) {l:ByteArray} (h:cD l=true):fU (p9 i l):=⟨bs i,Or.inr h,Or.inl ⟨rfl,rfl,rfl⟩⟩
theorem e9:cD tB=true:=by decide +kernel
theorem mc:cD uB=true:=by decide +kernel
theorem mo:cD ⟨#[65]⟩=true:=by decide +kernel
theorem ei (i:Int):fU (lI i):=⟨bs i,Or.inl rfl,Or.inr ⟨e9,by simp[lI],by simp[lI],by simp[lI]⟩⟩
theorem F5 (c:Int):(∀s∈mC c,fU s)∧(∃s r,mC c=s::r∧s.type=e0)∧(mC c).length≤6:=by
 have h0:=ma (c:=cM c / 3) (n:=3) (by omega)
 have h1:=zb (c:=cM c / 3) (n:=3) (by omega)
 unfold mC
 split
 ·refine⟨?_,⟨_,_,rfl,rfl⟩,by simp⟩
  intro s hs
  simp only[List.mem_cons,List.not_mem_nil,or_false] at hs
  rcases hs with rfl|rfl|rfl
  ·exact cr _
  ·exact ei _
  ·exact ei _
 ·split
  ·refine⟨?_,⟨_,_,rfl,rfl⟩,by simp⟩
   intro s hs
   simp only[List.mem_cons,List.not_mem_nil,or_false] at hs
   rcases hs with rfl|rfl|rfl
   ·exact dT _ (C4 _)
   ·exact⟨bs 1,Or.inl rfl,Or.inr ⟨e9,h0,by simp only;omega,by simp⟩⟩
   ·exact cr _
  ·split
   ·refine⟨?_,⟨_,_,rfl,rfl⟩,by simp⟩
    intro s hs
    simp only[List.mem_cons,List.not_mem_nil,or_false] at hs
    rcases hs with rfl|rfl|rfl
    ·exact dT _ (C4 _)
    ·exact cr _
    ·exact ei _
   ·split
    ·refine⟨?_,⟨_,_,rfl,rfl⟩,by simp⟩
     intro s hs
     simp only[List.mem_cons,List.not_mem_nil,or_false] at hs
     rcases hs with rfl|rfl|rfl|rfl
     ·exact cr _
     ·exact⟨bs 1,Or.inl rfl,Or.inr ⟨mc,by simp,by simp,by simp⟩⟩
     ·exact cr _
     ·exact ei _
    ·split
     ·refine⟨?_,⟨_,_,rfl,rfl⟩,by simp⟩
      intro s hs
      simp only[List.mem_cons,List.not_mem_nil,or_false] at hs
      rcases hs with rfl|rfl|rfl|rfl
      ·exact cr _
      ·exact ei _
      ·exact cr _
      ·exact⟨bs 2,Or.inr (C4 (cM c)),Or.inr ⟨e9,by simp,by simp,by simp⟩⟩
     ·refine⟨?_,⟨_,_,rfl,rfl⟩,by simp⟩
      intro s hs
      simp only[List.mem_cons,List.not_mem_nil,or_false] at hs
      rcases hs with rfl|rfl|rfl
      ·exact dT _ (C4 _)
      ·exact dT _ (C4 _)
      ·exact dT _ mo
theorem Hd (w:Int):(∀c∈LD w,mg c)∧(LD w).length≤6:=by
 unfold LD
 split
 ·refine⟨fun c hc=>?_,by simp⟩
  rw[List.mem_singleton.1 hc];exact qx _
 ·exact⟨(fun c hc=>(by cases hc)),by simp⟩
theorem cY (c w:Int) (q:au) (h1:q.ai=mC c) (h2:q.conds=LD w):gK q:=by
 obtain⟨a,b,d⟩:=F5 c
 obtain⟨e,f⟩:=Hd w
 exact⟨by rw[h1];exact a,by rw[h1];exact b,by rw[h1];exact d,by rw[h2];exact e,by rw[h2];exact f⟩
theorem qb (i:Int):lO (iB i):=Or.inr ⟨bs i,Or.inl rfl⟩
theorem jc (i:Int):lO (iK i):=Or.inr ⟨bs i,Or.inr ep⟩
theorem ra:bN ⟨#[106]⟩=true:=by decide +kernel
theorem LI (i:Int):lO ⟨vB i,⟨#[106]⟩⟩:=Or.inr ⟨bs i,Or.inr ra⟩
theorem j2:lO ⟨e0,e0⟩:=Or.inl ⟨rfl,rfl⟩
theorem lz (c w i:Int):jk (od c w i):=by
 refine Or.inl ?_
 unfold od
 split
 ·refine⟨cY c w _ rfl rfl,?_,by simp,by simp,by simp[dc,aF],by simp[dc,aF],by simp[dc,aF],by simp[dc,aF],by simp[dc,aF],Or.inl rfl,rfl⟩
  intro x hx
  simp only[List.mem_cons,List.not_mem_nil,or_false] at hx
  rcases hx with rfl|rfl|rfl<;>exact qb _
 ·split
  ·refine⟨cY c w _ rfl rfl,?_,by simp,by simp,by simp[dc,aF],by simp[dc,aF],by simp[dc,aF],by simp[dc,aF],by simp[dc,aF],Or.inl rfl,rfl⟩
   intro x hx
   simp only[List.mem_cons,List.not_mem_nil,or_false] at hx
   rcases hx with rfl|rfl
   ·exact jc _
   ·exact j2
  ·split
   ·refine⟨cY c w _ rfl rfl,?_,by simp,by simp,by simp,by simp,by simp,by simp[dc,aF],by simp[dc,aF],Or.inl rfl,rfl⟩
    intro x hx
    simp only[List.mem_cons,List.not_mem_nil,or_false] at hx
    rcases hx with rfl|rfl|rfl
    ·exact jc _
    ·exact jc _
    ·exact LI _
   ·split
    ·refine⟨cY c w _ rfl rfl,?_,by simp,by simp,by simp[dc,aF],by simp[dc,aF],by simp[dc,aF],by simp[dc,aF],by simp[dc,aF],Or.inl rfl,rfl⟩
     intro x hx
     rw[List.mem_singleton.1 hx];exact j2
    ·refine⟨cY c w _ rfl rfl,?_,by simp,by simp,by simp,by simp,by simp[dc,aF],by simp,by simp,Or.inr (by simp),rfl⟩
     intro x hx
     simp only[List.mem_cons,List.not_mem_nil,or_false] at hx
     rcases hx with rfl|rfl
     ·exact jc _
     ·exact qb _
end Pure
def fy (c:Int):ByteArray:=
 if pk c 6=0 then ⟨#[40,32,97,32,41,32]⟩++⟨#[45,91,32,84,32,93,45,62]⟩++⟨#[32,40,32,98,32,41,32]⟩++⟨#[45,91,32,84,32,93,45,62]⟩++⟨#[32,40,32,99,32,41]⟩
 else if pk c 6=1 then (⟨#[40,32,97,32,58,32]⟩++D6 (cM c)++⟨#[32,41]⟩)++⟨#[32,45,91,32,84,32,42,32]⟩++dB (pk (cM c / 3) 3)++⟨#[32,46,46,32,50,32,93,45,62,32,40,32,98,32,41,32,44,32,40,32,99,32,41]⟩
 else if pk c 6=2 then (⟨#[40,32,97,32,58,32]⟩++D6 (cM c)++⟨#[32,41]⟩)++⟨#[32,44,32,40,32,98,32,41,32]⟩++⟨#[45,91,32,84,32,93,45,62]⟩++⟨#[32,40,32,99,32,41]⟩
 else if pk c 6=3 then ⟨#[40,32,97,32,41,32,45,91,32,85,32,42,32,48,32,46,46,32,49,32,93,45,62,32,40,32,98,32,41,32,44,32,40,32,98,32,41,32]⟩++⟨#[45,91,32,84,32,93,45,62]⟩++⟨#[32,40,32,99,32,41]⟩
 else if pk c 6=4 then ⟨#[40,32,97,32,41,32]⟩++⟨#[45,91,32,84,32,93,45,62]⟩++⟨#[32,40,32,98,32,41,32,44,32,40,32,97,32,41,32]⟩++⟨#[45,91,32,84,32,93,45,62]⟩++⟨#[32,40,32,99,32,58,32]⟩++D6 (cM c)++⟨#[32,41]⟩
 else (⟨#[40,32,97,32,58,32]⟩++D6 (cM c)++⟨#[32,41]⟩)++⟨#[32,44,32,40,32,98,32,58,32]⟩++D6 (cM c / 3)++⟨#[32,41,32,44,32,40,32,99,32,58,32,65,32,41]⟩
def Mb (i:Int):ByteArray:=
 if pk i 5=0 then ⟨#[32,82,69,84,85,82,78,32,97,32,44,32,98,32,44,32,99]⟩ else if pk i 5=1 then ⟨#[32,82,69,84,85,82,78,32,97,32,46,32,107,32,44,32,67,79,85,78,84]⟩ else if pk i 5=2 then ⟨#[32,82,69,84,85,82,78,32,97,32,46,32,107,32,44,32,98,32,46,32,107,32,44,32,99,32,46,32,106,32,79,82,68,69,82,32,66,89,32,50,32,68,69,83,67]⟩ else if pk i 5=3 then ⟨#[32,82,69,84,85,82,78,32,67,79,85,78,84]⟩ else ⟨#[32,82,69,84,85,82,78,32,99,32,46,32,107,32,44,32,97,32,79,82,68,69,82,32,66,89,32,49,32,83,75,73,80,32,49,32,76,73,77,73,84,32,51]⟩
namespace Pure
theorem j4 {l:List ByteArray} (h:l≠[]):ju l=32::iy l:=by
 cases l with
 | nil=>exact absurd rfl h
 | cons a r=>rw[nj,qR]
theorem Lp (t:gj):ig t≠[]:=by unfold ig;split<;>simp
theorem LC:vB 0=⟨#[97]⟩:=rfl
theorem LV:vB 1=⟨#[98]⟩:=rfl
theorem LN:vB 2=⟨#[99]⟩:=rfl
theorem cT (l:Array UInt8):bl ⟨l⟩=l.toList:=rfl
theorem ua:e0.toList.isEmpty=true:=dY
theorem Ms:tB.toList.isEmpty=false:=kq e9
theorem My:uB.toList.isEmpty=false:=kq mc
theorem Mz:(⟨#[65]⟩:ByteArray).toList.isEmpty=false:=kq mo
theorem LF (c:Int):(D6 c).toList.isEmpty=false:=kq (C4 c)
theorem Mn (i:Int):(vB i).toList.isEmpty=false:=eo (bs i)
theorem Mv:bl (dB 0)=[48]:=by rw[lp];decide +kernel
theorem Mp:bl (dB 1)=[49]:=by rw[lp];decide +kernel
theorem Mt:bl (dB 2)=[50]:=by rw[lp];decide +kernel
theorem Mw:bl (dB 3)=[51]:=by rw[lp];decide +kernel
theorem jB (c:Int):ju (bT iV true (mC c))=32::(fy c).data.toList:=by
 have hb:∀s:ByteArray,s.data.toList=bl s:=fun _=>rfl
 unfold mC fy
 split
 ·simp only[bT,iV,mU,pO,lu,lI,ua,Ms,LC,LV,LN,bb]
  simp[nj,o5,cT,bE,bA,jG,da,tB]
 ·split
  ·simp only[bT,iV,mU,pO,lu,p9,ua,Ms,LF,LC,LV,LN,bb]
   simp[nj,o5,cT,bE,bA,jG,da,bX,aK,dU,kw,tB,Mt,hb]
  ·split
   ·simp only[bT,iV,mU,pO,lu,p9,lI,ua,Ms,LF,LC,LV,LN,bb]
    simp[nj,o5,cT,bE,bA,jG,da,bX,aK,tB,hb]
   ·split
    ·simp only[bT,iV,mU,pO,lu,lI,ua,Ms,My,LC,LV,LN,bb]
     simp[nj,o5,cT,bE,bA,jG,da,aK,dU,kw,tB,uB,Mv,Mp]
    ·split
     ·simp only[bT,iV,mU,pO,lu,lI,ua,Ms,LF,LC,LV,LN,bb]
      simp[nj,o5,cT,bE,bA,jG,da,bX,aK,tB,hb]
     ·simp only[bT,iV,mU,p9,ua,Mz,LF,LC,LV,LN,bb]
      simp[nj,o5,cT,bE,bA,bX,aK,hb]
theorem ck {c w:Int} (h:¬0<pk w 3):a8 c w=⟨#[77,65,84,67,72,32]⟩++fy c:=by
 apply KD
 unfold a8 mu
 rw[e8,bb,qR,cO]
 have e1:(dc c w).ai=mC c:=rfl
 have e2:(dc c w).conds=[]:=by unfold dc LD;simp[h]
 rw[e1,e2,jB]
 simp[bT,o5,dz,cT]
theorem b8 {c w:Int} (h:0<pk w 3):a8 c w=⟨#[77,65,84,67,72,32]⟩++fy c++⟨#[32,87,72,69,82,69,32]⟩++bc (kc (w.tdiv 3)):=by
 apply KD
 unfold a8 mu bc
 rw[e8,bb,bb,bb,e8,qR,cO]
 have e1:(dc c w).ai=mC c:=rfl
 have e2:(dc c w).conds=[kc (w.tdiv 3)]:=by unfold dc LD;simp[h]
 have e3:bT oG true [kc (w.tdiv 3)]=ej::(ig (kc (w.tdiv 3)).a++xN (kc (w.tdiv 3))):=by simp[bT,oG]
 rw[e1,e2,jB,e3,nj,j4 (by simp[Lp])]
 simp[dz,ej,cT]
theorem fe (c w i:Int):br c w i=a8 c w++Mb i:=by
 apply KD
 have hm:∀q:au,q.kind=1→q.ai=mC c→q.conds=LD w→cJ q=mu (dc c w)++Ez q:=by
  intro q h1 h2 h3
  unfold cJ nv
  rw[if_neg (by omega),if_neg (by omega),if_pos h1]
  unfold mu
  rw[h2,h3];rfl
 have hj:∀l:List ByteArray,iy (mu (dc c w)++l)=iy (mu (dc c w))++ju l:=by
  intro l
  unfold mu
  rw[List.cons_append,qR,qR,cO,List.append_assoc]
 unfold br a8
 rw[e8,bb,e8]
 unfold od Mb
 split
 ·rw[hm _ rfl rfl rfl,hj]
  congr 1
  simp only[Ez,pL,oT,td,oS,bT,oA,xq,iB,ua,LC,LV,LN,dc,aF]
  simp[nj,o5,cT,bq,aK]
 ·split
  ·rw[hm _ rfl rfl rfl,hj]
   congr 1
   simp only[Ez,pL,oT,td,oS,bT,oA,xq,iK,ua,eo ep,LC,dc,aF]
   simp[nj,o5,cT,bq,aK,eX,kB,ga]
  ·split
   ·rw[hm _ rfl rfl rfl,hj]
    congr 1
    simp only[Ez,pL,oT,td,oS,bT,oA,xq,iK,eo ep,eo ra,LC,LV,LN,dc,aF]
    simp[nj,o5,cT,bq,aK,eX,kB,eJ,IH,jF,Mt]
   ·split
    ·rw[hm _ rfl rfl rfl,hj]
     congr 1
     simp only[Ez,pL,oT,td,oS,bT,oA,xq,ua,dc,aF]
     simp[nj,o5,cT,bq,ga]
    ·rw[hm _ rfl rfl rfl,hj]
     congr 1
     simp only[Ez,pL,oT,td,oS,bT,oA,xq,iK,iB,ua,eo ep,LC,LN,dc,aF]
     simp[nj,o5,cT,bq,aK,eX,kB,eJ,IH,jI,iN,Mp,Mw]
theorem yc {c:Int} (h:pk c 5=0):bc (kc c)=vB (pk (ky c) 3)++⟨#[32,46,32,107]⟩++⟨#[32,73,83,32,78,85,76,76]⟩:=by
 apply KD
 unfold bc kc
 rw[if_pos h,e8,bb,bb]
 simp only[ig,xN,F1,Mn]
 simp[qR,nj,o5,bl,eX,kB,ng,il]
theorem Lu {c:Int} (h:pk c 5=1):bc (kc c)=vB (pk (ky c) 3)++⟨#[32,46,32,107]⟩++⟨#[32,73,83,32,78,79,84,32,78,85,76,76]⟩:=by
 apply KD
 unfold bc kc
 rw[if_neg (by omega),if_pos h,e8,bb,bb]
 simp only[ig,xN,F1,Mn]
 simp[qR,nj,o5,bl,eX,kB,ng,jo,il]
theorem Lr {c:Int} (h:pk c 5=2):bc (kc c)=vB (pk (ky c) 3)++⟨#[32,46,32,107]⟩++⟨#[32,60,61,32]⟩++vB (pk (ky c / 3) 3)++⟨#[32,46,32,107]⟩:=by
 apply KD
 unfold bc kc
 rw[if_neg (by omega),if_neg (by omega),if_pos h,e8,bb,bb,bb,bb]
 simp only[ig,xN,F1,Mn,lR]
 simp[qR,nj,o5,bl,eX,kB,D2]
theorem As {c:Int} (h:pk c 5=3):bc (kc c)=vB (pk (ky c) 3)++⟨#[32,46,32,107]⟩++⟨#[32,60,62,32]⟩++dB (GP (ky c / 9)):=by
 apply KD
 unfold bc kc
 rw[if_neg (by omega),if_neg (by omega),if_neg (by omega),if_pos h,e8,bb,bb,bb]
 simp only[ig,xN,F1,Mn,ua,lR]
 simp[qR,nj,o5,bl,eX,kB,D7]
theorem zi {c:Int} (h:pk c 5=4):bc (kc c)=vB (pk (ky c) 3)++⟨#[32,46,32,107]⟩++⟨#[32,60,32]⟩++dB (GP (ky c / 9)):=by
 apply KD
 unfold bc kc
 rw[if_neg (by omega),if_neg (by omega),if_neg (by omega),if_neg (by omega),e8,bb,bb,bb]
 simp only[ig,xN,F1,Mn,ua,lR]
 simp[qR,nj,o5,bl,eX,kB,D9]
theorem gy {l:List ByteArray} (h:WL 160 l):(⟨(iy l).toArray⟩:ByteArray).size≤2000:=by
 have hz:(⟨(iy l).toArray⟩:ByteArray).size=(iy l).length:=by simp[ByteArray.size]
 rw[hz]
 exact Bt h
theorem ad (c:Int):(bc (kc c)).size≤2000:=by
 unfold bc
 have h:=Hz (qx c) true
 refine gy ⟨fun w hw=>h.1 w ?_,?_⟩
 ·unfold oG;exact List.mem_cons_of_mem _ hw
 ·have:=h.2
  unfold oG at this
  simp only[List.length_cons] at this
  omega
theorem b9 (c w:Int):(a8 c w).size≤2000:=by
 unfold a8
 exact gy (dD (pA (cY c w _ rfl rfl)) (by omega))
theorem bo (c:Int):(dB (pk c 3)).size≤11:=(nD (n:=pk c 3) (by
 have h0:=ma (c:=c) (n:=3) (by omega)
 have h1:=zb (c:=c) (n:=3) (by omega)
 exact⟨by omega,by omega⟩)).2
theorem Ln (i:Int):vB i=vB 0∨vB i=vB 1∨vB i=vB 2:=by
 by_cases h:i=0
 ·left;rw[h]
 ·by_cases h1:i=1
  ·right;left;rw[h1]
  ·right;right;unfold vB;simp[h,h1]
theorem js {l:List aN} {s:aN} (h:s∈l):fl l s.name=true:=by
 unfold fl
 exact List.any_eq_true.2 ⟨s,h,EW _⟩
theorem tj (c i:Int):fl (mC c) (vB i)=true:=by
 have key:∀j:Int,j=0∨j=1∨j=2→∃s∈mC c,s.name=vB j:=by
  intro j hj
  unfold mC
  rcases hj with rfl|rfl|rfl
  ·split
   ·exact⟨lu 0,by simp,rfl⟩
   ·split
    ·exact⟨p9 0 (D6 (cM c)),by simp,rfl⟩
    ·split
     ·exact⟨p9 0 (D6 (cM c)),by simp,rfl⟩
     ·split
      ·exact⟨lu 0,by simp,rfl⟩
      ·split
       ·exact⟨lu 0,by simp,rfl⟩
       ·exact⟨p9 0 (D6 (cM c)),by simp,rfl⟩
  ·split
   ·exact⟨lI 1,by simp,rfl⟩
   ·split
    ·exact⟨⟨vB 1,e0,tB,pk (cM c / 3) 3,2⟩,by simp,rfl⟩
    ·split
     ·exact⟨lu 1,by simp,rfl⟩
     ·split
      ·exact⟨lu 1,by simp,rfl⟩
      ·split
       ·exact⟨lI 1,by simp,rfl⟩
       ·exact⟨p9 1 (D6 (cM c / 3)),by simp,rfl⟩
  ·split
   ·exact⟨lI 2,by simp,rfl⟩
   ·split
    ·exact⟨lu 2,by simp,rfl⟩
    ·split
     ·exact⟨lI 2,by simp,rfl⟩
     ·split
      ·exact⟨lI 2,by simp,rfl⟩
      ·split
       ·exact⟨⟨vB 2,D6 (cM c),tB,1,1⟩,by simp,rfl⟩
       ·exact⟨p9 2 ⟨#[65]⟩,by simp,rfl⟩
 rcases Ln i with e|e|e
 ·obtain⟨s,hs,hn⟩:=key 0 (by simp);rw[e,←hn];exact js hs
 ·obtain⟨s,hs,hn⟩:=key 1 (by simp);rw[e,←hn];exact js hs
 ·obtain⟨s,hs,hn⟩:=key 2 (by simp);rw[e,←hn];exact js hs
theorem E0 (c:Int):(∃i,(kc c).a.name=vB i)∧((kc c).b.name=e0∨∃i,(kc c).b.name=vB i):=by
 unfold kc
 split
 ·exact⟨⟨_,rfl⟩,Or.inl rfl⟩
 ·split
  ·exact⟨⟨_,rfl⟩,Or.inl rfl⟩
  ·split
   ·exact⟨⟨_,rfl⟩,Or.inr ⟨_,rfl⟩⟩
   ·split
    ·exact⟨⟨_,rfl⟩,Or.inl rfl⟩
    ·exact⟨⟨_,rfl⟩,Or.inl rfl⟩
theorem F2 (c w i:Int):∀x∈(od c w i).items,x.name=e0∨∃j,x.name=vB j:=by
 unfold od
 split
 ·intro x hx
  simp only[List.mem_cons,List.not_mem_nil,or_false] at hx
  rcases hx with rfl|rfl|rfl<;>first|exact Or.inr ⟨0,rfl⟩|exact Or.inr ⟨1,rfl⟩|exact Or.inr ⟨2,rfl⟩
 ·split
  ·intro x hx
   simp only[List.mem_cons,List.not_mem_nil,or_false] at hx
   rcases hx with rfl|rfl
   ·first|exact Or.inr ⟨0,rfl⟩|exact Or.inr ⟨1,rfl⟩|exact Or.inr ⟨2,rfl⟩
   ·exact Or.inl rfl
  ·split
   ·intro x hx
    simp only[List.mem_cons,List.not_mem_nil,or_false] at hx
    rcases hx with rfl|rfl|rfl<;>first|exact Or.inr ⟨0,rfl⟩|exact Or.inr ⟨1,rfl⟩|exact Or.inr ⟨2,rfl⟩
   ·split
    ·intro x hx
     rw[List.mem_singleton.1 hx];exact Or.inl rfl
    ·intro x hx
     simp only[List.mem_cons,List.not_mem_nil,or_false] at hx
     rcases hx with rfl|rfl<;>first|exact Or.inr ⟨0,rfl⟩|exact Or.inr ⟨1,rfl⟩|exact Or.inr ⟨2,rfl⟩
theorem ji (c w i:Int):(od c w i).kind=1∧(od c w i).ai=mC c∧(od c w i).conds=LD w∧(od c w i).name=e0∧(od c w i).dest=e0:=by
 unfold od
 repeat' split
 all_goals exact⟨rfl,rfl,rfl,rfl,rfl⟩
theorem yl (c w i:Int):eG (od c w i)=true:=by
 obtain⟨hk,hs,hc,hn,ht⟩:=ji c w i
 unfold eG lM
 rw[hk,hs,hc,hn,ht]
 simp only[Bool.and_eq_true]
 refine⟨?_,by simp⟩
 rw[List.all_eq_true]
 have ok:∀n:ByteArray,(n=e0∨∃j,n=vB j)→(n.toList.isEmpty || fl (mC c) n)=true:=by
  rintro n (rfl|⟨j,rfl⟩)
  ·rw[ua];rfl
  ·rw[tj];simp
 intro n hmem
 simp only[List.mem_append,List.mem_flatMap,List.mem_map] at hmem
 rcases hmem with (⟨x,hx,hxn⟩|⟨x,hx,rfl⟩)|hmem
 ·unfold LD at hx
  split at hx
  ·rw[List.mem_singleton.1 hx] at hxn
   obtain⟨h1,h2⟩:=E0 (w.tdiv 3)
   simp only[List.mem_cons,List.not_mem_nil,or_false] at hxn
   rcases hxn with rfl|rfl
   ·exact ok _ (Or.inr h1)
   ·exact ok _ h2
  ·cases hx
 ·exact ok _ (F2 c w i x hx)
 ·rw[if_pos (by omega)] at hmem
  simp only[List.mem_cons,List.not_mem_nil,or_false,or_self] at hmem
  exact ok _ (Or.inl hmem)
end Pure
section
open Go.RowKit
theorem jd.later {B:Nat} {q:au} {vs vc vi vp:Value} {w w':World} (h:jd B q vs vc vi vp w) (hb:Below w.heap.size w w'):jd B q vs vc vi vp w':=
 have g:=af hb Option.none
 ⟨bW h.rs g,bW h.rc g,bW h.rt g,bW h.rp g⟩
end
section
open Go.RowKit Go.Maps Go.Sort
def gA (nm rn:ByteArray) (rb:Nat) (q:au) (vs vc vi vp:Value):Array Value:=
 #[.string nm,.string rn,.map (some rb),.int .i64 q.kind,vs,vc,vi,.int .i64 q.order,.bool q.down,.int .i64 q.skip,.int .i64 q.bR,.string q.name,.string q.key,.string q.value.name,.string q.value.key,.int .i64 q.value.val,.string q.type,.string q.dest,.string q.label,vp]
theorem di {ops:Array Oper} {rest:List Oper} {op:Oper} {a:Act} {w:World} {Q:Exit→Act→World→Prop} (hgd:op.guard=none) (x y:Operand) (ho:op.op=.indexAddr 127 x y) {V c:Nat} (hx:a.eval x=.slice (some ⟨V,0,none⟩) 1 c) (hy:a.eval y=.int .i64 0) (h:wpList Tryz.prog ops Q rest (a.put op.dst (.pointer (some ⟨V,0,none⟩))) w):wpList Tryz.prog ops Q (op::rest) a w:=
 wpList_plain hgd fun _ hK=>by
  unfold Oper.wp execOp
  simp only[ho,hx,hy]
  go_simp
  exact hK _ _ h
theorem ms {G V vc:Nat} {cs wc:Array Value} {W:World} {nm:ByteArray} (hg:Loc W G cs 129) (h4:cs[4]?=some (.slice (some ⟨V,0,none⟩) 1 vc)) (hv:W.rangeAt V 0 wc.toList) (hs:wc.size=20) (ho:wc.all (·.oneCell')=true) (h0:wc[0]?=some (.string nm)):
  Calls Tryz.prog 72 #[.pointer (some ⟨G,0,none⟩),.string nm] W fun e W'=>e=.returned (.tuple #[.agg wc,.bool true])∧Below W.heap.size W W':=by
 have HB:=hid ((Below.refl W.heap.size W).alloc (Nat.le_refl _) (.cells iM 145))
 have HL:=hid (Loc.new W iM 145)
 have HG:=hid (hg.alloc (.cells iM 145))
 have H4:=hid h4
 have H0:=hid h0
 have HS:=hid hs
 have HO:=hid ho
 have HV:Hid (∀w,Below W.heap.size W w→w.rangeAt V 0 wc.toList):=hid (fun w hb j v hj=>by
  have h1:=hv j v hj
  exact(hb.cell (block_lt_of_cell h1)).trans h1)
 have HSZ:Hid ((Tryz.prog.info? 145).map (·.size)=some wc.toList.length):=hid (by rw[Tryz.sU,Array.length_toList,hs])
 clear hg h4 h0 hv hs ho
 go_enter Tryz.func72,Tryz.ntmps72
 go_upto_region 0 with fail
 refine wp_region_lit ?_
 refine lY rfl rfl ?_
 obtain⟨X,hX⟩:∃X,X=W.heap.size:=⟨_,rfl⟩
 rw[←hX] at HL⊢
 have HXW:=hid hX
 clear hX
 generalize W.alloc (.cells iM 145)=W1 at HB HL HG⊢
 have c4:W1.cell? ⟨G,4,none⟩=some (.slice (some ⟨V,0,none⟩) 1 vc):=(HG.out.cell 4).trans H4.out
 go_wp2_with fail
 go_loopg [13] 1 (fun _ iv w=>iv=.int .i64 0∧w=W1)
 case atStart=>exact⟨rfl,rfl⟩
 case round=>
  obtain⟨rfl,rfl⟩:=hrel
  go_upto_region 3 with fail
  refine wp_region_lit ?_
  refine di rfl _ _ rfl rfl rfl ?_
  refine wpList_load_mid rfl 145 _ rfl V 0 rfl wc.toList _ (HV.out _ HB.out) Tryz.underlying145 rfl HSZ.out ?_
  refine lY rfl rfl ?_
  refine wpList_store_mid rfl 145 _ _ rfl wr.heap.size 0 wc.toList.toArray rfl rfl (by rw[Array.toArray_toList,HS.out];exact(Loc.new wr iM 145).there) (by rw[Array.toArray_toList,HS.out];exact Tryz.sU) (by rw[Array.toArray_toList];exact HO.out) ?_
  rw[Array.toArray_toList]
  have HL2:=hid ((Loc.new wr iM 145).dh (new:=wc) (by rw[HS.out];rfl))
  have hb2:=((Below.refl wr.heap.size wr).alloc (Nat.le_refl _) (.cells iM 145)).grown (aS wr.heap.size wc.toList 0 _) (by simp) (fun j hj=>by injection hj with hj;rw[←hj];exact Nat.le_refl _)
  have HB2:=hid (HB.out.trans (hb2.mono HB.out.size))
  have HX2:=hid (HL.out.grown (af hb2 none) (by simp))
  obtain⟨Y,hY⟩:∃Y,Y=wr.heap.size:=⟨_,rfl⟩
  rw[←hY] at HL2 HB2 HX2⊢
  clear hY hb2 c4 HG
  generalize (wr.alloc (.cells iM 145)).setCells Y 0 wc.toList=W2 at HL2 HB2 HX2⊢
  have c0:W2.cell? ⟨Y,0,none⟩=some (.string nm):=(HL2.out.cell 0).trans H0.out
  go_upto_region 5 with fail
  refine wp_region_lit ?_
  refine wpList_load_mid rfl 145 _ rfl Y 0 rfl wc.toList _ HL2.out.range Tryz.underlying145 rfl HSZ.out ?_
  refine wpList_store_mid rfl 145 _ _ rfl X 0 wc.toList.toArray rfl rfl (by rw[Array.toArray_toList,HS.out];exact HX2.out.there) (by rw[Array.toArray_toList,HS.out];exact Tryz.sU) (by rw[Array.toArray_toList];exact HO.out) ?_
  rw[Array.toArray_toList]
  have HX3:=hid (HX2.out.dh (new:=wc) (by rw[HS.out];rfl))
  have HB3:=hid (HB2.out.grown (aS X wc.toList 0 W2) HB2.out.size (fun j hj=>by injection hj with hj;rw[←hj,HXW.out];exact Nat.le_refl _))
  generalize W2.setCells X 0 wc.toList=W3 at HX3 HB3⊢
  go_wp2_with fail
  exact bodyPost_ret (Hi Tryz.results72 rfl rfl HX3.out HS.out) rfl ⟨rfl,HB3.out⟩
theorem vk {G V vc:Nat} {cs wc:Array Value} {W:World} {nm vn:ByteArray} (hg:Loc W G cs 129) (h4:cs[4]?=some (.slice (some ⟨V,0,none⟩) 1 vc)) (hv:W.rangeAt V 0 wc.toList) (hs:wc.size=20) (ho:wc.all (·.oneCell')=true) (h0:wc[0]?=some (.string vn)) (hne:(vn.toList==nm.toList)=false):
  Calls Tryz.prog 72 #[.pointer (some ⟨G,0,none⟩),.string nm] W fun e W'=>e=.returned (.tuple #[.agg iM,.bool false])∧Below W.heap.size W W':=by
 have HB:=hid ((Below.refl W.heap.size W).alloc (Nat.le_refl _) (.cells iM 145))
 have HL:=hid (Loc.new W iM 145)
 have HG:=hid (hg.alloc (.cells iM 145))
 have H4:=hid h4
 have H0:=hid h0
 have HS:=hid hs
 have HO:=hid ho
 have HV:Hid (∀w,Below W.heap.size W w→w.rangeAt V 0 wc.toList):=hid (fun w hb j v hj=>by
  have h1:=hv j v hj
  exact(hb.cell (block_lt_of_cell h1)).trans h1)
 have HSZ:Hid ((Tryz.prog.info? 145).map (·.size)=some wc.toList.length):=hid (by rw[Tryz.sU,Array.length_toList,hs])
 clear hg h4 h0 hv hs ho
 go_enter Tryz.func72,Tryz.ntmps72
 go_upto_region 0 with fail
 refine wp_region_lit ?_
 refine lY rfl rfl ?_
 obtain⟨X,hX⟩:∃X,X=W.heap.size:=⟨_,rfl⟩
 rw[←hX] at HL⊢
 have HXW:=hid hX
 clear hX
 generalize W.alloc (.cells iM 145)=W1 at HB HL HG⊢
 have c4:W1.cell? ⟨G,4,none⟩=some (.slice (some ⟨V,0,none⟩) 1 vc):=(HG.out.cell 4).trans H4.out
 go_wp2_with fail
 go_loopg [13] 1 (fun c iv w=>(c=1∧iv=.int .i64 0∧w=W1)∨(c=0∧iv=.int .i64 1∧Below W.heap.size W w∧Loc w X iM 145))
 case atStart=>exact Or.inl ⟨rfl,rfl,rfl⟩
 case round=>
  rcases hrel with ⟨hc,rfl,rfl⟩|⟨hc,rfl,hbw,hlw⟩
  ·go_upto_region 3 with fail
   refine wp_region_lit ?_
   refine di rfl _ _ rfl rfl rfl ?_
   refine wpList_load_mid rfl 145 _ rfl V 0 rfl wc.toList _ (HV.out _ HB.out) Tryz.underlying145 rfl HSZ.out ?_
   refine lY rfl rfl ?_
   refine wpList_store_mid rfl 145 _ _ rfl wr.heap.size 0 wc.toList.toArray rfl rfl (by rw[Array.toArray_toList,HS.out];exact(Loc.new wr iM 145).there) (by rw[Array.toArray_toList,HS.out];exact Tryz.sU) (by rw[Array.toArray_toList];exact HO.out) ?_
   rw[Array.toArray_toList]
   have HL2:=hid ((Loc.new wr iM 145).dh (new:=wc) (by rw[HS.out];rfl))
   have hb2:=((Below.refl wr.heap.size wr).alloc (Nat.le_refl _) (.cells iM 145)).grown (aS wr.heap.size wc.toList 0 _) (by simp) (fun j hj=>by injection hj with hj;rw[←hj];exact Nat.le_refl _)
   have HB2:=hid (HB.out.trans (hb2.mono HB.out.size))
   have HX2:=hid (HL.out.grown (af hb2 none) (by simp))
   obtain⟨Y,hY⟩:∃Y,Y=wr.heap.size:=⟨_,rfl⟩
   rw[←hY] at HL2 HB2 HX2⊢
   clear hY hb2 c4 HG
   generalize (wr.alloc (.cells iM 145)).setCells Y 0 wc.toList=W2 at HL2 HB2 HX2⊢
   have c0:W2.cell? ⟨Y,0,none⟩=some (.string vn):=(HL2.out.cell 0).trans H0.out
   go_wp2_with fail
   go_roundg 0
   case rel=>exact Or.inr ⟨rfl,rfl,HB2.out,HX2.out⟩
   case measure=>omega
  ·have HBW:=hid hbw
   have HLW:=hid hlw
   clear hbw hlw c4
   go_upto_region 7 with fail
   refine wp_region_lit ?_
   refine ry rfl rfl ?_
   refine wpList_store_mid rfl 145 _ _ rfl X 0 iM rfl rfl HLW.out.there Tryz.sU uF ?_
   have HL2:=hid (HLW.out.dh (new:=iM) rfl)
   have HB2:=hid (HBW.out.grown (aS X iM.toList 0 wr) HBW.out.size (fun j hj=>by injection hj with hj;rw[←hj,HXW.out];exact Nat.le_refl _))
   generalize wr.setCells X 0 iM.toList=W2 at HL2 HB2⊢
   go_wp2_with fail
   exact bodyPost_ret (Hi Tryz.results72 rfl rfl HL2.out rfl) rfl ⟨rfl,HB2.out⟩
end
end Go.Proofs.YtobgbmfpicmpcaaGreatDoor
