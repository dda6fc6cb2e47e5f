/- The two ways to write a query, the program's and the reference's, as plain functions: the words that the program joins, the text that the reference makes. No program in this text. -/
import Derived.Test.YtobgbmfpicmpcaaGreatDoorC05
import Derived.Lib.Join
import Derived.Lib.ItoaNum
import Derived.Test.YtobgbmfpicmpcaaGreatDoorC17
import Derived.Test.YtobgbmfpicmpcaaGreatDoorC38
set_option maxRecDepth 100000
set_option maxHeartbeats 8000000
namespace Go.Proofs.YtobgbmfpicmpcaaGreatDoor
namespace Pure
theorem spaced_append (a b:List ByteArray):ju (a++b)=ju a++ju b:=by simp[ju,Lib.joinTail]
theorem bl_dec (n:Int):bl (dB n)=Lib.itoa n:=by simp[bl,dB]
end Pure
def vB (i:Int):ByteArray:=if i=0 then ⟨#[97]⟩ else if i=1 then ⟨#[98]⟩ else ⟨#[99]⟩
def kB:ByteArray:=⟨#[107]⟩
def tB:ByteArray:=⟨#[84]⟩
def uB:ByteArray:=⟨#[85]⟩
def kcD (c:Int):Int:=pk (c.tdiv 5) 1099511627776
def kcA (c:Int):gj:=⟨vB (pk (kcD c) 3),kB,0⟩
def kc (c:Int):bP:=
 if pk c 5=0 then ⟨7,kcA c,lD⟩ else if pk c 5=1 then ⟨8,kcA c,lD⟩
 else if pk c 5=2 then ⟨4,kcA c,⟨vB (pk (kcD c / 3) 3),kB,0⟩⟩
 else if pk c 5=3 then ⟨2,kcA c,⟨e0,e0,GP (kcD c / 9)⟩⟩ else ⟨3,kcA c,⟨e0,e0,GP (kcD c / 9)⟩⟩
def kcText (c:bP):ByteArray:=⟨(iy (ig c.a++xN c)).toArray⟩
def kmD (c:Int):Int:=pk (c.tdiv 6) 1099511627776
def at0 (i:Int):aN:=⟨vB i,e0,e0,0,0⟩
def at1 (i:Int) (l:ByteArray):aN:=⟨vB i,l,e0,0,0⟩
def to0 (i:Int):aN:=⟨vB i,e0,tB,1,1⟩
def kmS (c:Int):List aN:=
 if pk c 6=0 then [at0 0,to0 1,to0 2]
 else if pk c 6=1 then [at1 0 (D6 (kmD c)),⟨vB 1,e0,tB,pk (kmD c / 3) 3,2⟩,at0 2]
 else if pk c 6=2 then [at1 0 (D6 (kmD c)),at0 1,to0 2]
 else if pk c 6=3 then [at0 0,⟨vB 1,e0,uB,0,1⟩,at0 1,to0 2]
 else if pk c 6=4 then [at0 0,to0 1,at0 0,⟨vB 2,D6 (kmD c),tB,1,1⟩]
 else [at1 0 (D6 (kmD c)),at1 1 (D6 (kmD c / 3)),at1 2 ⟨#[65]⟩]
def kmC (w:Int):List bP:=if 0<pk w 3 then [kc (w.tdiv 3)] else []
def kmQ (c w:Int):au:={aF with ai:=kmS c,conds:=kmC w}
def kmText (c w:Int):ByteArray:=⟨(iy (mu (kmQ c w))).toArray⟩
def iB (i:Int):bi:=⟨vB i,e0⟩
def iK (i:Int):bi:=⟨vB i,kB⟩
namespace Pure
theorem ba_app (a b:ByteArray):(a++b).data.toList=a.data.toList++b.data.toList:=by simp[ByteArray.data_append]
theorem ba_mk (l:List UInt8):(⟨l.toArray⟩:ByteArray).data.toList=l:=by simp
theorem pk3 (c:Int):pk c 3=0∨pk c 3=1∨pk c 3=2:=by
 have h0:=ma (c:=c) (n:=3) (by omega)
 have h1:=zb (c:=c) (n:=3) (by omega)
 omega
theorem vB_name (i:Int):bN (vB i)=true:=by
 unfold vB
 split
 ·decide +kernel
 ·split<;>decide +kernel
theorem kB_name:bN kB=true:=by decide +kernel
theorem kc_good (c:Int):mg (kc c):=by
 have ha:je (kcA c):=Or.inr ⟨vB_name _,kB_name,rfl⟩
 have hn:je ⟨e0,e0,GP (kcD c / 9)⟩:=Or.inl ⟨rfl,rfl,J1 _⟩
 have hv:je ⟨vB (pk (kcD c / 3) 3),kB,0⟩:=Or.inr ⟨vB_name _,kB_name,rfl⟩
 unfold kc
 split
 ·exact⟨by simp,ha,Or.inr ⟨by simp,rfl⟩⟩
 ·split
  ·exact⟨by simp,ha,Or.inr ⟨by simp,rfl⟩⟩
  ·split
   ·exact⟨by simp,ha,Or.inl ⟨by simp,hv⟩⟩
   ·split
    ·exact⟨by simp,ha,Or.inl ⟨by simp,hn⟩⟩
    ·exact⟨by simp,ha,Or.inl ⟨by simp,hn⟩⟩
theorem at0_good (i:Int):fU (at0 i):=⟨vB_name i,Or.inl rfl,Or.inl ⟨rfl,rfl,rfl⟩⟩
theorem at1_good (i:Int) {l:ByteArray} (h:cD l=true):fU (at1 i l):=⟨vB_name i,Or.inr h,Or.inl ⟨rfl,rfl,rfl⟩⟩
theorem tB_title:cD tB=true:=by decide +kernel
theorem uB_title:cD uB=true:=by decide +kernel
theorem aB_title:cD ⟨#[65]⟩=true:=by decide +kernel
theorem to0_good (i:Int):fU (to0 i):=⟨vB_name i,Or.inl rfl,Or.inr ⟨tB_title,by simp[to0],by simp[to0],by simp[to0]⟩⟩
theorem kmS_good (c:Int):(∀s∈kmS c,fU s)∧(∃s r,kmS c=s::r∧s.type=e0)∧(kmS c).length≤6:=by
 have h0:=ma (c:=kmD c / 3) (n:=3) (by omega)
 have h1:=zb (c:=kmD c / 3) (n:=3) (by omega)
 unfold kmS
 split
 ·refine⟨?_,⟨_,_,rfl,rfl⟩,by simp⟩
  intro s hs
  simp only[List.mem_cons,List.not_mem_nil,or_false] at hs
  rcases hs with rfl|rfl|rfl
  ·exact at0_good _
  ·exact to0_good _
  ·exact to0_good _
 ·split
  ·refine⟨?_,⟨_,_,rfl,rfl⟩,by simp⟩
   intro s hs
   simp only[List.mem_cons,List.not_mem_nil,or_false] at hs
   rcases hs with rfl|rfl|rfl
   ·exact at1_good _ (C4 _)
   ·exact⟨vB_name 1,Or.inl rfl,Or.inr ⟨tB_title,h0,by simp only;omega,by simp⟩⟩
   ·exact at0_good _
  ·split
   ·refine⟨?_,⟨_,_,rfl,rfl⟩,by simp⟩
    intro s hs
    simp only[List.mem_cons,List.not_mem_nil,or_false] at hs
    rcases hs with rfl|rfl|rfl
    ·exact at1_good _ (C4 _)
    ·exact at0_good _
    ·exact to0_good _
   ·split
    ·refine⟨?_,⟨_,_,rfl,rfl⟩,by simp⟩
     intro s hs
     simp only[List.mem_cons,List.not_mem_nil,or_false] at hs
     rcases hs with rfl|rfl|rfl|rfl
     ·exact at0_good _
     ·exact⟨vB_name 1,Or.inl rfl,Or.inr ⟨uB_title,by simp,by simp,by simp⟩⟩
     ·exact at0_good _
     ·exact to0_good _
    ·split
     ·refine⟨?_,⟨_,_,rfl,rfl⟩,by simp⟩
      intro s hs
      simp only[List.mem_cons,List.not_mem_nil,or_false] at hs
      rcases hs with rfl|rfl|rfl|rfl
      ·exact at0_good _
      ·exact to0_good _
      ·exact at0_good _
      ·exact⟨vB_name 2,Or.inr (C4 (kmD c)),Or.inr ⟨tB_title,by simp,by simp,by simp⟩⟩
     ·refine⟨?_,⟨_,_,rfl,rfl⟩,by simp⟩
      intro s hs
      simp only[List.mem_cons,List.not_mem_nil,or_false] at hs
      rcases hs with rfl|rfl|rfl
      ·exact at1_good _ (C4 _)
      ·exact at1_good _ (C4 _)
      ·exact at1_good _ aB_title
theorem kmC_good (w:Int):(∀c∈kmC w,mg c)∧(kmC w).length≤6:=by
 unfold kmC
 split
 ·refine⟨fun c hc=>?_,by simp⟩
  rw[List.mem_singleton.1 hc];exact kc_good _
 ·exact⟨(fun c hc=>(by cases hc)),by simp⟩
theorem km_match (c w:Int) (q:au) (h1:q.ai=kmS c) (h2:q.conds=kmC w):gK q:=by
 obtain⟨a,b,d⟩:=kmS_good c
 obtain⟨e,f⟩:=kmC_good w
 exact⟨by rw[h1];exact a,by rw[h1];exact b,by rw[h1];exact d,by rw[h2];exact e,by rw[h2];exact f⟩
theorem iB_good (i:Int):lO (iB i):=Or.inr ⟨vB_name i,Or.inl rfl⟩
theorem iK_good (i:Int):lO (iK i):=Or.inr ⟨vB_name i,Or.inr kB_name⟩
theorem count_good:lO ⟨e0,e0⟩:=Or.inl ⟨rfl,rfl⟩
end Pure
def kmA (c:Int):ByteArray:=
 if pk c 6=0 then ⟨#[40,32,97,32,41,32]⟩++⟨#[45,91,32,84,32,93,45,62]⟩++⟨#[32,40,32,98,32,41,32]⟩++⟨#[45,91,32,84,32,93,45,62]⟩++⟨#[32,40,32,99,32,41]⟩
 else if pk c 6=1 then (⟨#[40,32,97,32,58,32]⟩++D6 (kmD c)++⟨#[32,41]⟩)++⟨#[32,45,91,32,84,32,42,32]⟩++dB (pk (kmD c / 3) 3)++⟨#[32,46,46,32,50,32,93,45,62,32,40,32,98,32,41,32,44,32,40,32,99,32,41]⟩
 else if pk c 6=2 then (⟨#[40,32,97,32,58,32]⟩++D6 (kmD c)++⟨#[32,41]⟩)++⟨#[32,44,32,40,32,98,32,41,32]⟩++⟨#[45,91,32,84,32,93,45,62]⟩++⟨#[32,40,32,99,32,41]⟩
 else if pk c 6=3 then ⟨#[40,32,97,32,41,32,45,91,32,85,32,42,32,48,32,46,46,32,49,32,93,45,62,32,40,32,98,32,41,32,44,32,40,32,98,32,41,32]⟩++⟨#[45,91,32,84,32,93,45,62]⟩++⟨#[32,40,32,99,32,41]⟩
 else if pk c 6=4 then ⟨#[40,32,97,32,41,32]⟩++⟨#[45,91,32,84,32,93,45,62]⟩++⟨#[32,40,32,98,32,41,32,44,32,40,32,97,32,41,32]⟩++⟨#[45,91,32,84,32,93,45,62]⟩++⟨#[32,40,32,99,32,58,32]⟩++D6 (kmD c)++⟨#[32,41]⟩
 else (⟨#[40,32,97,32,58,32]⟩++D6 (kmD c)++⟨#[32,41]⟩)++⟨#[32,44,32,40,32,98,32,58,32]⟩++D6 (kmD c / 3)++⟨#[32,41,32,44,32,40,32,99,32,58,32,65,32,41]⟩
namespace Pure
theorem spaced_joined {l:List ByteArray} (h:l≠[]):ju l=32::iy l:=by
 cases l with
 | nil=>exact absurd rfl h
 | cons a r=>rw[nj,qR]
theorem termW_ne (t:gj):ig t≠[]:=by unfold ig;split<;>simp
theorem vB0:vB 0=⟨#[97]⟩:=rfl
theorem vB1:vB 1=⟨#[98]⟩:=rfl
theorem vB2:vB 2=⟨#[99]⟩:=rfl
theorem bl_mk (l:Array UInt8):bl ⟨l⟩=l.toList:=rfl
theorem e0e:e0.toList.isEmpty=true:=dY
theorem tBe:tB.toList.isEmpty=false:=kq tB_title
theorem uBe:uB.toList.isEmpty=false:=kq uB_title
theorem aBe:(⟨#[65]⟩:ByteArray).toList.isEmpty=false:=kq aB_title
theorem ttle (c:Int):(D6 c).toList.isEmpty=false:=kq (C4 c)
theorem vBe (i:Int):(vB i).toList.isEmpty=false:=eo (vB_name i)
theorem dec0:bl (dB 0)=[48]:=by rw[bl_dec];decide +kernel
theorem dec1:bl (dB 1)=[49]:=by rw[bl_dec];decide +kernel
theorem dec2:bl (dB 2)=[50]:=by rw[bl_dec];decide +kernel
theorem spots_text (c:Int):ju (bT iV true (kmS c))=32::(kmA c).data.toList:=by
 have hb:∀s:ByteArray,s.data.toList=bl s:=fun _=>rfl
 unfold kmS kmA
 split
 ·simp only[bT,iV,mU,pO,at0,to0,e0e,tBe,vB0,vB1,vB2,ba_app]
  simp[nj,o5,bl_mk,bE,bA,jG,da,tB]
 ·split
  ·simp only[bT,iV,mU,pO,at0,at1,e0e,tBe,ttle,vB0,vB1,vB2,ba_app]
   simp[nj,o5,bl_mk,bE,bA,jG,da,bX,aK,dU,kw,tB,dec2,hb]
  ·split
   ·simp only[bT,iV,mU,pO,at0,at1,to0,e0e,tBe,ttle,vB0,vB1,vB2,ba_app]
    simp[nj,o5,bl_mk,bE,bA,jG,da,bX,aK,tB,hb]
   ·split
    ·simp only[bT,iV,mU,pO,at0,to0,e0e,tBe,uBe,vB0,vB1,vB2,ba_app]
     simp[nj,o5,bl_mk,bE,bA,jG,da,aK,dU,kw,tB,uB,dec0,dec1]
    ·split
     ·simp only[bT,iV,mU,pO,at0,to0,e0e,tBe,ttle,vB0,vB1,vB2,ba_app]
      simp[nj,o5,bl_mk,bE,bA,jG,da,bX,aK,tB,hb]
     ·simp only[bT,iV,mU,at1,e0e,aBe,ttle,vB0,vB1,vB2,ba_app]
      simp[nj,o5,bl_mk,bE,bA,bX,aK,hb]
theorem km_textNo {c w:Int} (h:¬0<pk w 3):kmText c w=⟨#[77,65,84,67,72,32]⟩++kmA c:=by
 apply KD
 unfold kmText mu
 rw[ba_mk,ba_app,qR,spaced_append]
 have e1:(kmQ c w).ai=kmS c:=rfl
 have e2:(kmQ c w).conds=[]:=by unfold kmQ kmC;simp[h]
 rw[e1,e2,spots_text]
 simp[bT,o5,dz,bl_mk]
theorem km_textYes {c w:Int} (h:0<pk w 3):kmText c w=⟨#[77,65,84,67,72,32]⟩++kmA c++⟨#[32,87,72,69,82,69,32]⟩++kcText (kc (w.tdiv 3)):=by
 apply KD
 unfold kmText mu kcText
 rw[ba_mk,ba_app,ba_app,ba_app,ba_mk,qR,spaced_append]
 have e1:(kmQ c w).ai=kmS c:=rfl
 have e2:(kmQ c w).conds=[kc (w.tdiv 3)]:=by unfold kmQ kmC;simp[h]
 have e3:bT oG true [kc (w.tdiv 3)]=ej::(ig (kc (w.tdiv 3)).a++xN (kc (w.tdiv 3))):=by simp[bT,oG]
 rw[e1,e2,spots_text,e3,nj,spaced_joined (by simp[termW_ne])]
 simp[dz,ej,bl_mk]
theorem kc_text0 {c:Int} (h:pk c 5=0):kcText (kc c)=vB (pk (kcD c) 3)++⟨#[32,46,32,107]⟩++⟨#[32,73,83,32,78,85,76,76]⟩:=by
 apply KD
 unfold kcText kc
 rw[if_pos h,ba_mk,ba_app,ba_app]
 simp only[ig,xN,kcA,vBe]
 simp[qR,nj,o5,bl,eX,kB,ng,il]
theorem kc_text1 {c:Int} (h:pk c 5=1):kcText (kc c)=vB (pk (kcD c) 3)++⟨#[32,46,32,107]⟩++⟨#[32,73,83,32,78,79,84,32,78,85,76,76]⟩:=by
 apply KD
 unfold kcText kc
 rw[if_neg (by omega),if_pos h,ba_mk,ba_app,ba_app]
 simp only[ig,xN,kcA,vBe]
 simp[qR,nj,o5,bl,eX,kB,ng,jo,il]
theorem kc_text2 {c:Int} (h:pk c 5=2):kcText (kc c)=vB (pk (kcD c) 3)++⟨#[32,46,32,107]⟩++⟨#[32,60,61,32]⟩++vB (pk (kcD c / 3) 3)++⟨#[32,46,32,107]⟩:=by
 apply KD
 unfold kcText kc
 rw[if_neg (by omega),if_neg (by omega),if_pos h,ba_mk,ba_app,ba_app,ba_app,ba_app]
 simp only[ig,xN,kcA,vBe,lR]
 simp[qR,nj,o5,bl,eX,kB,D2]
theorem kc_text3 {c:Int} (h:pk c 5=3):kcText (kc c)=vB (pk (kcD c) 3)++⟨#[32,46,32,107]⟩++⟨#[32,60,62,32]⟩++dB (GP (kcD c / 9)):=by
 apply KD
 unfold kcText kc
 rw[if_neg (by omega),if_neg (by omega),if_neg (by omega),if_pos h,ba_mk,ba_app,ba_app,ba_app]
 simp only[ig,xN,kcA,vBe,e0e,lR]
 simp[qR,nj,o5,bl,eX,kB,D7]
theorem kc_text4 {c:Int} (h:pk c 5=4):kcText (kc c)=vB (pk (kcD c) 3)++⟨#[32,46,32,107]⟩++⟨#[32,60,32]⟩++dB (GP (kcD c / 9)):=by
 apply KD
 unfold kcText kc
 rw[if_neg (by omega),if_neg (by omega),if_neg (by omega),if_neg (by omega),ba_mk,ba_app,ba_app,ba_app]
 simp only[ig,xN,kcA,vBe,e0e,lR]
 simp[qR,nj,o5,bl,eX,kB,D9]
theorem joined_size {l:List ByteArray} (h:WL 160 l):(⟨(iy l).toArray⟩:ByteArray).size≤2000:=by
 have hz:(⟨(iy l).toArray⟩:ByteArray).size=(iy l).length:=by simp[ByteArray.size]
 rw[hz]
 exact Bt h
theorem kcText_size (c:Int):(kcText (kc c)).size≤2000:=by
 unfold kcText
 have h:=Hz (kc_good c) true
 refine joined_size ⟨fun w hw=>h.1 w ?_,?_⟩
 ·unfold oG;exact List.mem_cons_of_mem _ hw
 ·have:=h.2
  unfold oG at this
  simp only[List.length_cons] at this
  omega
theorem kmText_size (c w:Int):(kmText c w).size≤2000:=by
 unfold kmText
 exact joined_size (dD (pA (km_match c w _ rfl rfl)) (by omega))
theorem pk3_size (c:Int):(dB (pk c 3)).size≤11:=(nD (n:=pk c 3) (by
 have h0:=ma (c:=c) (n:=3) (by omega)
 have h1:=zb (c:=c) (n:=3) (by omega)
 exact⟨by omega,by omega⟩)).2
theorem vB_cases (i:Int):vB i=vB 0∨vB i=vB 1∨vB i=vB 2:=by
 by_cases h:i=0
 ·left;rw[h]
 ·by_cases h1:i=1
  ·right;left;rw[h1]
  ·right;right;unfold vB;simp[h,h1]
theorem bound_of {l:List aN} {s:aN} (h:s∈l):fl l s.name=true:=by
 unfold fl
 exact List.any_eq_true.2 ⟨s,h,EW _⟩
theorem kmS_bound (c i:Int):fl (kmS c) (vB i)=true:=by
 have key:∀j:Int,j=0∨j=1∨j=2→∃s∈kmS c,s.name=vB j:=by
  intro j hj
  unfold kmS
  rcases hj with rfl|rfl|rfl
  ·split
   ·exact⟨at0 0,by simp,rfl⟩
   ·split
    ·exact⟨at1 0 (D6 (kmD c)),by simp,rfl⟩
    ·split
     ·exact⟨at1 0 (D6 (kmD c)),by simp,rfl⟩
     ·split
      ·exact⟨at0 0,by simp,rfl⟩
      ·split
       ·exact⟨at0 0,by simp,rfl⟩
       ·exact⟨at1 0 (D6 (kmD c)),by simp,rfl⟩
  ·split
   ·exact⟨to0 1,by simp,rfl⟩
   ·split
    ·exact⟨⟨vB 1,e0,tB,pk (kmD c / 3) 3,2⟩,by simp,rfl⟩
    ·split
     ·exact⟨at0 1,by simp,rfl⟩
     ·split
      ·exact⟨at0 1,by simp,rfl⟩
      ·split
       ·exact⟨to0 1,by simp,rfl⟩
       ·exact⟨at1 1 (D6 (kmD c / 3)),by simp,rfl⟩
  ·split
   ·exact⟨to0 2,by simp,rfl⟩
   ·split
    ·exact⟨at0 2,by simp,rfl⟩
    ·split
     ·exact⟨to0 2,by simp,rfl⟩
     ·split
      ·exact⟨to0 2,by simp,rfl⟩
      ·split
       ·exact⟨⟨vB 2,D6 (kmD c),tB,1,1⟩,by simp,rfl⟩
       ·exact⟨at1 2 ⟨#[65]⟩,by simp,rfl⟩
 rcases vB_cases i with e|e|e
 ·obtain⟨s,hs,hn⟩:=key 0 (by simp);rw[e,←hn];exact bound_of hs
 ·obtain⟨s,hs,hn⟩:=key 1 (by simp);rw[e,←hn];exact bound_of hs
 ·obtain⟨s,hs,hn⟩:=key 2 (by simp);rw[e,←hn];exact bound_of hs
theorem kc_names (c:Int):(∃i,(kc c).a.name=vB i)∧((kc c).b.name=e0∨∃i,(kc c).b.name=vB i):=by
 unfold kc
 split
 ·exact⟨⟨_,rfl⟩,Or.inl rfl⟩
 ·split
  ·exact⟨⟨_,rfl⟩,Or.inl rfl⟩
  ·split
   ·exact⟨⟨_,rfl⟩,Or.inr ⟨_,rfl⟩⟩
   ·split
    ·exact⟨⟨_,rfl⟩,Or.inl rfl⟩
    ·exact⟨⟨_,rfl⟩,Or.inl rfl⟩
end Pure
end Go.Proofs.YtobgbmfpicmpcaaGreatDoor
