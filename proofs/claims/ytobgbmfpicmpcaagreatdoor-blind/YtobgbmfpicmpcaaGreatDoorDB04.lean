/- Reads of the graph that made left. -/
import Derived.Test.YtobgbmfpicmpcaaGreatDoorC42
import Derived.Test.YtobgbmfpicmpcaaGreatDoorDB02
import Derived.Test.YtobgbmfpicmpcaaGreatDoorDB03
import Derived.Test.YtobgbmfpicmpcaaGreatDoorC38
import Derived.KernelRfl
import Derived.Test.YtobgbmfpicmpcaaGreatDoorC37
import Derived.Test.YtobgbmfpicmpcaaGreatDoorC41
import Derived.Lib.Hide
set_option maxRecDepth 100000
set_option maxHeartbeats 8000000
namespace Go.Proofs.YtobgbmfpicmpcaaGreatDoor
open Go.Lib (hid)
section
open Go.RowKit Go.Maps Go.Sort
theorem answer_len {ns:List aq} {es:List aJ} {q:au} {b:Int} (hb:0≤b∧b≤5000):(eK ns es q b).1.length≤10000:=by
 unfold eK
 split
 ·simp only
  rw[List.length_map]
  have h1:=gD ns es q.conds q.ai ⟨#[]⟩ ⟨b,jN,[]⟩ hb.1
  have h2:bH ns es q.conds q.ai ⟨#[]⟩ ⟨b,jN,[]⟩=aR ns es q b:=rfl
  rw[h2] at h1
  simp only[List.length_nil] at h1
  have h3:=Fc q.items ((aR ns es q b).rows.map (fi ns q.items))
  rw[List.length_map] at h3
  have h4:(gR q.order q.down (lJ q.items ((aR ns es q b).rows.map (fi ns q.items)))).length=(lJ q.items ((aR ns es q b).rows.map (fi ns q.items))).length:=by
   unfold gR
   rw[List.length_map,(fJ _ _).length_eq,List.length_map]
  unfold ix
  split
  ·rw[List.length_drop];omega
  ·rw[List.length_take,List.length_drop];omega
 ·simp
variable {B G b1 b2 k:Nat} {ns:List aq} {es:List aJ} {last:Int} {W0 W w:World}
theorem GS.later (h:GS B G b1 b2 ns es last k W0 W) (hb:Below W.heap.size W w):GS B G b1 b2 ns es last k W0 w:=by
 obtain⟨cs,vn,ve,ns',m,hv,hs,hok,h6,hm,hbw,hB⟩:=h
 exact⟨cs,vn,ve,ns',m,hv.later hb,hs,hok,h6,hm,hbw.trans (hb.mono hB),Nat.le_trans hB hb.size⟩
end
def hkD (c:Int):Int:=pk (c.tdiv 7) 1099511627776
def hH:ByteArray:=⟨#[72]⟩
def vH:ByteArray:=⟨#[104]⟩
def jB:ByteArray:=⟨#[106]⟩
def num1 (n:Int):gj:=⟨e0,e0,n⟩
def hkMk (n:Int):au:=⟨5,[],[],[],0,false,0,0,e0,e0,lD,e0,e0,hH,[⟨kB,n⟩]⟩
def hkLu (a b:ByteArray):au:=⟨4,[at1 0 a,at1 1 b],[⟨1,⟨vB 0,kB,0⟩,⟨vB 1,kB,0⟩⟩],[],0,false,0,0,vB 0,e0,lD,uB,vB 1,e0,[]⟩
def hkSj (a:ByteArray) (n:Int):au:=⟨2,[at1 0 a],[],[],0,false,0,0,vB 0,jB,num1 n,e0,e0,e0,[]⟩
def hkSk (n z:Int):au:=⟨2,[at1 1 ⟨#[66]⟩],[⟨3,⟨vB 1,kB,0⟩,num1 n⟩],[],0,false,0,0,vB 1,kB,num1 z,e0,e0,e0,[]⟩
def hkLt (b:ByteArray) (n:Int):au:=⟨4,[⟨vH,hH,e0,0,0⟩,at1 1 b],[⟨4,⟨vH,kB,0⟩,num1 n⟩],[],0,false,0,0,vH,e0,lD,tB,vB 1,e0,[]⟩
def hkDl (n:Int):au:=⟨3,[⟨vH,hH,e0,0,0⟩],[⟨5,⟨vH,kB,0⟩,num1 n⟩],[],0,false,0,0,vH,e0,lD,e0,e0,e0,[]⟩
def hkQ (c:Int):au:=
 if pk c 7=0∨pk c 7=1 then hkMk (GP (hkD c / 9))
 else if pk c 7=2 then hkLu (D6 (hkD c)) (D6 (hkD c / 3))
 else if pk c 7=3 then hkSj (D6 (hkD c)) (GP (hkD c / 9))
 else if pk c 7=4 then hkSk (GP (hkD c / 9)) (GP (hkD c / 63))
 else if pk c 7=5 then hkLt (D6 (hkD c / 3)) (GP (hkD c / 9))
 else hkDl (GP (hkD c / 9))
def hkText (c:Int):ByteArray:=⟨(iy (cJ (hkQ c))).toArray⟩
def hkR (i:Int) (a b n z:ByteArray):ByteArray:=
 if i=0∨i=1 then ⟨#[67,82,69,65,84,69,32,40,32,72,32,123,32,107,32,58,32]⟩++n++⟨#[32,125,32,41]⟩
 else if i=2 then ⟨#[77,65,84,67,72,32,40,32,97,32,58,32]⟩++a++⟨#[32,41,32,44,32,40,32,98,32,58,32]⟩++b++⟨#[32,41,32,87,72,69,82,69,32,97,32,46,32,107,32,61,32,98,32,46,32,107,32,67,82,69,65,84,69,32,40,32,97,32,41,32,45,91,32,85,32,93,45,62,32,40,32,98,32,41]⟩
 else if i=3 then ⟨#[77,65,84,67,72,32,40,32,97,32,58,32]⟩++a++⟨#[32,41,32,83,69,84,32,97,32,46,32,106,32,61,32]⟩++n
 else if i=4 then ⟨#[77,65,84,67,72,32,40,32,98,32,58,32,66,32,41,32,87,72,69,82,69,32,98,32,46,32,107,32,60,32]⟩++n++⟨#[32,83,69,84,32,98,32,46,32,107,32,61,32]⟩++z
 else if i=5 then ⟨#[77,65,84,67,72,32,40,32,104,32,58,32,72,32,41,32,44,32,40,32,98,32,58,32]⟩++b++⟨#[32,41,32,87,72,69,82,69,32,104,32,46,32,107,32,60,61,32]⟩++n++⟨#[32,67,82,69,65,84,69,32,40,32,104,32,41,32,45,91,32,84,32,93,45,62,32,40,32,98,32,41]⟩
 else ⟨#[77,65,84,67,72,32,40,32,104,32,58,32,72,32,41,32,87,72,69,82,69,32,104,32,46,32,107,32,62,32]⟩++n++⟨#[32,68,69,76,69,84,69,32,104]⟩
namespace Pure
theorem hk_words:cD hH=true∧bN vH=true∧bN jB=true∧cD ⟨#[66]⟩=true:=by decide +kernel
theorem hHe:hH.toList.isEmpty=false:=kq hk_words.1
theorem vHe:vH.toList.isEmpty=false:=eo hk_words.2.1
theorem bBe:(⟨#[66]⟩:ByteArray).toList.isEmpty=false:=kq hk_words.2.2.2
theorem hk_text (c:Int):hkText c=hkR (pk c 7) (D6 (hkD c)) (D6 (hkD c / 3)) (dB (GP (hkD c / 9))) (dB (GP (hkD c / 63))):=by
 have hb:∀s:ByteArray,s.data.toList=bl s:=fun _=>rfl
 apply KD
 unfold hkText
 rw[ba_mk]
 unfold hkQ hkR
 split
 ·simp only[hkMk,cJ,po,bT,pq,ba_app]
  simp[qR,nj,o5,bl_mk,bE,bA,cP,gG,bX,aM,kB,hH,hb]
 ·split
  ·simp only[hkLu,cJ,mu,nv,bT,iV,mU,oG,ig,xN,lR,at1,e0e,ttle,vBe,ba_app]
   simp[qR,nj,o5,bl_mk,bE,bA,bX,aK,eX,tT,jG,da,dz,ej,aM,kB,uB,vB0,vB1,hb]
  ·split
   ·simp only[hkSj,num1,cJ,mu,nv,bT,iV,mU,ig,at1,e0e,ttle,ba_app]
    simp[qR,nj,o5,bl_mk,bE,bA,bX,eX,tT,dz,fN,jB,vB0,hb]
   ·split
    ·simp only[hkSk,num1,cJ,mu,nv,bT,iV,mU,oG,ig,xN,lR,at1,e0e,bBe,vBe,ba_app]
     simp[qR,nj,o5,bl_mk,bE,bA,bX,eX,tT,D9,dz,ej,fN,kB,vB1,hb]
    ·split
     ·simp only[hkLt,num1,cJ,mu,nv,bT,iV,mU,oG,ig,xN,lR,at1,e0e,hHe,vHe,ttle,ba_app]
      simp[qR,nj,o5,bl_mk,bE,bA,bX,aK,eX,D2,jG,da,dz,ej,aM,kB,tB,hH,vH,vB1,hb]
     ·simp only[hkDl,num1,cJ,mu,nv,bT,iV,mU,oG,ig,xN,lR,e0e,hHe,vHe,ba_app]
      simp[qR,nj,o5,bl_mk,bE,bA,bX,eX,D4,dz,ej,bI,kB,hH,vH,hb]
theorem num1_good {n:Int} (h:oD n):je (num1 n):=Or.inl ⟨rfl,rfl,h⟩
theorem hh_good:fU ⟨vH,hH,e0,0,0⟩:=⟨hk_words.2.1,Or.inr hk_words.1,Or.inl ⟨rfl,rfl,rfl⟩⟩
theorem two_spots {s t:aN} {q:au} (h:q.ai=[s,t]) (hs:fU s) (ht:fU t) (h0:s.type=e0) (hc:∀c∈q.conds,mg c) (hn:q.conds.length≤6):gK q:=by
 refine⟨?_,⟨s,[t],h,h0⟩,by rw[h];simp,hc,hn⟩
 rw[h]
 intro x hx
 rcases List.mem_cons.1 hx with rfl|hx
 ·exact hs
 ·rw[List.mem_singleton.1 hx];exact ht
theorem one_spot {s:aN} {q:au} (h:q.ai=[s]) (hs:fU s) (h0:s.type=e0) (hc:∀c∈q.conds,mg c) (hn:q.conds.length≤6):gK q:=by
 refine⟨?_,⟨s,[],h,h0⟩,by rw[h];simp,hc,hn⟩
 rw[h]
 intro x hx
 rw[List.mem_singleton.1 hx];exact hs
theorem one_cond {c d:bP} (hd:mg d) (h:c∈[d]):mg c:=by rw[List.mem_singleton.1 h];exact hd
theorem tV (i:Int):je ⟨vB i,kB,0⟩:=Or.inr ⟨vB_name i,kB_name,rfl⟩
theorem tH:je ⟨vH,kB,0⟩:=Or.inr ⟨hk_words.2.1,kB_name,rfl⟩
theorem mk_good {n:Int} (h:oD n):jk (hkMk n):=by
 refine Or.inr (Or.inr (Or.inr (Or.inr (Or.inl ⟨hk_words.1,fun p hp=>?_,by simp[hkMk],by simp[hkMk,dK],rfl⟩))))
 rw[List.mem_singleton.1 hp]
 exact⟨kB_name,h⟩
theorem lu_good {a b:ByteArray} (ha:cD a=true) (hb:cD b=true):jk (hkLu a b):=
 Or.inr (Or.inr (Or.inr (Or.inl ⟨two_spots rfl (at1_good 0 ha) (at1_good 1 hb) rfl (fun _ hx=>one_cond ⟨by simp,tV 0,Or.inl ⟨by simp,tV 1⟩⟩ hx) (by simp[hkLu]),vB_name 0,uB_title,vB_name 1,rfl⟩)))
theorem sj_good {a:ByteArray} {n:Int} (ha:cD a=true) (h:oD n):jk (hkSj a n):=
 Or.inr (Or.inl ⟨one_spot rfl (at1_good 0 ha) rfl (fun x hx=>(by cases hx)) (by simp[hkSj]),vB_name 0,hk_words.2.2.1,num1_good h,rfl⟩)
theorem sk_good {n z:Int} (h:oD n) (hz:oD z):jk (hkSk n z):=
 Or.inr (Or.inl ⟨one_spot rfl (at1_good 1 hk_words.2.2.2) rfl (fun _ hx=>one_cond ⟨by simp,tV 1,Or.inl ⟨by simp,num1_good h⟩⟩ hx) (by simp[hkSk]),vB_name 1,kB_name,num1_good hz,rfl⟩)
theorem lt_good {b:ByteArray} {n:Int} (hb:cD b=true) (h:oD n):jk (hkLt b n):=
 Or.inr (Or.inr (Or.inr (Or.inl ⟨two_spots rfl hh_good (at1_good 1 hb) rfl (fun _ hx=>one_cond ⟨by simp,tH,Or.inl ⟨by simp,num1_good h⟩⟩ hx) (by simp[hkLt]),hk_words.2.1,tB_title,vB_name 1,rfl⟩)))
theorem dl_good {n:Int} (h:oD n):jk (hkDl n):=
 Or.inr (Or.inr (Or.inl ⟨one_spot rfl hh_good rfl (fun _ hx=>one_cond ⟨by simp,tH,Or.inl ⟨by simp,num1_good h⟩⟩ hx) (by simp[hkDl]),hk_words.2.1,rfl⟩))
theorem hk_good (c:Int):jk (hkQ c):=by
 unfold hkQ
 split
 ·exact mk_good (J1 _)
 ·split
  ·exact lu_good (C4 _) (C4 _)
  ·split
   ·exact sj_good (C4 _) (J1 _)
   ·split
    ·exact sk_good (J1 _) (J1 _)
    ·split
     ·exact lt_good (C4 _) (J1 _)
     ·exact dl_good (J1 _)
theorem mk_scope (n:Int):eG (hkMk n)=true:=by kernel_rfl
theorem lu_scope (a b:ByteArray):eG (hkLu a b)=true:=by kernel_rfl
theorem sj_scope (a:ByteArray) (n:Int):eG (hkSj a n)=true:=by kernel_rfl
theorem sk_scope (n z:Int):eG (hkSk n z)=true:=by kernel_rfl
theorem lt_scope (b:ByteArray) (n:Int):eG (hkLt b n)=true:=by kernel_rfl
theorem dl_scope (n:Int):eG (hkDl n)=true:=by kernel_rfl
theorem hk_scope (c:Int):eG (hkQ c)=true:=by
 unfold hkQ
 split
 ·exact mk_scope _
 ·split
  ·exact lu_scope _ _
  ·split
   ·exact sj_scope _ _
   ·split
    ·exact sk_scope _ _
    ·split
     ·exact lt_scope _ _
     ·exact dl_scope _
end Pure
section
open Go.RowKit
theorem hidden_K {W:World} {c:Int} (hc:ux c) (ht:BG W):
  Calls Tryz.prog 27 #[.int .i64 c] W fun e W'=>e=.returned (.string (hkText c))∧Below W.heap.size W W':=by
 have HX:=hid (Pure.hk_text c)
 have HC:=hid hc
 have HT:=hid ht
 obtain⟨hc1,hc2⟩:=hc
 have hs0:=ma (c:=c) (n:=7) (by omega)
 have hs1:=zb (c:=c) (n:=7) (by omega)
 have h7:pk c 7=0∨pk c 7=1∨pk c 7=2∨pk c 7=3∨pk c 7=4∨pk c 7=5∨pk c 7=6:=by omega
 have HS:=hid h7
 clear ht hs0 hs1 h7
 unfold hkD at HX
 go_enter Tryz.func27,Tryz.ntmps27
 go_wp2_with fail
 refine(vI (Ex HC.out (by omega)) (by omega) (by omega)).mono ?_
 rintro e w1 ⟨rfl,hw1⟩
 obtain rfl:=hw1.symm
 have hd0:=ma (c:=c.tdiv 7) (n:=1099511627776) (by omega)
 have hd1:=zb (c:=c.tdiv 7) (n:=1099511627776) (by omega)
 generalize pk (c.tdiv 7) 1099511627776=d at hd0 hd1 HX⊢
 have HD:Hid (ux d∧ux (d / 3)∧ux (d / 9)∧ux (d / 63)):=hid ⟨⟨by omega,by omega⟩,⟨by omega,by omega⟩,⟨by omega,by omega⟩,⟨by omega,by omega⟩⟩
 go_wp2_with fail
 refine(BH HD.out.1).mono ?_
 rintro e W1 ⟨rfl,hb1⟩
 have HB1:=hid hb1
 have ha:=Pure.zt d
 generalize D6 d=a at ha HX⊢
 clear hb1
 go_wp2_with fail
 refine(BH HD.out.2.1).mono ?_
 rintro e W2 ⟨rfl,hb2⟩
 have HB2:=hid (HB1.out.trans (hb2.mono HB1.out.size))
 have hb:=Pure.zt (d / 3)
 generalize D6 (d / 3)=b at hb HX⊢
 clear hb2 HB1
 go_wp2_with fail
 refine(ze HD.out.2.2.1 (HT.out.below HB2.out)).mono ?_
 rintro e W3 ⟨rfl,hb3⟩
 have HB3:=hid (HB2.out.trans (hb3.mono HB2.out.size))
 have hn:=Pure.yL (d / 9)
 generalize dB (GP (d / 9))=n at hn HX⊢
 clear hb3 HB2
 go_wp2_with fail
 refine(vI HC.out (by omega) (by omega)).mono ?_
 rintro e w1 ⟨rfl,hw1⟩
 obtain rfl:=hw1.symm
 rcases HS.out with h|h|h|h|h|h|h
 all_goals
  rw[h] at HX⊢
  clear h
  go_wp2_with fail
 any_goals
  go_ret
  exact⟨by rw[HX.out];rfl,HB3.out⟩
 all_goals
  refine(ze HD.out.2.2.2 (HT.out.below HB3.out)).mono ?_
  rintro e W4 ⟨rfl,hb4⟩
  have HB4:=hid (HB3.out.trans (hb4.mono HB3.out.size))
  have hz:=Pure.yL (d / 63)
  generalize dB (GP (d / 63))=z at hz HX⊢
  clear hb4
  go_wp2_with fail
  go_ret
  exact⟨by rw[HX.out];rfl,HB4.out⟩
end
section
open Go.RowKit Go.Maps Go.Sort
def Lab (ns:List aq) (l:List aN) (f:Row):Prop:=∀s∈l,∃e,f s.name=some e∧mJ ns e s.label=true
theorem loop_lab {ns:List aq} {s:aN} {done all:List aN} {node:Option Int} {rec:mA→mA} (hn:∀d∈done,d.name=s.name→∃n,node=some n∧mJ ns n d.label=true) (hrec:∀t,Lab ns (s::done) t.f→(∀f∈(rec t).rows,f∈t.rows∨Lab ns all f)∧Lab ns (s::done) (rec t).f):
  ∀(l:List Int) (st:mA),Lab ns done st.f→(∀f∈(fw rec (qX ns s node) s.name l st).1.rows,f∈st.rows∨Lab ns all f)∧Lab ns done (fw rec (qX ns s node) s.name l st).1.f
 | [],st,h=>⟨fun f hf=>Or.inl hf,h⟩
 | e::r,st,h=>by
  unfold fw
  split
  ·exact loop_lab hn hrec r st h
  ·rename_i hs
   split
   ·have hsk:qX ns s node e=false:=by simpa using hs
    unfold qX at hsk
    rw[Bool.or_eq_false_iff] at hsk
    have hlb:mJ ns e s.label=true:=by have:=hsk.2;simpa using this
    have hl:Lab ns (s::done) (fD st.f s.name (some e)):=by
     intro d hd
     by_cases hds:d.name=s.name
     ·refine⟨e,by unfold fD;rw[if_pos hds],?_⟩
      rcases List.mem_cons.1 hd with rfl|hd
      ·exact hlb
      ·obtain⟨n,h1,h2⟩:=hn d hd hds
       have h3:=hsk.1
       rw[h1] at h3
       have h4:e=n:=by simpa using h3
       rw[h4];exact h2
     ·rcases List.mem_cons.1 hd with rfl|hd
      ·exact absurd rfl hds
      ·obtain⟨e',h1,h2⟩:=h d hd
       exact⟨e',by unfold fD;rw[if_neg hds];exact h1,h2⟩
    obtain⟨h1,h2⟩:=hrec ⟨st.left - 1,fD st.f s.name (some e),st.rows⟩ hl
    obtain⟨h3,h4⟩:=loop_lab hn hrec r (rec ⟨st.left - 1,fD st.f s.name (some e),st.rows⟩) (fun d hd=>h2 d (List.mem_cons_of_mem _ hd))
    exact⟨fun f hf=>(h3 f hf).elim (fun x=>h1 f x) Or.inr,h4⟩
   ·exact⟨fun f hf=>Or.inl hf,h⟩
theorem choose_lab {ns:List aq} {es:List aJ} {cl:List bP} {all:List aN}:∀(r:List aN) (prev:ByteArray) (done:List aN) (st:mA),(∀s∈all,s∈done∨s∈r)→Lab ns done st.f→(∀f∈(bH ns es cl r prev st).rows,f∈st.rows∨Lab ns all f)∧Lab ns done (bH ns es cl r prev st).f
 | [],prev,done,st,ha,h=>by
  unfold bH
  split
  ·refine⟨fun f hf=>?_,h⟩
   rcases List.mem_append.1 hf with hf|hf
   ·exact Or.inl hf
   ·rw[List.mem_singleton.1 hf]
    exact Or.inr fun s hs=>h s ((ha s hs).elim id (fun x=>by cases x))
  ·exact⟨fun f hf=>Or.inl hf,h⟩
 | s::r,prev,done,st,ha,h=>by
  have hrec:∀t,Lab ns (s::done) t.f→(∀f∈(bH ns es cl r s.name t).rows,f∈t.rows∨Lab ns all f)∧Lab ns (s::done) (bH ns es cl r s.name t).f:=fun t ht=>choose_lab r s.name (s::done) t (fun x hx=>by
   rcases ha x hx with h1|h1
   ·exact Or.inl (List.mem_cons_of_mem _ h1)
   ·rcases List.mem_cons.1 h1 with rfl|h1
    ·exact Or.inl List.mem_cons_self
    ·exact Or.inr h1) ht
  have hn:∀d∈done,d.name=s.name→∃n,st.f s.name=some n∧mJ ns n d.label=true:=fun d hd e=>by
   obtain⟨n,h1,h2⟩:=h d hd
   exact⟨n,by rw[←e];exact h1,h2⟩
  have hx:=loop_lab (all:=all) hn hrec (fC ns es s ((st.f prev).getD 0) st.left).1 ⟨(fC ns es s ((st.f prev).getD 0) st.left).2,st.f,st.rows⟩ h
  simp only[bH]
  split
  ·exact hx
  ·split
   ·exact hx
   ·rename_i hns
    refine⟨hx.1,fun d hd=>?_⟩
    obtain⟨e,h1,h2⟩:=hx.2 d hd
    refine⟨e,?_,h2⟩
    simp only[fD]
    rw[if_neg (fun hds=>by
     obtain⟨n,h3,_⟩:=hn d hd hds
     rw[h3] at hns
     simp at hns)]
    exact h1
theorem found_lab {ns:List aq} {es:List aJ} {q:au} {b:Int}:∀f∈(aR ns es q b).rows,Lab ns q.ai f:=fun f hf=>
 ((choose_lab (all:=q.ai) q.ai ⟨#[]⟩ [] ⟨b,jN,[]⟩ (fun s hs=>Or.inr hs) (fun s hs=>by cases hs)).1 f hf).elim (fun x=>by cases x) id
theorem nodes_lab {ns:List aq} {es:List aJ} {q:au} {b:Int} {s:aN} {k:ByteArray} (hs:s∈q.ai) (hk:s.name=k):∀n∈fQ k (aR ns es q b).rows,mJ ns n s.label=true:=by
 intro n hn
 unfold fQ at hn
 rw[List.mem_mergeSort,kF] at hn
 unfold mP at hn
 obtain⟨f,hf,rfl⟩:=List.mem_map.1 hn
 obtain⟨e,h1,h2⟩:=found_lab f hf s hs
 rw[←hk,h1]
 exact h2
theorem pairs_lab {ns:List aq} {es:List aJ} {q:au} {b:Int} {s:aN} {k k':ByteArray} (hs:s∈q.ai) (hk:s.name=k):∀p∈jb k k' (aR ns es q b).rows,mJ ns p.1 s.label=true:=by
 intro p hp
 unfold jb at hp
 rw[(fJ _ _).mem_iff,kF] at hp
 unfold jQ at hp
 obtain⟨f,hf,rfl⟩:=List.mem_map.1 hp
 obtain⟨e,h1,h2⟩:=found_lab f hf s hs
 simp only
 rw[←hk,h1]
 exact h2
theorem ba_same {a b:ByteArray} (h:(a.toList==b.toList)=true):a=b:=by
 have h1:a.toList=b.toList:=by simpa using h
 rw[ByteArray.toList_eq,ByteArray.toList_eq] at h1
 cases a;cases b
 simp only[ByteArray.mk.injEq]
 exact Array.toList_inj.1 h1
theorem seen_mem {S:aI→Bool} {ns:List aq} {x:aq} (h:x∈gq S ns):∃y∈ns,rW S y=true∧y.num=x.num∧y.label=x.label:=by
 unfold gq dP at h
 rw[List.map_map] at h
 obtain⟨y,hy,rfl⟩:=List.mem_map.1 h
 obtain⟨h1,h2⟩:=List.mem_filter.1 hy
 exact⟨y,h1,h2,rfl,rfl⟩
theorem lab_node {S:aI→Bool} {ns:List aq} {n:Int} {l:ByteArray} (hl:l.toList.isEmpty=false) (h:mJ (gq S ns) n l=true):∃y∈ns,y.num=n∧y.label=l:=by
 unfold mJ at h
 rw[hl,Bool.false_or] at h
 cases hx:nodeAt (gq S ns) n with
 | none=>
  rw[hx] at h
  have h2:l=e0:=ba_same h
  rw[h2,Pure.e0e] at hl
  cases hl
 | some x=>
  rw[hx] at h
  obtain⟨y,h1,_,h2,h3⟩:=seen_mem (mm hx)
  exact⟨y,h1,h2.trans (tO hx),h3.trans (ba_same h).symm⟩
theorem num_one:∀{ns:List aq},ns.Pairwise (fun a b=>a.num<b.num)→∀{x y:aq},x∈ns→y∈ns→x.num=y.num→x=y
 | [],_,_,_,hx,_,_=>by cases hx
 | a::r,h,x,y,hx,hy,e=>by
  obtain⟨h1,h2⟩:=List.pairwise_cons.1 h
  rcases List.mem_cons.1 hx with ex|hx'
  ·rcases List.mem_cons.1 hy with ey|hy'
   ·rw[ex,ey]
   ·have:=h1 y hy';rw[ex] at e;omega
  ·rcases List.mem_cons.1 hy with ey|hy'
   ·have:=h1 x hx';rw[ey] at e;omega
   ·exact num_one h2 hx' hy' e
def AllLab (ns:List aq) (l:ByteArray) (n:Int):Prop:=∀x∈ns,x.num=n→x.label=l
theorem all_lab {S:aI→Bool} {ns:List aq} {n:Int} {l:ByteArray} (hs:ns.Pairwise (fun a b=>a.num<b.num)) (hl:l.toList.isEmpty=false) (h:mJ (gq S ns) n l=true):AllLab ns l n:=by
 obtain⟨y,h1,h2,h3⟩:=lab_node hl h
 intro x hx e
 rw[num_one hs hx h1 (e.trans h2.symm)]
 exact h3
theorem unseen_node {S:aI→Bool} {ns:List aq} {n:Int} {l:ByteArray} (h:AllLab ns l n) (hS:S (1,l,⟨#[]⟩)=false):nodeAt (gq S ns) n=none:=by
 cases hx:nodeAt (gq S ns) n with
 | none=>rfl
 | some x=>
  obtain⟨y,h1,h2,h3,_⟩:=seen_mem (mm hx)
  have h4:=h y h1 (h3.trans (tO hx))
  unfold rW at h2
  rw[h4,hS] at h2
  cases h2
def SameFor (S:aI→Bool) (g g':oJ):Prop:=gq S g'.ns=gq S g.ns∧jS S g'.ns g'.es=jS S g.ns g.es
theorem SameFor.refl (S:aI→Bool) (g:oJ):SameFor S g g:=⟨rfl,rfl⟩
theorem same_nodes {S:aI→Bool} {g:oJ} {ns:List aq} {last:Int} (h:dP S ns=dP S g.ns):SameFor S g ⟨ns,g.es,last⟩:=by
 have h1:gq S ns=gq S g.ns:=by unfold gq;rw[h]
 exact⟨h1,by unfold jS;rw[h1]⟩
theorem same_make {S:aI→Bool} {g:oJ} {x:aq} {last:Int} (h:rW S x=false):SameFor S g ⟨g.ns++[x],g.es,last⟩:=by
 refine same_nodes ?_
 unfold dP
 rw[List.filter_append,List.filter_cons,h]
 simp
theorem same_links {S:aI→Bool} {g:oJ} {xs:List aJ} (h:∀x∈xs,eM (gq S g.ns) S x=false):SameFor S g ⟨g.ns,g.es++xs,g.last⟩:=by
 have h0:xs.filter (eM (gq S g.ns) S)=[]:=List.filter_eq_nil_iff.2 (fun x hx=>by rw[h x hx];simp)
 refine⟨rfl,?_⟩
 unfold jS
 simp only
 rw[List.filter_append,h0,List.append_nil]
theorem veil_setNo {S:aI→Bool} {n:Int} {k:ByteArray} {v:Option Int}:∀{ns:List aq},(∀x∈ns,x.num=n→S (3,x.label,k)=false)→dP S (iQ ns n k v)=dP S ns
 | [],_=>rfl
 | x::r,h=>by
  have ih:=veil_setNo (v:=v) (fun y hy=>h y (List.mem_cons_of_mem _ hy))
  unfold dP iQ at ih⊢
  rw[List.map_cons,List.filter_cons,List.filter_cons]
  by_cases e:x.num=n
  ·have hk:=h x List.mem_cons_self e
   rw[if_pos e]
   have h1:rW S {x with aW:=fD x.aW k v}=rW S x:=rfl
   have h2:I4 S {x with aW:=fD x.aW k v}=I4 S x:=by
    unfold I4
    simp only[Prod.mk.injEq,true_and]
    funext s
    by_cases es:s=k
    ·rw[es,hk];simp
    ·unfold fD;rw[if_neg es]
   rw[h1]
   cases rW S x with
   | true=>simp only[if_true,List.map_cons];rw[h2,ih]
   | false=>simp only[Bool.false_eq_true,if_false];exact ih
  ·rw[if_neg e]
   cases rW S x with
   | true=>simp only[if_true,List.map_cons];rw[ih]
   | false=>simp only[Bool.false_eq_true,if_false];exact ih
theorem setNo_mem {ns:List aq} {n:Int} {k:ByteArray} {v:Option Int} {y:aq} (h:y∈iQ ns n k v):∃x∈ns,x.num=y.num∧x.label=y.label:=by
 unfold iQ at h
 obtain⟨x,hx,rfl⟩:=List.mem_map.1 h
 refine⟨x,hx,?_⟩
 split<;>exact⟨rfl,rfl⟩
theorem veil_setAll {S:aI→Bool} {sn:List aq} {q:au}:∀{l:List Int} {ns:List aq},(∀n∈l,∀x∈ns,x.num=n→S (3,x.label,q.key)=false)→dP S (dh sn q ns l)=dP S ns
 | [],_,_=>rfl
 | n::r,ns,h=>by
  have e:dh sn q ns (n::r)=dh sn q (iQ ns n q.key (eH sn q.value n)) r:=rfl
  rw[e,veil_setAll (fun m hm y hy ey=>?_),veil_setNo (fun x hx ex=>h n List.mem_cons_self x hx ex)]
  obtain⟨x,hx,h1,h2⟩:=setNo_mem hy
  rw[←h2]
  exact h m (List.mem_cons_of_mem _ hm) x hx (h1.trans ey)
theorem same_drop {S:aI→Bool} {g:oJ} {l:List Int} {wy:ByteArray} {last:Int} (h:∀n∈l,AllLab g.ns wy n) (hS:S (1,wy,⟨#[]⟩)=false):SameFor S g ⟨g.ns.filter (fun x=>!(cW l x.num)),g.es.filter (fun x=>!(eN l x)),last⟩:=by
 have hv:dP S (g.ns.filter (fun x=>!(cW l x.num)))=dP S g.ns:=by
  unfold dP
  rw[List.filter_filter]
  congr 1
  refine List.filter_congr fun x hx=>?_
  cases hs:rW S x with
  | false=>rfl
  | true=>
   rw[Bool.true_and]
   cases hc:cW l x.num with
   | false=>rfl
   | true=>
    have hm:x.num∈l:=by unfold cW at hc;simpa using hc
    have h1:=h _ hm x hx rfl
    unfold rW at hs
    rw[h1,hS] at hs
    cases hs
 have hg:gq S (g.ns.filter (fun x=>!(cW l x.num)))=gq S g.ns:=by unfold gq;rw[hv]
 refine⟨hg,?_⟩
 unfold jS
 simp only
 rw[hg,List.filter_filter]
 refine List.filter_congr fun x _=>?_
 cases he:eM (gq S g.ns) S x with
 | false=>rfl
 | true=>
  rw[Bool.true_and]
  have hno:∀n,(nodeAt (gq S g.ns) n).isSome=true→cW l n=false:=by
   intro n hn
   cases hc:cW l n with
   | false=>rfl
   | true=>
    have hm:n∈l:=by unfold cW at hc;simpa using hc
    rw[unseen_node (h n hm) hS] at hn
    cases hn
  unfold eM at he
  simp only[Bool.and_eq_true] at he
  unfold eN
  rw[hno _ he.1.1,hno _ he.1.2]
  rfl
theorem sg_H:SG (1,hH,⟨#[]⟩)=false:=by rw[FI];decide +kernel
theorem sg_U:SG (2,uB,⟨#[]⟩)=false:=by rw[FI];decide +kernel
theorem sg_Bk:SG (3,⟨#[66]⟩,kB)=false:=by rw[FI];decide +kernel
theorem sg_j (l:ByteArray):SG (3,l,jB)=false:=by
 rw[FI]
 unfold Ar
 have h:(jB=(⟨#[107]⟩:ByteArray))=False:=by simp[jB]
 simp[h]
variable {g:oJ} {b:Int}
theorem hid_mk (n:Int):SameFor SG g (ER SR g (hkMk n) b).2.2:=by
 unfold ER
 split
 ·exact same_make sg_H
 ·exact SameFor.refl _ _
theorem hid_lu (a c:ByteArray):SameFor SG g (BL SR g (hkLu a c) b).2.2:=by
 unfold BL
 split
 ·split
  ·split
   ·refine same_links fun x hx=>?_
    obtain⟨p,_,rfl⟩:=List.mem_map.1 hx
    have h1:SG (2,(hkLu a c).type,⟨#[]⟩)=false:=sg_U
    unfold eM
    simp only
    rw[h1,Bool.and_false]
   ·exact SameFor.refl _ _
  ·exact SameFor.refl _ _
 ·exact SameFor.refl _ _
theorem hid_lt (hs:g.ns.Pairwise (fun a b=>a.num<b.num)) (c:ByteArray) (n:Int):SameFor SG g (BL SR g (hkLt c n) b).2.2:=by
 unfold BL
 split
 ·split
  ·split
   ·refine same_links fun x hx=>?_
    obtain⟨p,hp,rfl⟩:=List.mem_map.1 hx
    have h1:mJ (gq SR g.ns) p.1 hH=true:=pairs_lab (q:=hkLt c n) (s:=⟨vH,hH,e0,0,0⟩) List.mem_cons_self rfl p hp
    unfold eM
    simp only
    rw[unseen_node (all_lab hs Pure.hHe h1) sg_H]
    rfl
   ·exact SameFor.refl _ _
  ·exact SameFor.refl _ _
 ·exact SameFor.refl _ _
theorem hid_sj (a:ByteArray) (n:Int):SameFor SG g (D8 SR g (hkSj a n) b).2.2:=by
 unfold D8
 split
 ·split
  ·exact same_nodes (veil_setAll fun _ _ x _ _=>sg_j x.label)
  ·exact SameFor.refl _ _
 ·exact SameFor.refl _ _
theorem hid_sk (hs:g.ns.Pairwise (fun a b=>a.num<b.num)) (n z:Int):SameFor SG g (D8 SR g (hkSk n z) b).2.2:=by
 unfold D8
 split
 ·split
  ·refine same_nodes (veil_setAll fun m hm x hx e=>?_)
   have h1:mJ (gq SR g.ns) m ⟨#[66]⟩=true:=nodes_lab (q:=hkSk n z) (s:=at1 1 ⟨#[66]⟩) List.mem_cons_self rfl m hm
   rw[all_lab hs Pure.bBe h1 x hx e]
   exact sg_Bk
  ·exact SameFor.refl _ _
 ·exact SameFor.refl _ _
theorem hid_dl (hs:g.ns.Pairwise (fun a b=>a.num<b.num)) (n:Int):SameFor SG g (BK SR g (hkDl n) b).2.2:=by
 unfold BK
 split
 ·split
  ·refine same_drop (wy:=hH) (fun m hm=>?_) sg_H
   have h1:mJ (gq SR g.ns) m hH=true:=nodes_lab (q:=hkDl n) (s:=⟨vH,hH,e0,0,0⟩) List.mem_cons_self rfl m hm
   exact all_lab hs Pure.hHe h1
  ·exact SameFor.refl _ _
 ·exact SameFor.refl _ _
theorem hid_dn (hs:g.ns.Pairwise (fun a b=>a.num<b.num)) (c:Int):SameFor SG g (tA SR g (hkQ c) b).2.2:=by
 unfold tA hkQ
 split
 ·rw[if_pos (by simp[hkMk])];exact hid_mk _
 ·split
  ·rw[if_neg (by simp[hkLu]),if_pos (by simp[hkLu])];exact hid_lu _ _
  ·split
   ·rw[if_neg (by simp[hkSj]),if_neg (by simp[hkSj]),if_pos (by simp[hkSj])];exact hid_sj _ _
   ·split
    ·rw[if_neg (by simp[hkSk]),if_neg (by simp[hkSk]),if_pos (by simp[hkSk])];exact hid_sk hs _ _
    ·split
     ·rw[if_neg (by simp[hkLt]),if_pos (by simp[hkLt])];exact hid_lt hs _ _
     ·rw[if_neg (by simp[hkDl]),if_neg (by simp[hkDl]),if_neg (by simp[hkDl])];exact hid_dl hs _
theorem hk_kind (c:Int):(hkQ c).kind≠1∧(hkQ c).kind≠6:=by
 unfold hkQ
 split
 ·simp[hkMk]
 ·split
  ·simp[hkLu]
  ·split
   ·simp[hkSj]
   ·split
    ·simp[hkSk]
    ·split
     ·simp[hkLt]
     ·simp[hkDl]
end
end Go.Proofs.YtobgbmfpicmpcaaGreatDoor
