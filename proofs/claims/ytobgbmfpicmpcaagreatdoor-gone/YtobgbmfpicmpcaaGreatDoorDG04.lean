/- One node has k = 9: what is found of it. No program in this text. -/
import Derived.Test.YtobgbmfpicmpcaaGreatDoorDG03
import Derived.Test.YtobgbmfpicmpcaaGreatDoorDG02
import Derived.Test.YtobgbmfpicmpcaaGreatDoorC38
import Derived.Test.YtobgbmfpicmpcaaGreatDoorC32
import Derived.Test.YtobgbmfpicmpcaaGreatDoorC42
import Derived.Lib.Hide
set_option maxRecDepth 100000
set_option maxHeartbeats 8000000
namespace Go.Proofs.YtobgbmfpicmpcaaGreatDoor
open Go.Lib (hid)
section
open Go.RowKit Go.Maps Go.Sort
structure bu (ns:List aq) (N:Int):Prop where
 wh:ns.Pairwise (fun a b=>a.num<b.num)
 here:∃x∈ns,x.num=N∧x.label=⟨#[65]⟩∧x.aW kB=some 9
 only:∀x∈ns,x.aW kB=some 9→x.num=N
 len:ns.length≤40
theorem bu.seen {ns:List aq} {N:Int} {S:aI→Bool} (h:bu ns N) (h1:S (1,⟨#[65]⟩,⟨#[]⟩)=true) (h3:S (3,⟨#[65]⟩,kB)=true):bu (gq S ns) N:=by
 have he:gq S ns=(ns.filter (rW S)).map (fun x=>(⟨x.num,x.label,0,fun s=>if S (3,x.label,s) then x.aW s else none⟩:aq)):=by
  unfold gq dP
  rw[List.map_map]
  rfl
 rw[he]
 refine⟨?_,?_,?_,?_⟩
 ·rw[List.pairwise_map]
  exact h.wh.filter _
 ·obtain⟨x,hx,e1,e2,e3⟩:=h.here
  refine⟨_,List.mem_map_of_mem (List.mem_filter.2 ⟨hx,by unfold rW;rw[e2];exact h1⟩),e1,e2,?_⟩
  simp only
  rw[e2,if_pos h3]
  exact e3
 ·intro y hy e
  obtain⟨x,hx,rfl⟩:=List.mem_map.1 hy
  simp only at e⊢
  split at e
  ·exact h.only x (List.mem_filter.1 hx).1 e
  ·cases e
 ·rw[List.length_map]
  exact Nat.le_trans (List.length_filter_le _ _) h.len
theorem bu.node {ns:List aq} {N:Int} (h:bu ns N):∃x,nodeAt ns N=some x∧x.num=N∧x.label=⟨#[65]⟩∧x.aW kB=some 9:=by
 obtain⟨x,hx,e1,e2,e3⟩:=h.here
 cases hn:nodeAt ns N with
 | none=>
  unfold nodeAt at hn
  have:=List.find?_eq_none.1 hn x hx
  simp[e1] at this
 | some y=>
  have hy:=mm hn
  have e:y.num=N:=by
   unfold nodeAt at hn
   simpa using List.find?_some hn
  obtain rfl:=s6 h.wh hx hy (by rw[e1,e])
  exact⟨x,rfl,e1,e2,e3⟩
def nine:bP:=⟨1,⟨vB 0,kB,0⟩,dT 9⟩
theorem gu {ns:List aq} {N:Int} (h:bu ns N) {f:Row} {e:Int} (hf:f (vB 0)=some e):kD ns f nine=decide (e=N):=by
 have hv:(vB 0).toList.isEmpty=false:=Pure.MC 0
 have h0:e0.toList.isEmpty=true:=by decide +kernel
 have h1:kD ns f nine=mB 1 (valueOf ns e kB) (some 9):=by
  unfold kD nine dT
  simp only
  rw[hf]
  unfold eH
  simp only
  rw[if_neg (by rw[hv];decide),if_pos h0]
  rfl
 rw[h1]
 by_cases he:e=N
 ·subst he
  obtain⟨x,hx,_,_,e3⟩:=h.node
  have h2:valueOf ns e kB=some 9:=by unfold valueOf;rw[hx];exact e3
  rw[h2,decide_eq_true rfl]
  decide +kernel
 ·rw[decide_eq_false he]
  cases hv:valueOf ns e kB with
  | none=>decide +kernel
  | some v=>
   have hv9:v≠9:=by
    rintro rfl
    unfold valueOf at hv
    cases hn:nodeAt ns e with
    | none=>rw[hn] at hv;cases hv
    | some x=>
     rw[hn] at hv
     have e2:x.num=e:=by
      unfold nodeAt at hn
      simpa using List.find?_some hn
     exact he (e2.symm.trans (h.only x (mm hn) hv))
   unfold mB fT
   simp
   unfold Lib.compareInt
   split
   ·omega
   ·split<;>omega
theorem ky {α:Type} [DecidableEq α] {x:α}:∀{l:List α},(∀y∈l,y=x)→l≠[]→lZ l=[x]
 | [],_,h=>absurd rfl h
 | a::r,h,_=>by
  have ha:=h a List.mem_cons_self
  unfold lZ
  split
  ·rename_i hm
   exact ky (fun y hy=>h y (List.mem_cons_of_mem _ hy)) (fun e=>by rw[e] at hm;cases hm)
  ·rename_i hm
   cases r with
   | nil=>rw[ha];rfl
   | cons b r=>exact absurd (by rw[ha,←h b (List.mem_cons_of_mem _ List.mem_cons_self)];exact List.mem_cons_self) hm
theorem lu {ns:List aq} {N:Int} (h:bu ns N) {s:aN} (hs:s.label=⟨#[65]⟩∨s.label=e0):qX ns s none N=false:=by
 obtain⟨x,hx,_,e2,_⟩:=h.node
 unfold qX mJ
 rw[hx]
 rcases hs with hs|hs
 ·rw[hs];simp[e2]
 ·rw[hs]
  have h0:e0.toList.isEmpty=true:=by decide +kernel
  rw[h0];simp
theorem gp {ns:List aq} {N:Int} (h:bu ns N):N∈ns.map (·.num):=by
 obtain⟨x,hx,e1,_⟩:=h.here
 exact List.mem_map.2 ⟨x,hx,e1⟩
theorem As {ns:List aq} {es:List aJ} {N b:Int} {q:au} (h:bu ns N) (hq:q.ai=[cz 0 ⟨#[65]⟩]) (hc:q.conds=[nine]) (hb:40≤b):0≤(aR ns es q b).left∧fQ (vB 0) (aR ns es q b).rows=[N]:=by
 have hl:=h.len
 obtain⟨l',h1,h2⟩:=Mj (ns:=ns) (es:=es) (q:=q) (b:=b) hq (by show e0.toList.isEmpty=true;decide +kernel) (by omega)
 rw[h1]
 refine⟨h2,?_⟩
 unfold fQ
 have hco:∀e:Int,q.conds.all (kD ns (fD jN (vB 0) (some e)))=decide (e=N):=fun e=>by
  rw[hc,List.all_cons,List.all_nil,Bool.and_true]
  exact gu h (br _ _ _)
 have ho:lZ (mP (vB 0) ((ns.map (·.num)).flatMap (fun e=>if qX ns (cz 0 ⟨#[65]⟩) none e then [] else if q.conds.all (kD ns (fD jN (vB 0) (some e))) then [fD jN (vB 0) (some e)] else [])))=[N]:=by
  refine ky (fun y hy=>?_) (fun e0'=>?_)
  ·unfold mP at hy
   obtain⟨f,hf,rfl⟩:=List.mem_map.1 hy
   obtain⟨e,_,he⟩:=List.mem_flatMap.1 hf
   split at he
   ·cases he
   ·rw[hco] at he
    split at he
    ·rename_i hd
     rw[List.mem_singleton.1 he,br]
     simpa using hd
    ·cases he
  ·have hm:fD jN (vB 0) (some N)∈(ns.map (·.num)).flatMap (fun e=>if qX ns (cz 0 ⟨#[65]⟩) none e then [] else if q.conds.all (kD ns (fD jN (vB 0) (some e))) then [fD jN (vB 0) (some e)] else []):=by
    refine List.mem_flatMap.2 ⟨N,gp h,?_⟩
    rw[if_neg (by rw[lu h (Or.inl rfl)];decide),hco,if_pos (decide_eq_true rfl)]
    exact List.mem_singleton.2 rfl
   unfold mP at e0'
   rw[List.map_eq_nil_iff] at e0'
   rw[e0'] at hm
   cases hm
 refine(congrArg (fun l:List Int=>l.mergeSort (fun x y=>decide (x≤y))) ho).trans ?_
 exact List.mergeSort_singleton _
theorem Mm {ns:List aq} {es:List aJ} {N b:Int} {q:au} (h:bu ns N) (hq:q.ai=[cz 0 ⟨#[65]⟩,cz 1 e0]) (hc:q.conds=[nine]) (hb:1640≤b):0≤(aR ns es q b).left∧(∀p∈jb (vB 0) (vB 1) (aR ns es q b).rows,p.1=N)∧jb (vB 0) (vB 1) (aR ns es q b).rows≠[]:=by
 have hl:=h.len
 have h0:e0.toList.isEmpty=true:=by decide +kernel
 have hne:vB 1≠vB 0:=by decide +kernel
 have hmul:ns.length*(ns.length+1)≤40*41:=Nat.mul_le_mul hl (by omega)
 obtain⟨l',h1,h2⟩:=Mo (ns:=ns) (es:=es) (q:=q) (b:=b) hq h0 h0 hne (by omega)
 rw[h1]
 have hco:∀e d:Int,q.conds.all (kD ns (fD (fD jN (vB 0) (some e)) (vB 1) (some d)))=decide (e=N):=fun e d=>by
  rw[hc,List.all_cons,List.all_nil,Bool.and_true]
  exact gu h (by rw[b7 _ (Ne.symm hne),br])
 have hm:fD (fD jN (vB 0) (some N)) (vB 1) (some N)∈(ns.map (·.num)).flatMap (fun e=>if qX ns (cz 0 ⟨#[65]⟩) none e then [] else (ns.map (·.num)).flatMap (fun d=>if qX ns (cz 1 e0) none d then [] else if q.conds.all (kD ns (fD (fD jN (vB 0) (some e)) (vB 1) (some d))) then [fD (fD jN (vB 0) (some e)) (vB 1) (some d)] else [])):=by
  refine List.mem_flatMap.2 ⟨N,gp h,?_⟩
  rw[if_neg (by rw[lu h (Or.inl rfl)];decide)]
  refine List.mem_flatMap.2 ⟨N,gp h,?_⟩
  rw[if_neg (by rw[lu h (Or.inr rfl)];decide),hco,if_pos (decide_eq_true rfl)]
  exact List.mem_singleton.2 rfl
 refine⟨h2,fun p hp=>?_,fun e=>?_⟩
 ·unfold jb at hp
  have hp2:=kF.1 ((fJ _ _).mem_iff.1 hp)
  unfold jQ at hp2
  obtain⟨f,hf,rfl⟩:=List.mem_map.1 hp2
  obtain⟨e,_,he⟩:=List.mem_flatMap.1 hf
  split at he
  ·cases he
  ·obtain⟨d,_,hd⟩:=List.mem_flatMap.1 he
   split at hd
   ·cases hd
   ·rename_i _ _
    have hco':=hco e d
    change f∈(if q.conds.all (kD ns (fD (fD jN (vB 0) (some e)) (vB 1) (some d)))=true then [fD (fD jN (vB 0) (some e)) (vB 1) (some d)] else []) at hd
    rw[hco'] at hd
    split at hd
    ·rename_i hd2
     rw[List.mem_singleton.1 hd]
     simp only
     rw[b7 _ (Ne.symm hne),br]
     simpa using hd2
    ·cases hd
 ·have hm2:(N,N)∈jb (vB 0) (vB 1) ((ns.map (·.num)).flatMap (fun e=>if qX ns (cz 0 ⟨#[65]⟩) none e then [] else (ns.map (·.num)).flatMap (fun d=>if qX ns (cz 1 e0) none d then [] else if q.conds.all (kD ns (fD (fD jN (vB 0) (some e)) (vB 1) (some d))) then [fD (fD jN (vB 0) (some e)) (vB 1) (some d)] else []))):=by
   unfold jb
   refine(fJ _ _).mem_iff.2 (kF.2 ?_)
   unfold jQ
   refine List.mem_map.2 ⟨_,hm,?_⟩
   rw[b7 _ (Ne.symm hne),br,br]
   rfl
  have e':jb (vB 0) (vB 1) ((ns.map (·.num)).flatMap (fun e=>if qX ns (cz 0 ⟨#[65]⟩) none e then [] else (ns.map (·.num)).flatMap (fun d=>if qX ns (cz 1 e0) none d then [] else if q.conds.all (kD ns (fD (fD jN (vB 0) (some e)) (vB 1) (some d))) then [fD (fD jN (vB 0) (some e)) (vB 1) (some d)] else [])))=[]:=e
  rw[e'] at hm2
  cases hm2
end
section
open Go.RowKit Go.Maps Go.Sort
def ML:au:=⟨5,[],[],[],0,false,0,0,e0,e0,lD,e0,e0,⟨#[65]⟩,[⟨kB,9⟩]⟩
def vx:au:=⟨4,[cz 0 ⟨#[65]⟩,cz 1 e0],[nine],[],0,false,0,0,vB 0,e0,lD,uB,vB 1,e0,[]⟩
def s8:au:=⟨3,[cz 0 ⟨#[65]⟩],[nine],[],0,false,0,0,vB 0,e0,lD,e0,e0,e0,[]⟩
def vy:au:=⟨1,[cz 0 e0,⟨vB 1,e0,uB,1,1⟩],[nine],[⟨e0,e0⟩],0,false,0,-1,e0,e0,lD,e0,e0,e0,[]⟩
def MK:au:=⟨5,[],[],[],0,false,0,0,e0,e0,lD,e0,e0,⟨#[65]⟩,[]⟩
def MZ:ByteArray:=⟨#[67,82,69,65,84,69,32,40,32,65,32,123,32,107,32,58,32,57,32,125,32,41]⟩
def MQ:ByteArray:=⟨#[77,65,84,67,72,32,40,32,97,32,58,32,65,32,41,32,44,32,40,32,98,32,41,32,87,72,69,82,69,32,97,32,46,32,107,32,61,32,57,32,67,82,69,65,84,69,32,40,32,97,32,41,32,45,91,32,85,32,93,45,62,32,40,32,98,32,41]⟩
def MJ:ByteArray:=⟨#[77,65,84,67,72,32,40,32,97,32,58,32,65,32,41,32,87,72,69,82,69,32,97,32,46,32,107,32,61,32,57,32,68,69,76,69,84,69,32,97]⟩
def MV:ByteArray:=⟨#[77,65,84,67,72,32,40,32,97,32,41,32,45,91,32,85,32,93,45,62,32,40,32,98,32,41,32,87,72,69,82,69,32,97,32,46,32,107,32,61,32,57,32,82,69,84,85,82,78,32,67,79,85,78,84]⟩
def M0:ByteArray:=⟨#[67,82,69,65,84,69,32,40,32,65,32,41]⟩
theorem qag:cD ⟨#[65]⟩=true:=by decide +kernel
theorem ei:mg nine:=⟨by simp[nine],Pure.tV 0,Or.inl ⟨by simp[nine],Pure.bx (by unfold oD;simp)⟩⟩
theorem LY:fU (cz 1 e0):=⟨Pure.ad 1,Or.inl rfl,Or.inl ⟨rfl,rfl,rfl⟩⟩
theorem LW:fU (cz 0 e0):=⟨Pure.ad 0,Or.inl rfl,Or.inl ⟨rfl,rfl,rfl⟩⟩
theorem Lr:jk ML:=by
 refine Or.inr (Or.inr (Or.inr (Or.inr (Or.inl ⟨qag,fun p hp=>?_,by decide,by decide +kernel,rfl⟩))))
 rw[List.mem_singleton.1 hp]
 exact⟨Pure.ft,by unfold oD;simp⟩
theorem LR:jk vx:=
 Or.inr (Or.inr (Or.inr (Or.inl ⟨Pure.cr rfl (Pure.bc 0 qag) LY rfl (fun _ hx=>Pure.bo ei hx) (by simp[vx]),Pure.ad 0,Pure.fY,Pure.ad 1,rfl⟩)))
theorem Lw:jk s8:=
 Or.inr (Or.inr (Or.inl ⟨Pure.ji rfl (Pure.bc 0 qag) rfl (fun _ hx=>Pure.bo ei hx) (by simp[s8]),Pure.ad 0,rfl⟩))
theorem LN:jk MK:=
 Or.inr (Or.inr (Or.inr (Or.inr (Or.inl ⟨qag,fun p hp=>(by cases hp),by decide,by decide +kernel,rfl⟩))))
theorem yi:parseText (fg MZ)=(ML,0):=by
 have h:(⟨(iy (cJ ML)).toArray⟩:ByteArray)=MZ:=by decide +kernel
 rw[←h]
 exact tu Lr (by decide +kernel)
theorem zc:parseText (fg MQ)=(vx,0):=by
 have h:(⟨(iy (cJ vx)).toArray⟩:ByteArray)=MQ:=by decide +kernel
 rw[←h]
 exact tu LR (by decide +kernel)
theorem ms:parseText (fg MJ)=(s8,0):=by
 have h:(⟨(iy (cJ s8)).toArray⟩:ByteArray)=MJ:=by decide +kernel
 rw[←h]
 exact tu Lw (by decide +kernel)
theorem yl:parseText (fg M0)=(MK,0):=by
 have h:(⟨(iy (cJ MK)).toArray⟩:ByteArray)=M0:=by decide +kernel
 rw[←h]
 exact tu LN (by decide +kernel)
variable {b1 b2:Nat} {g:oJ}
theorem gA {q:au} {t:ByteArray} (hp:parseText (fg t)=(q,0)) (h1:q.kind≠1) (h6:q.kind≠6) (b:Int):lK [(fH,b1,SR),(fm,b2,SG)] g fH t b=(Jm SR g q (uj b),(tA SR g q (uj b)).2.2):=by
 unfold lK
 rw[CW,hp]
 simp only[if_pos]
 unfold uq
 rw[if_neg h1,if_neg h6]
theorem ua {q:au} {t:ByteArray} (hp:parseText (fg t)=(q,0)) (h1:q.kind≠1) (h6:q.kind≠6) (b:Int):lK [(fH,b1,SR),(fm,b2,SG)] g fm t b=(Jm SG g q (uj b),(tA SG g q (uj b)).2.2):=by
 unfold lK
 rw[AI,hp]
 simp only[if_pos]
 unfold uq
 rw[if_neg h1,if_neg h6]
theorem LZ:uj 5000=5000:=by decide
theorem Mw:gI SR ML=true:=by
 unfold gI
 simp only[ML,List.all_cons,List.all_nil,Ks,Bool.and_true]
 decide +kernel
theorem Md:gI SR MK=true:=by
 unfold gI
 simp only[MK,List.all_nil,Ks,Bool.true_and]
 decide +kernel
theorem ni {q:au} {t:ByteArray} (hp:parseText (fg t)=(q,0)) (hk:q.kind=5) (hm:gI SR q=true):(40≤g.ns.length∧lK [(fH,b1,SR),(fm,b2,SG)] g fH t 1=(([],8),g))∨(g.ns.length<40∧lK [(fH,b1,SR),(fm,b2,SG)] g fH t 1=(([dB (g.last+1)],0),⟨g.ns++[⟨g.last+1,q.label,0,lj q.ay⟩],g.es,g.last+1⟩)):=by
 have hr:=gA (b1:=b1) (b2:=b2) (g:=g) hp (by rw[hk];decide) (by rw[hk];decide) 1
 rw[hr,Ki]
 unfold Jm
 rw[M3 hk]
 unfold ER
 have hmp:iH SR q 1 g.ns.length=if 40≤g.ns.length then 8 else 0:=by unfold iH;rw[if_neg (by decide),hm,if_pos rfl]
 rw[hmp]
 by_cases h:40≤g.ns.length
 ·left
  refine⟨h,?_⟩
  rw[if_pos h]
  rfl
 ·right
  refine⟨by omega,?_⟩
  rw[if_neg h]
  rfl
theorem MP {N:Int} (h:bu g.ns N):∃P:List PP,P≠[]∧(∀p∈P,p.1=N)∧(lK [(fH,b1,SR),(fm,b2,SG)] g fH MQ 5000=(([],8),g)∨(g.es.length+P.length≤80∧lK [(fH,b1,SR),(fm,b2,SG)] g fH MQ 5000=(([dB P.length],0),⟨g.ns,g.es++P.map (fun p=>⟨uB,p.1,p.2⟩),g.last⟩))):=by
 obtain⟨hl,hp,hne⟩:=Mm (es:=jS SR g.ns g.es) (q:=vx) (b:=5000) (h.seen (S:=SR) (by rw[Ks];decide +kernel) (by rw[Ks];decide +kernel)) rfl rfl (by omega)
 have h7:SR (7,uB,⟨#[]⟩)=true:=by rw[Ks];decide +kernel
 refine⟨jb (vB 0) (vB 1) (iD SR g vx 5000).rows,hne,hp,?_⟩
 have hl2:0≤(iD SR g vx 5000).left:=hl
 rw[gA zc (by decide) (by decide),LZ]
 unfold Jm
 rw[MX rfl]
 have e:BL SR g vx 5000=if g.es.length+(jb (vB 0) (vB 1) (iD SR g vx 5000).rows).length≤80 then (((jb (vB 0) (vB 1) (iD SR g vx 5000).rows).length:Int),0,⟨g.ns,g.es++(jb (vB 0) (vB 1) (iD SR g vx 5000).rows).map (fun p=>⟨uB,p.1,p.2⟩),g.last⟩) else (0,8,g):=by
  unfold BL
  rw[if_pos hl2]
  have h7':SR (7,vx.type,⟨#[]⟩)=true:=h7
  rw[if_pos h7']
  rfl
 rw[e]
 by_cases h80:g.es.length+(jb (vB 0) (vB 1) (iD SR g vx 5000).rows).length≤80
 ·right
  refine⟨h80,?_⟩
  rw[if_pos h80]
  rfl
 ·left
  rw[if_neg h80]
  rfl
theorem MG {N:Int} (h:bu g.ns N) (hx:∃x∈g.es,x.type=uB∧x.src=N):lK [(fH,b1,SR),(fm,b2,SG)] g fm MJ 5000=(([],7),g):=by
 obtain⟨hl,hn⟩:=As (es:=jS SG g.ns g.es) (q:=s8) (b:=5000) (h.seen (S:=SG) (by rw[FI];decide +kernel) (by rw[FI];decide +kernel)) rfl rfl (by omega)
 have hl2:0≤(iD SG g s8 5000).left:=hl
 have hn2:fQ s8.name (iD SG g s8 5000).rows=[N]:=hn
 have hfr:g.es.all (l8 (gq SG g.ns) SG [N])=false:=by
  obtain⟨x,hm,e1,e2⟩:=hx
  rw[List.all_eq_false]
  refine⟨x,hm,?_⟩
  unfold l8 eN cW iw
  have h8:SG (8,uB,⟨#[]⟩)=false:=by rw[FI];decide +kernel
  have h10:SG (10,⟨#[]⟩,⟨#[]⟩)=false:=by rw[FI];decide +kernel
  have hc:[N].contains x.src=true:=by rw[e2];simp
  rw[hc,e1]
  split
  ·rw[h8];simp
  ·rw[h10];simp
 rw[ua ms (by decide) (by decide),LZ]
 unfold Jm
 rw[MY rfl]
 have e:BK SG g s8 5000=(0,7,g):=by
  unfold BK
  rw[if_pos hl2,hn2,hfr,Bool.and_false]
  rfl
 rw[e]
 rfl
theorem MM {N:Int} (h:bu g.ns N) (hd:qad g):lK [(fH,b1,SR),(fm,b2,SG)] g fH MJ 5000=(([dB 1],0),⟨g.ns.filter (fun x=>!(cW [N] x.num)),g.es.filter (fun x=>!(eN [N] x)),g.last⟩):=by
 have hs:=h.seen (S:=SR) (by rw[Ks];decide +kernel) (by rw[Ks];decide +kernel)
 obtain⟨hl,hn⟩:=As (es:=jS SR g.ns g.es) (q:=s8) (b:=5000) hs rfl rfl (by omega)
 have hl2:0≤(iD SR g s8 5000).left:=hl
 have hn2:fQ s8.name (iD SR g s8 5000).rows=[N]:=hn
 have hfr:g.es.all (l8 (gq SR g.ns) SR [N])=true:=by
  rw[List.all_eq_true]
  intro x hm
  unfold l8 iw
  have h8:SR (8,uB,⟨#[]⟩)=true:=by rw[Ks];decide +kernel
  have h9:SR (8,tB,⟨#[]⟩)=true:=by rw[Ks];decide +kernel
  have h10:SR (10,⟨#[]⟩,⟨#[]⟩)=true:=by rw[Ks];decide +kernel
  split
  ·rcases hd.ty x hm with e|e
   ·rw[e,h9];simp
   ·rw[e,h8];simp
  ·rw[h10];simp
 have hat:gX (gq SR g.ns) SR 6 ⟨#[]⟩ [N]=true:=by
  obtain⟨x,hx,_,e2,_⟩:=hs.node
  unfold gX jU
  rw[List.all_cons,List.all_nil,Bool.and_true,hx]
  show SR (6,x.label,⟨#[]⟩)=true
  rw[e2,Ks]
  decide +kernel
 rw[gA ms (by decide) (by decide),LZ]
 unfold Jm
 rw[MY rfl]
 have e:BK SR g s8 5000=(1,0,⟨g.ns.filter (fun x=>!(cW [N] x.num)),g.es.filter (fun x=>!(eN [N] x)),g.last⟩):=by
  unfold BK
  rw[if_pos hl2,hn2,hfr,hat]
  rfl
 rw[e]
 rfl
end
section
open Go.RowKit Go.Maps Go.Sort
def bs (p:Int) (es:List aJ):Nat:=(es.filter (fun e=>e.src==p&&(e.type.toList==uB.toList))).length
theorem lr (p:Int) (e:aJ) (r:List aJ):bs p (e::r)=(if (e.src==p&&(e.type.toList==uB.toList))=true then 1 else 0)+bs p r:=by
 unfold bs
 rw[List.filter_cons]
 split
 ·rw[List.length_cons];omega
 ·omega
theorem kp (a:Int):∀(es:List aJ),bs a es+(es.filter (fun e=>!(e.src==a))).length≤es.length
 | []=>by simp[bs]
 | e::r=>by
  have ih:=kp a r
  rw[lr,List.filter_cons,List.length_cons]
  cases h:(e.src==a) with
  | true=>simp only[Bool.not_true,Bool.true_and];split<;>simp<;>omega
  | false=>simp only[Bool.not_false,Bool.false_and];simp;omega
theorem Lq {p a:Int} (h:p≠a) (es:List aJ):bs p (es.filter (fun e=>!(e.src==a)))=bs p es:=by
 unfold bs
 rw[List.filter_filter]
 congr 1
 refine List.filter_congr fun e _=>?_
 cases h1:(e.src==p) with
 | false=>simp
 | true=>
  have h2:e.src=p:=by simpa using h1
  have h3:(e.src==a)=false:=by rw[h2];simpa using h
  rw[h3];simp
theorem lS:∀(l:List Int) (es:List aJ),l.Nodup→(l.map fun p=>2*bs p es+1).sum≤l.length+2*es.length
 | [],es,_=>by simp
 | a::r,es,h=>by
  obtain⟨h1,h2⟩:=List.nodup_cons.1 h
  have ih:=lS r (es.filter (fun e=>!(e.src==a))) h2
  have he:(r.map fun p=>2*bs p es+1)=r.map fun p=>2*bs p (es.filter (fun e=>!(e.src==a)))+1:=List.map_congr_left fun p hp=>by rw[Lq (fun e:p=a=>h1 (by rw[←e];exact hp))]
  have hs:=kp a es
  rw[List.map_cons,List.sum_cons,he,List.length_cons]
  omega
theorem iK (p:Int):∀(es:List aJ) (k:Nat) (left:Int),(bs p es:Int)≤left→∃ws,lL ⟨0,0,0,0,0,p⟩ uB k es left=(ws,left - bs p es)∧ws.length=bs p es∧∀y∈ws,y.bM=1
 | [],k,left,_=>⟨[],by simp[lL,bs],by simp[bs],fun y hy=>(by cases hy)⟩
 | e::r,k,left,h=>by
  have hg:pT ⟨0,0,0,0,0,p⟩ uB k e=(e.src==p&&(e.type.toList==uB.toList)):=by unfold pT k9;simp
  rw[lr] at h⊢
  unfold lL
  rw[hg]
  by_cases hc:(e.src==p&&(e.type.toList==uB.toList))=true
  ·simp only[if_pos hc] at h⊢
   obtain⟨ws,h1,h2,h3⟩:=iK p r (k+1) (left - 1) (by omega)
   refine⟨rh ⟨0,0,0,0,0,p⟩ k e.dst::ws,?_,by rw[List.length_cons,h2];omega,fun y hy=>?_⟩
   ·rw[if_pos (by omega),h1]
    simp only[Prod.mk.injEq,true_and]
    omega
   ·rcases List.mem_cons.1 hy with rfl|hy
    ·rfl
    ·exact h3 y hy
  ·simp only[if_neg hc] at h⊢
   obtain⟨ws,h1,h2,h3⟩:=iK p r (k+1) left (by omega)
   refine⟨ws,?_,by omega,h3⟩
   rw[h1]
   simp only[Prod.mk.injEq,true_and]
   omega
theorem lp (es:List aJ):∀(ws:List eB) (n:Nat) (left:Int),ws.length≤n→0≤left→(∀y∈ws,y.bM=1)→eY es uB 1 1 n ws left=(ws.map (·.at_),left)
 | [],0,left,_,_,_=>rfl
 | [],n+1,left,_,_,_=>rfl
 | x::r,0,left,h,_,_=>by simp at h
 | x::r,n+1,left,h,h0,hy=>by
  have hx:=hy x List.mem_cons_self
  have ih:=lp es r n left (by simpa using h) h0 (fun y hm=>hy y (List.mem_cons_of_mem _ hm))
  unfold eY
  rw[if_neg (by omega),if_neg (by rw[hx];decide),if_pos (by rw[hx];decide),ih]
  rfl
theorem u1 {ns:List aq} {es:List aJ} {s:aN} (hs:s.type=uB) (h1:s.least=1) (h2:s.bf=1) {p l:Int} (h:(bs p es:Int)≤l):∃E,fC ns es s p l=(E,l - bs p es)∧E.length=bs p es:=by
 obtain⟨ws,e1,e2,e3⟩:=iK p es 0 l h
 refine⟨ws.map (·.at_),?_,by rw[List.length_map,e2]⟩
 unfold fC
 have hu:uB.toList.isEmpty=false:=by decide +kernel
 rw[hs,h1,h2,if_neg (by rw[hu];decide)]
 unfold eY
 rw[if_neg (by omega),if_pos (show ((0:Nat):Int)<1 by decide),if_neg (show ¬(1:Int)≤((0:Nat):Int) by decide),e1]
 simp only[List.nil_append]
 rw[lp es ws (l.toNat+1) (l - bs p es) (by omega) (by omega) e3]
theorem vg {ns:List aq} (h:NK ns) (f:Row):kD ns f nine=false:=by
 have hv:(vB 0).toList.isEmpty=false:=Pure.MC 0
 have h0:e0.toList.isEmpty=true:=by decide +kernel
 have h1:kD ns f nine=mB 1 (valueOf ns ((f (vB 0)).getD 0) kB) (some 9):=by
  unfold kD nine dT eH
  simp only
  rw[if_neg (by rw[hv];decide),if_pos h0]
 rw[h1]
 generalize (f (vB 0)).getD 0=e
 cases hv:valueOf ns e kB with
 | none=>decide +kernel
 | some v=>
  have hv9:v≠9:=by
   rintro rfl
   unfold valueOf at hv
   cases hn:nodeAt ns e with
   | none=>rw[hn] at hv;cases hv
   | some x=>rw[hn] at hv;exact h x (mm hn) hv
  unfold mB fT
  simp
  unfold Lib.compareInt
  split
  ·omega
  ·split<;>omega
theorem Ms {ns:List aq} {es:List aJ} (h:NK ns) (hs:ns.Pairwise (fun a b=>a.num<b.num)) (hn:ns.length≤40) (he:es.length≤80):0≤(aR ns es vy 5000).left∧(aR ns es vy 5000).rows=[]:=by
 have h0:e0.toList.isEmpty=true:=by decide +kernel
 have hne:vB 1≠vB 0:=by decide +kernel
 have hnd:(ns.map (·.num)).Nodup:=by
  unfold List.Nodup
  rw[List.pairwise_map]
  exact hs.imp fun h=>by omega
 have hsum:=lS (ns.map (·.num)) es hnd
 rw[List.length_map] at hsum
 have hnil:∀(E:List Int) (sk:Int→Bool),E.flatMap (fun e=>if sk e=true then [] else ([]:List Row))=[]:=by
  intro E sk
  rw[List.flatMap_eq_nil_iff]
  intro e _
  split<;>rfl
 unfold aR
 obtain⟨l',h1,h2⟩:=bb (ns:=ns) (es:=es) (cl:=[nine]) (s:=cz 0 e0) (r:=[⟨vB 1,e0,uB,1,1⟩]) (prev:=⟨#[]⟩) (f:=jN) (Rf:=fun _=>[]) (qaf:=fun e=>2*bs e es) (l:=5000) rfl (b8 h0) (fun e l rows hl=>by
  obtain⟨E,e1,e2⟩:=u1 (ns:=ns) (es:=es) (s:=⟨vB 1,e0,uB,1,1⟩) rfl rfl rfl (p:=e) (l:=l) (by omega)
  have hE:(E.map fun _=>0+1).sum=bs e es:=by rw[gi,e2];omega
  obtain⟨l',h3,h4⟩:=bb (ns:=ns) (es:=es) (cl:=[nine]) (s:=⟨vB 1,e0,uB,1,1⟩) (r:=[]) (prev:=(cz 0 e0).name) (f:=fD jN (cz 0 e0).name (some e)) (Rf:=fun _=>[]) (qaf:=fun _=>0) (l:=l) (b7 (f:=jN) (some e) hne) (E:=E) (l2:=l - bs e es) (by rw[br];exact e1) (fun d l rows _=>by
   obtain⟨l',h5,h6⟩:=di ns es [nine] (vB 1) (fD (fD jN (cz 0 e0).name (some e)) (vB 1) (some d)) l rows
   refine⟨l',?_,h6⟩
   rw[h5,List.all_cons,vg h,Bool.false_and,if_neg (by decide)]) rows (by rw[hE];omega)
  rw[hE] at h4
  refine⟨l',?_,by omega⟩
  rw[h3,hnil]) [] (by omega)
 have hq:bH ns es vy.conds vy.ai ⟨#[]⟩ ⟨5000,jN,[]⟩=⟨l',jN,[]++(ns.map (·.num)).flatMap (fun e=>if qX ns (cz 0 e0) none e then [] else [])⟩:=h1
 rw[hq,hnil]
 exact⟨by simp only;omega,rfl⟩
end
section
open Go.RowKit Go.Maps Go.Sort
theorem j1 {l:bK} (h:l.length=6) (o:Int) (d:Bool):gR o d [l]=[l]:=by
 unfold gR iW
 rw[List.map_cons,List.map_nil,List.mergeSort_singleton,List.map_cons,List.map_nil,sG h]
end
section
open Go.RowKit Go.Maps Go.Sort
theorem L3:jk vy:=by
 refine Or.inl ⟨Pure.cr rfl LW ⟨Pure.ad 1,Or.inl rfl,Or.inr ⟨Pure.fY,by decide,by decide,by decide⟩⟩ rfl (fun _ hx=>Pure.bo ei hx) (by simp[vy]),fun x hx=>?_,by simp[vy],by decide,by decide,by decide,fun _=>rfl,by decide,by decide,Or.inl rfl,rfl⟩
 rw[List.mem_singleton.1 hx]
 exact Pure.p8
theorem F7:parseText (fg MV)=(vy,0):=by
 have h:(⟨(iy (cJ vy)).toArray⟩:ByteArray)=MV:=by decide +kernel
 rw[←h]
 exact tu L3 (by decide +kernel)
theorem lz (S:aI→Bool) (ns:List aq):gq S ns=(ns.filter (rW S)).map (fun x=>(⟨x.num,x.label,0,fun s=>if S (3,x.label,s) then x.aW s else none⟩:aq)):=by
 unfold gq dP
 rw[List.map_map]
 rfl
theorem NK.seen {ns:List aq} (h:NK ns) (S:aI→Bool):NK (gq S ns):=by
 rw[lz]
 intro y hy e
 obtain⟨x,hx,rfl⟩:=List.mem_map.1 hy
 simp only at e
 split at e
 ·exact h x (List.mem_filter.1 hx).1 e
 ·cases e
theorem told_none:lJ [⟨e0,e0⟩] []=[[some 0,none,none,none,none,none]]:=by decide +kernel
theorem MS {b1 b2:Nat} {g:oJ} (h:NK g.ns) (hs:g.ns.Pairwise (fun a b=>a.num<b.num)) (hn:g.ns.length≤40) (he:g.es.length≤80):lK [(fH,b1,SR),(fm,b2,SG)] g fH MV 5000=(([⟨#[48]⟩],0),g):=by
 have hn2:(gq SR g.ns).length≤40:=by rw[lz,List.length_map];exact Nat.le_trans (List.length_filter_le _ _) hn
 have hs2:(gq SR g.ns).Pairwise (fun a b=>a.num<b.num):=by rw[lz,List.pairwise_map];exact hs.filter _
 have he2:(jS SR g.ns g.es).length≤80:=Nat.le_trans (List.length_filter_le _ _) he
 obtain⟨h1,h2⟩:=Ms (h.seen SR) hs2 hn2 he2
 unfold lK
 rw[CW,F7]
 simp only[if_pos]
 unfold uq
 rw[if_pos (show vy.kind=1 from rfl),LZ]
 have e:eK (gq SR g.ns) (jS SR g.ns g.es) vy 5000=if 0≤(aR (gq SR g.ns) (jS SR g.ns g.es) vy 5000).left then ((ix 0 (-1) (gR 0 false (lJ [⟨e0,e0⟩] ((aR (gq SR g.ns) (jS SR g.ns g.es) vy 5000).rows.map (fi (gq SR g.ns) [⟨e0,e0⟩]))))).map (gB 1),0) else ([],6):=rfl
 rw[e,if_pos h1,h2,List.map_nil,told_none,j1 rfl]
 have h3:(ix 0 (-1) [[some 0,none,none,none,none,none]]).map (gB 1)=[⟨#[48]⟩]:=by decide +kernel
 rw[h3]
theorem bu.a8 {ns ns':List aq} {N:Int} (h:bu ns N) (e:ns'.map de=ns.map de) (hs:ns'.Pairwise (fun a b=>a.num<b.num)):bu ns' N:=by
 have hm:∀{l l':List aq},l'.map de=l.map de→∀x∈l',∃y∈l,y.num=x.num∧y.label=x.label∧y.aW=x.aW:=fun e x hx=>by
  have h1:=List.mem_map_of_mem (f:=de) hx
  rw[e] at h1
  obtain⟨y,hy,e2⟩:=List.mem_map.1 h1
  unfold de at e2
  simp only[aq.mk.injEq,true_and] at e2
  exact⟨y,hy,e2⟩
 refine⟨hs,?_,fun x hx e3=>?_,?_⟩
 ·obtain⟨x,hx,e1,e2,e3⟩:=h.here
  obtain⟨y,hy,a1,a2,a3⟩:=hm e.symm x hx
  exact⟨y,hy,by rw[a1];exact e1,by rw[a2];exact e2,by rw[a3];exact e3⟩
 ·obtain⟨y,hy,a1,_,a3⟩:=hm e x hx
  rw[←a1]
  exact h.only y hy (by rw[a3];exact e3)
 ·have:=congrArg List.length e
  rw[List.length_map,List.length_map] at this
  rw[this]
  exact h.len
theorem xl {ns:List aq} {N:Int} (h:NK ns) (hs:ns.Pairwise (fun a b=>a.num<b.num)) (ht:∀x∈ns,x.num<N) (hl:ns.length<40):bu (ns++[⟨N,⟨#[65]⟩,0,lj [⟨kB,9⟩]⟩]) N:=by
 refine⟨?_,⟨_,List.mem_append.2 (Or.inr (List.mem_singleton.2 rfl)),rfl,rfl,?_⟩,fun x hx e=>?_,by rw[List.length_append];simp;omega⟩
 ·rw[List.pairwise_append]
  refine⟨hs,List.pairwise_singleton _ _,fun x hx y hy=>?_⟩
  rw[List.mem_singleton.1 hy]
  exact ht x hx
 ·unfold lj;simp[fD]
 ·rcases List.mem_append.1 hx with hx|hx
  ·exact absurd e (h x hx)
  ·rw[List.mem_singleton.1 hx]
theorem sv {ns:List aq} {N:Int} (h:bu ns N):NK (ns.filter (fun x=>!(cW [N] x.num)))∧(ns.filter (fun x=>!(cW [N] x.num))).length<40:=by
 refine⟨fun x hx e=>?_,?_⟩
 ·obtain⟨h1,h2⟩:=List.mem_filter.1 hx
  have h3:=h.only x h1 e
  unfold cW at h2
  rw[h3] at h2
  simp at h2
 ·obtain⟨x,hx,e1,_⟩:=h.here
  have h1:(ns.filter (fun x=>!(cW [N] x.num))).length<ns.length:=by
   refine List.length_filter_lt_length_iff_exists.2 ⟨x,hx,?_⟩
   unfold cW
   rw[e1]
   simp
  have:=h.len
  omega
end
section
open Go.RowKit Go.Maps Go.Sort
theorem Mz {ns:List aq} {es:List aJ} {last:Int} (h:qG ⟨ns,es,last⟩) (hd:qad ⟨ns,es,last⟩):M2 ns es:=by
 refine⟨fun x hx=>Fz (h.num x hx),fun x hx=>Nat.le_trans (cT (mN (hd.wy x hx))) (by decide),fun x hx s hs=>Nat.le_trans (hd.key x hx s hs) (by decide),fun x hx=>⟨Fz (h.ends x hx).1,Fz (h.ends x hx).2⟩,fun x hx=>?_,?_⟩
 ·rcases hd.ty x hx with e|e<;>(rw[e];decide)
 ·have h1:=h.n40;have h2:=h.GQ;simp only at h1 h2;omega
variable {B G b1 b2 k:Nat} {ns ns':List aq} {es':List aJ} {W0 W w:World}
theorem aa {W w:World} {Bx n:Nat} {v:Value} {xs:List Value} (h:W.ownsRow Bx 9 1 v n xs) (hb:Below W.heap.size W w):w.ownsRow Bx 9 1 v n xs:=h.kept (af hb none) (by cases v.ownBlock<;>simp)
end
section
open Go.RowKit Go.Maps Go.Sort
def qah (B G b1 b2:Nat) (ns:List aq) (es:List aJ) (last:Int) (k:Nat) (W0 W:World):Prop:=
 ∃cs vn ve m,VG B G [(fH,b1,SR),(fm,b2,SG)] cs vn ve ns es last m W∧qG ⟨ns,es,last⟩∧qad ⟨ns,es,last⟩∧6≤m∧m≤400000+k*7010∧last≤100+k∧Below B W0 W∧B≤W.heap.size
variable {B G b1 b2 k:Nat} {ns:List aq} {es:List aJ} {last:Int} {W0 W w:World}
theorem qah.later (h:qah B G b1 b2 ns es last k W0 W) (hb:Below W.heap.size W w):qah B G b1 b2 ns es last k W0 w:=by
 obtain⟨cs,vn,ve,m,hv,hok,hdi,h6,hm,hl,hbw,hB⟩:=h
 exact⟨cs,vn,ve,m,hv.later hb,hok,hdi,h6,hm,hl,hbw.trans (hb.mono hB),Nat.le_trans hB hb.size⟩
theorem qah.low (h:qah B G b1 b2 ns es last k W0 W):Below B W0 W:=by
 obtain⟨_,_,_,_,_,_,_,_,_,_,h,_⟩:=h
 exact h
theorem qah.wh (h:qah B G b1 b2 ns es last k W0 W):ns.Pairwise (fun a b=>a.num<b.num)∧(∀x∈ns,x.num≤last)∧qG ⟨ns,es,last⟩∧qad ⟨ns,es,last⟩:=by
 obtain⟨_,_,_,_,hv,hok,hdi,_⟩:=h
 exact⟨hv.own.gh,hv.own.top,hok,hdi⟩
theorem qah.MO (h:qah B G b1 b2 ns es last k W0 W) (hk:k≤20) (ht:∀w,Below B W0 w→BG w):
  Calls Tryz.prog 32 #[.pointer (some ⟨G,0,none⟩)] W fun e W'=>∃v L,e=.returned v∧W'.ownsRow W.heap.size 9 1 v L.length (strs L)∧ki ns es L∧L.length≤1000000∧Below W.heap.size W W':=by
 have hlow:=h.low
 obtain⟨cs,vn,ve,m,hv,hok,hdi,h6,hm,hl,hbw,hB⟩:=h
 have hd:=Mz hok hdi
 refine(MN hv.own hd (by omega) (ht _ hlow)).mono ?_
 rintro e W' ⟨v,L,rfl,hr,hD,hb⟩
 refine⟨v,L,rfl,hr,hD,?_,hb⟩
 obtain⟨ts,h1,_,rfl⟩:=hD
 have h2:=hd.rF
 rw[List.length_append,List.length_map]
 omega
theorem qah.run {role t:ByteArray} {b:Int} {l:List ByteArray} {er:Int} {g':oJ} {ev:Value} (h:qah B G b1 b2 ns es last k W0 W) (hR:lK [(fH,b1,SR),(fm,b2,SG)] ⟨ns,es,last⟩ role t b=((l,er),g')) (hk:k≤20) (hts:t.size≤maxLen) (hbu:ux b) (ht:∀w,Below B W0 w→BG w) (hge:∀w,Below B W0 w→w.cell? ⟨5,0,none⟩=some ev) (hev:ev=.nilIface∨∃te pe,ev=.iface te pe):
  Calls Tryz.prog 26 #[.pointer (some ⟨G,0,none⟩),.string role,.string t,.int .i64 b] W fun e W'=>∃v ns2,e=.returned (.tuple #[v,.int .i64 er])∧W'.ownsRow W.heap.size 9 1 v l.length (strs l)∧ns2.map de=g'.ns.map de∧qah B G b1 b2 ns2 g'.es g'.last (k+1) W0 W'∧Fo W W':=by
 obtain⟨cs,vn,ve,m,hv,hok,hdi,h6,hm,hl,hbw,hB⟩:=h
 have hr:=Iz (role:=role) (text:=t) (budget:=b) hv hok (by unfold maxLen;omega) hB hts hbu (fun w hw=>ht w (hbw.trans hw)) (fun w hw=>hge w (hbw.trans hw)) hev
 have hro:=BE (pol:=[(fH,b1,SR),(fm,b2,SG)]) (role:=role) (text:=t) (b:=b) hok (by simp only;omega)
 have hdr:=p9 (b1:=b1) (b2:=b2) hdi role t b
 rw[hR] at hr hro hdr
 refine hr.mono ?_
 rintro e W' ⟨⟨v,rfl,hrow⟩,ns2,cs2,vn2,ve2,m2,hst2,hv2,hm2,hk2⟩
 refine⟨v,ns2,rfl,hrow,hst2,⟨cs2,vn2,ve2,m2+6,hv2.more (Nat.le_add_right _ _),qG.de (ns:=g'.ns) hro.1 hst2,qad.a8 (ns:=g'.ns) (l:=g'.last) hdr hst2,by omega,by omega,by have:=hro.2;simp only at this;omega,hbw.trans (hv.under hk2 hB),Nat.le_trans hB hk2.size⟩,fun Bx v n xs hrow=>hv.row hrow (by decide) (by decide) (by decide) hk2⟩
end
section
open Go.RowKit
theorem xi {W:World} {c:Int} (hc:ux c) (ht:BG W):
  Calls Tryz.prog 30 #[.int .i64 c] W fun e W'=>e=.returned (.string (b9 c))∧Below W.heap.size W W':=by
 have HX:=hid (Pure.LP c)
 have HC:=hid hc
 have HT:=hid ht
 obtain⟨hc1,hc2⟩:=hc
 have hs0:=ma (c:=c) (n:=6) (by omega)
 have hs1:=zb (c:=c) (n:=6) (by omega)
 have h7:pk c 6=0∨pk c 6=1∨pk c 6=2∨pk c 6=3∨pk c 6=4∨pk c 6=5:=by omega
 have HS:=hid h7
 clear ht hs0 hs1 h7
 unfold j4 at HX
 go_enter Tryz.func30,Tryz.ntmps30
 go_wp2_with fail
 refine(vI (Ex HC.out (by omega)) (by omega) (by omega)).mono ?_
 rintro e w1 ⟨rfl,hw1⟩
 obtain rfl:=hw1.symm
 have hd0:=ma (c:=c.tdiv 6) (n:=1099511627776) (by omega)
 have hd1:=zb (c:=c.tdiv 6) (n:=1099511627776) (by omega)
 generalize pk (c.tdiv 6) 1099511627776=d at hd0 hd1 HX⊢
 have HD:Hid (ux d∧ux (d / 3)∧ux (d / 9)∧ux (d / 63)):=hid ⟨⟨by omega,by omega⟩,⟨by omega,by omega⟩,⟨by omega,by omega⟩,⟨by omega,by omega⟩⟩
 go_wp2_with fail
 refine(BH HD.out.1).mono ?_
 rintro e W1 ⟨rfl,hb1⟩
 have HB1:=hid hb1
 have ha:=Pure.zt d
 generalize D6 d=a at ha HX⊢
 clear hb1
 go_wp2_with fail
 refine(BH HD.out.2.1).mono ?_
 rintro e W2 ⟨rfl,hb2⟩
 have HB2:=hid (HB1.out.trans (hb2.mono HB1.out.size))
 have hb:=Pure.zt (d / 3)
 generalize D6 (d / 3)=b at hb HX⊢
 clear hb2 HB1
 go_wp2_with fail
 refine(ze HD.out.2.2.1 (HT.out.below HB2.out)).mono ?_
 rintro e W3 ⟨rfl,hb3⟩
 have HB3:=hid (HB2.out.trans (hb3.mono HB2.out.size))
 have hn:=Pure.yL (d / 9)
 generalize dB (GP (d / 9))=n at hn HX⊢
 clear hb3 HB2
 go_wp2_with fail
 refine(vI HC.out (by omega) (by omega)).mono ?_
 rintro e w1 ⟨rfl,hw1⟩
 obtain rfl:=hw1.symm
 rcases HS.out with h|h|h|h|h|h
 all_goals
  rw[h] at HX⊢
  clear h
  go_wp2_with fail
 any_goals
  go_ret
  exact⟨by rw[HX.out];rfl,HB3.out⟩
 all_goals
  refine(ze HD.out.2.2.2 (HT.out.below HB3.out)).mono ?_
  rintro e W4 ⟨rfl,hb4⟩
  have HB4:=hid (HB3.out.trans (hb4.mono HB3.out.size))
  have hz:=Pure.yL (d / 63)
  generalize dB (GP (d / 63))=z at hz HX⊢
  clear hb4
  go_wp2_with fail
  go_ret
  exact⟨by rw[HX.out];rfl,HB4.out⟩
end
end Go.Proofs.YtobgbmfpicmpcaaGreatDoor
