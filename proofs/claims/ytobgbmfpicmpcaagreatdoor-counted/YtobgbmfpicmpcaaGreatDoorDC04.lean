/- Reads of the graph that made left. -/
import Derived.Test.YtobgbmfpicmpcaaGreatDoorC42
import Derived.Test.YtobgbmfpicmpcaaGreatDoorDC02
import Derived.Test.YtobgbmfpicmpcaaGreatDoorDC03
import Derived.Test.YtobgbmfpicmpcaaGreatDoorC38
import Derived.Test.YtobgbmfpicmpcaaGreatDoorC32
set_option maxRecDepth 100000
set_option maxHeartbeats 8000000
namespace Go.Proofs.YtobgbmfpicmpcaaGreatDoor
section
open Go.RowKit Go.Maps Go.Sort
theorem answer_len {ns:List aq} {es:List aJ} {q:au} {b:Int} (hb:0≤b∧b≤5000):(eK ns es q b).1.length≤10000:=by
 unfold eK
 split
 ·simp only
  rw[List.length_map]
  have h1:=gD ns es q.conds q.ai ⟨#[]⟩ ⟨b,jN,[]⟩ hb.1
  have h2:bH ns es q.conds q.ai ⟨#[]⟩ ⟨b,jN,[]⟩=aR ns es q b:=rfl
  rw[h2] at h1
  simp only[List.length_nil] at h1
  have h3:=Fc q.items ((aR ns es q b).rows.map (fi ns q.items))
  rw[List.length_map] at h3
  have h4:(gR q.order q.down (lJ q.items ((aR ns es q b).rows.map (fi ns q.items)))).length=(lJ q.items ((aR ns es q b).rows.map (fi ns q.items))).length:=by
   unfold gR
   rw[List.length_map,(fJ _ _).length_eq,List.length_map]
  unfold ix
  split
  ·rw[List.length_drop];omega
  ·rw[List.length_take,List.length_drop];omega
 ·simp
variable {B G b1 b2 k:Nat} {ns:List aq} {es:List aJ} {last:Int} {W0 W w:World}
theorem GS.later (h:GS B G b1 b2 ns es last k W0 W) (hb:Below W.heap.size W w):GS B G b1 b2 ns es last k W0 w:=by
 obtain⟨cs,vn,ve,ns',m,hv,hs,hok,h6,hm,hbw,hB⟩:=h
 exact⟨cs,vn,ve,ns',m,hv.later hb,hs,hok,h6,hm,hbw.trans (hb.mono hB),Nat.le_trans hB hb.size⟩
end
section
open Go.RowKit Go.Maps Go.Sort
def kaQ (c w s k:Int):au:={kmQ c w with kind:=1,items:=[iB 0,iK 1],skip:=s,bR:=k}
def knQ (c w:Int):au:={kmQ c w with kind:=1,items:=[⟨e0,e0⟩],bR:=-1}
def kpW (c w s k:Int):List ByteArray:=mu (kmQ c w)++bq::(bT oA true [iB 0,iK 1]++[jI,dB s,iN,dB k])
end
namespace Pure
theorem kmq_act {c w:Int} {q:au} (h1:q.kind=1) (h2:q.ai=kmS c) (h3:q.conds=kmC w):cJ q=mu (kmQ c w)++Ez q:=by
 unfold cJ nv
 rw[if_neg (by omega),if_neg (by omega),if_pos h1]
 unfold mu
 rw[h2,h3];rfl
theorem kmq_join (c w:Int) (l:List ByteArray):iy (mu (kmQ c w)++l)=iy (mu (kmQ c w))++ju l:=by
 unfold mu
 rw[List.cons_append,qR,qR,spaced_append,List.append_assoc]
theorem ka_text (c w:Int):(⟨(iy (cJ (kaQ c w 0 (-1)))).toArray⟩:ByteArray)=kmText c w++⟨#[32,82,69,84,85,82,78,32,97,32,44,32,98,32,46,32,107]⟩:=by
 apply KD
 unfold kmText
 rw[ba_mk,ba_app,ba_mk,kmq_act (c:=c) (w:=w) rfl rfl rfl,kmq_join]
 congr 1
 simp only[Ez,pL,oT,td,oS,bT,oA,xq,iB,iK,kaQ,e0e,eo kB_name,vB0,vB1,kmQ,aF]
 simp[nj,o5,bl_mk,bq,aK,eX,kB]
theorem kn_text (c w:Int):(⟨(iy (cJ (knQ c w))).toArray⟩:ByteArray)=kmText c w++⟨#[32,82,69,84,85,82,78,32,67,79,85,78,84]⟩:=by
 apply KD
 unfold kmText
 rw[ba_mk,ba_app,ba_mk,kmq_act (c:=c) (w:=w) rfl rfl rfl,kmq_join]
 congr 1
 simp only[Ez,pL,oT,td,oS,bT,oA,xq,knQ,e0e,kmQ,aF]
 simp[nj,o5,bl_mk,bq,ga]
theorem kp_text (c w s k:Int):(⟨(iy (kpW c w s k)).toArray⟩:ByteArray)=kmText c w++⟨#[32,82,69,84,85,82,78,32,97,32,44,32,98,32,46,32,107,32,83,75,73,80,32]⟩++dB s++⟨#[32,76,73,77,73,84,32]⟩++dB k:=by
 have hb:∀s:ByteArray,s.data.toList=bl s:=fun _=>rfl
 apply KD
 unfold kmText kpW
 rw[ba_mk,ba_app,ba_app,ba_app,ba_app,ba_mk,kmq_join]
 rw[List.append_assoc,List.append_assoc,List.append_assoc]
 congr 1
 simp only[bT,oA,xq,iB,iK,e0e,eo kB_name,vB0,vB1]
 simp[nj,o5,bl_mk,bq,aK,eX,kB,jI,iN,hb]
theorem ka_items:∀x∈[iB 0,iK 1],lO x:=by
 intro x hx
 simp only[List.mem_cons,List.not_mem_nil,or_false] at hx
 rcases hx with rfl|rfl
 ·exact iB_good _
 ·exact iK_good _
theorem ka_good (c w:Int):jk (kaQ c w 0 (-1)):=
 Or.inl ⟨km_match c w _ rfl rfl,ka_items,by simp[kaQ],by simp[kaQ],by simp[kaQ,kmQ,aF],by simp[kaQ,kmQ,aF],by simp[kaQ,kmQ,aF],by simp[kaQ],by simp[kaQ],Or.inl rfl,rfl⟩
theorem kn_good (c w:Int):jk (knQ c w):=by
 refine Or.inl ⟨km_match c w _ rfl rfl,?_,by simp[knQ],by simp[knQ],by simp[knQ,kmQ,aF],by simp[knQ,kmQ,aF],by simp[knQ,kmQ,aF],by simp[knQ,kmQ,aF],by simp[knQ,kmQ,aF],Or.inl rfl,rfl⟩
 intro x hx
 rw[List.mem_singleton.1 hx];exact count_good
theorem read_scope {c w:Int} {q:au} (hk:q.kind=1) (hs:q.ai=kmS c) (hc:q.conds=kmC w) (hn:q.name=e0) (ht:q.dest=e0) (hi:∀x∈q.items,x.name=e0∨∃j,x.name=vB j):eG q=true:=by
 unfold eG lM
 rw[hk,hs,hc,hn,ht]
 simp only[Bool.and_eq_true]
 refine⟨?_,by simp⟩
 rw[List.all_eq_true]
 have ok:∀n:ByteArray,(n=e0∨∃j,n=vB j)→(n.toList.isEmpty || fl (kmS c) n)=true:=by
  rintro n (rfl|⟨j,rfl⟩)
  ·rw[e0e];rfl
  ·rw[kmS_bound];simp
 intro n hmem
 simp only[List.mem_append,List.mem_flatMap,List.mem_map] at hmem
 rcases hmem with (⟨x,hx,hxn⟩|⟨x,hx,rfl⟩)|hmem
 ·unfold kmC at hx
  split at hx
  ·rw[List.mem_singleton.1 hx] at hxn
   obtain⟨h1,h2⟩:=kc_names (w.tdiv 3)
   simp only[List.mem_cons,List.not_mem_nil,or_false] at hxn
   rcases hxn with rfl|rfl
   ·exact ok _ (Or.inr h1)
   ·exact ok _ h2
  ·cases hx
 ·exact ok _ (hi x hx)
 ·rw[if_pos (by omega)] at hmem
  simp only[List.mem_cons,List.not_mem_nil,or_false,or_self] at hmem
  exact ok _ (Or.inl hmem)
theorem ka_scope (c w s k:Int):eG (kaQ c w s k)=true:=by
 refine read_scope (c:=c) (w:=w) rfl rfl rfl rfl rfl ?_
 intro x hx
 simp only[kaQ,List.mem_cons,List.not_mem_nil,or_false] at hx
 rcases hx with rfl|rfl
 ·exact Or.inr ⟨0,rfl⟩
 ·exact Or.inr ⟨1,rfl⟩
theorem kn_scope (c w:Int):eG (knQ c w)=true:=by
 refine read_scope (c:=c) (w:=w) rfl rfl rfl rfl rfl ?_
 intro x hx
 rw[List.mem_singleton.1 hx];exact Or.inl rfl
theorem match_any {q:au} (h:gK q) (r:List ByteArray):eF ⟨K (mu q++bq::r),false⟩=bS {aF with ai:=q.ai,conds:=q.conds} ⟨K (bq::r),false⟩:=by
 obtain⟨s,l,hs,h0⟩:=h.first
 have hsp:=h.ai
 have hsn:=h.qW
 rw[hs] at hsp hsn
 unfold mu
 rw[List.cons_append,cm,dE,dE,List.append_assoc]
 unfold eF
 rw[dG (v:=dz) (w:=eW) (lk (by simp[ah])),show ik dz eW=false by decide +kernel,dG (v:=dz) (w:=aM) (lk (by simp[ah])),show ik dz aM=false by decide +kernel]
 simp only[Bool.false_eq_true,if_false]
 rw[bJ (w:=dz) (lk (by simp[ah])),hs,yS hsp h0 hsn (iZ (zN (by decide +kernel) _) (jy (lk (by simp[ah])) (by decide +kernel)))]
 simp only
 rw[Fq h.conds h.qY (jy (lk (by simp[ah])) (by decide +kernel))]
theorem kp_query {c w s k:Int} (hs:0≤s∧s≤11) (hk:0≤k∧k≤11):eF ⟨K (kpW c w s k),false⟩=(kaQ c w s k,⟨[],false⟩):=by
 have hr:eA ⟨K (bT oA true [iB 0,iK 1]++[jI,dB s,iN,dB k]),false⟩=(⟨[iB 0,iK 1],0,false,s,k⟩,⟨[],false⟩):=by
  unfold eA
  rw[dE]
  have hi:=Gy (q:=kaQ c w s k) (r:=K [jI,dB s,iN,dB k]) ka_items (by simp[kaQ]) (by simp[kaQ]) (jy (lk (by simp[ah])) (by decide +kernel))
  rw[show (kaQ c w s k).items=[iB 0,iK 1] from rfl] at hi
  rw[hi]
  simp only
  have ho:gE (2:Nat) ⟨K [jI,dB s,iN,dB k],false⟩=((0,false),⟨K [jI,dB s,iN,dB k],false⟩):=by
   unfold gE
   rw[(jy (bad:=[eJ]) (lk (by simp[ah])) (by decide +kernel)) eJ (by simp),if_neg (by simp)]
  have h2:([iB 0,iK 1]:List bi).length=2:=rfl
  rw[h2,ho]
  simp only
  have h3:gz jI 0 ⟨K [jI,dB s,iN,dB k],false⟩=(s,⟨K [iN,dB k],false⟩):=by
   rw[cm,cm]
   unfold gz
   rw[cj (lk (by simp[ah])),if_pos rfl,bh (lk (by simp[ah])),o9 ⟨by omega,by omega⟩ hs.1 (by omega)]
  rw[h3]
  simp only
  have h4:gz iN (-1) ⟨K [iN,dB k],false⟩=(k,⟨[],false⟩):=by
   rw[cm,cm,fv]
   unfold gz
   rw[cj (lk (by simp[ah])),if_pos rfl,bh (lk (by simp[ah])),o9 ⟨by omega,by omega⟩ hk.1 (by omega)]
  rw[h4]
 unfold kpW
 rw[match_any (km_match c w (kmQ c w) rfl rfl),cm]
 unfold bS
 rw[cj (lk (by simp[ah])),if_pos rfl,bh (lk (by simp[ah])),hr]
 rfl
theorem kp_words {c w s k:Int} (hs:0≤s∧s≤11) (hk:0≤k∧k≤11):WL 160 (kpW c w s k):=by
 have h2:=lX (f:=oA) [iB 0,iK 1] true (fun b x hx=>Ho (ka_items x hx) b)
 have h4:WL 4 [jI,dB s,iN,dB k]:=aH (bp (lk (by simp[ah]))) (aH (nD ⟨by omega,by omega⟩) (aH (bp (lk (by simp[ah]))) (aH (nD ⟨by omega,by omega⟩) (cI 0))))
 unfold kpW
 exact dD (bV (pA (km_match c w (kmQ c w) rfl rfl)) (aH (bp (lk (by simp[ah]))) (bV h2 h4))) (by simp)
theorem kp_size {c w s k:Int} (hs:0≤s∧s≤11) (hk:0≤k∧k≤11):(⟨(iy (kpW c w s k)).toArray⟩:ByteArray).size≤2000:=by
 have hz:(⟨(iy (kpW c w s k)).toArray⟩:ByteArray).size=(iy (kpW c w s k)).length:=by simp[ByteArray.size]
 rw[hz]
 exact Bt (kp_words hs hk)
theorem kp_run {c w s k:Int} (hs:0≤s∧s≤11) (hk:0≤k∧k≤11):run ⟨(iy (kpW c w s k)).toArray⟩ 0=some (K (kpW c w s k)):=by
 have hw:=kp_words (c:=c) (w:=w) hs hk
 have e1:kpW c w s k=((kpW c w s k).map fun w=>(w,dr w)).map (·.1):=by rw[List.map_map];exact(List.map_id _).symm
 have hr:=AP (ps:=(kpW c w s k).map fun w=>(w,dr w)) (by
  intro p hp
  obtain⟨w,hw2,rfl⟩:=List.mem_map.1 hp
  exact(hw.1 w hw2).1)
 rw[←e1] at hr
 rw[hr]
 unfold K
 simp
end Pure
section
open Go.RowKit Go.Maps Go.Sort
theorem kp_parse {c w s k:Int} (hs:0≤s∧s≤11) (hk:0≤k∧k≤11):parseText (fg ⟨(iy (kpW c w s k)).toArray⟩)=(kaQ c w s k,0):=by
 have ht:fg ⟨(iy (kpW c w s k)).toArray⟩=some (Pure.K (kpW c w s k)):=by
  unfold fg
  rw[if_neg (by have:=Pure.kp_size (c:=c) (w:=w) hs hk;omega),Pure.kp_run hs hk]
 rw[mI ht]
 unfold fj
 simp only[Pure.kp_query hs hk,Pure.ka_scope]
 rfl
def kfF (ns:List aq) (es:List aJ) (c w b:Int):mA:=bH ns es (kmC w) (kmS c) ⟨#[]⟩ ⟨b,jN,[]⟩
def kaL (ns:List aq) (es:List aJ) (c w b:Int):List bK:=gR 0 false ((kfF ns es c w b).rows.map (fi ns [iB 0,iK 1]))
theorem kaL_len (ns:List aq) (es:List aJ) (c w b:Int):(kaL ns es c w b).length=(kfF ns es c w b).rows.length:=by
 unfold kaL gR
 rw[List.length_map,(fJ _ _).length_eq,List.length_map,List.length_map]
theorem ka_answer (ns:List aq) (es:List aJ) (c w s k b:Int):eK ns es (kaQ c w s k) b=if 0≤(kfF ns es c w b).left then ((ix s k (kaL ns es c w b)).map (gB 2),0) else ([],6):=by
 have h:∀ls,lJ [iB 0,iK 1] ls=ls:=fun ls=>by
  unfold lJ
  rw[if_neg (by simp[jl,iB,iK,Pure.vBe])]
 have e:eK ns es (kaQ c w s k) b=if 0≤(kfF ns es c w b).left then ((ix s k (gR 0 false (lJ [iB 0,iK 1] ((kfF ns es c w b).rows.map (fi ns [iB 0,iK 1]))))).map (gB 2),0) else ([],6):=rfl
 rw[e,h];rfl
theorem count_rep (l:bK):∀(n:Nat) (c:bK→Option Int) (m:Int),c l=some m→dC c (List.replicate n l) l=some (m+n)
 | 0,c,m,h=>by rw[List.replicate_zero];unfold dC;rw[List.foldl_nil,h];simp
 | n+1,c,m,h=>by
  have e:dC c (List.replicate (n+1) l)=dC (ow c l ((c l).getD 0+1)) (List.replicate n l):=rfl
  rw[e,count_rep l n _ (m+1) (by unfold ow;rw[if_pos rfl,h];rfl)]
  congr 1
  omega
theorem once_rep {α:Type} [DecidableEq α] (a:α):∀n:Nat,lZ (a::List.replicate n a)=[a]
 | 0=>by simp[lZ]
 | n+1=>by
  have h:lZ (a::List.replicate (n+1) a)=lZ (List.replicate (n+1) a):=by
   conv=>lhs;unfold lZ
   rw[if_pos (by simp)]
  rw[h,List.replicate_succ,once_rep a n]
theorem sorted_single {l:bK} (h:l.length=6) (o:Int) (d:Bool):gR o d [l]=[l]:=by
 unfold gR iW
 rw[List.map_cons,List.map_nil,List.mergeSort_singleton,List.map_cons,List.map_nil,sG h]
theorem kn_answer (ns:List aq) (es:List aJ) (c w b:Int):eK ns es (knQ c w) b=if 0≤(kfF ns es c w b).left then ([dB (kfF ns es c w b).rows.length],0) else ([],6):=by
 have hc:jl ⟨e0,e0⟩=true:=Pure.e0e
 have hl:∀f,fi ns [⟨e0,e0⟩] f=fc:=fun f=>by
  have h1:gW ns f ⟨e0,e0⟩=none:=by unfold gW;rw[if_pos hc]
  have h2:fi ns [⟨e0,e0⟩] f=[gW ns f ⟨e0,e0⟩,none,none,none,none,none]:=rfl
  rw[h2,h1];rfl
 have hm:∀rows:List Row,rows.map (fi ns [⟨e0,e0⟩])=List.replicate rows.length fc:=fun rows=>by
  rw[List.eq_replicate_iff]
  refine⟨by simp,fun x hx=>?_⟩
  obtain⟨f,_,rfl⟩:=List.mem_map.1 hx
  exact hl f
 have hn:([⟨e0,e0⟩]:List bi).any (fun x=>!(jl x))=false:=by simp[hc]
 have ht:∀n:Nat,lJ [⟨e0,e0⟩] (List.replicate n fc)=[ir [⟨e0,e0⟩] fc n]:=fun n=>by
  unfold lJ
  rw[if_pos (by simp[hc])]
  unfold tD
  rw[hn]
  simp only[Bool.false_eq_true,if_false,List.cons_append,List.nil_append]
  rw[once_rep,List.map_cons,List.map_nil,count_rep fc n _ 0 (by unfold dJ;rw[hn];simp[ow])]
  simp
 have e:eK ns es (knQ c w) b=if 0≤(kfF ns es c w b).left then ((ix 0 (-1) (gR 0 false (lJ [⟨e0,e0⟩] ((kfF ns es c w b).rows.map (fi ns [⟨e0,e0⟩]))))).map (gB 1),0) else ([],6):=rfl
 rw[e,hm,ht,sorted_single (by simp[ir])]
 generalize (kfF ns es c w b).rows.length=n
 have h3:ir [⟨e0,e0⟩] fc (n:Int)=[some (n:Int),none,none,none,none,none]:=by
  have h4:ir [⟨e0,e0⟩] fc (n:Int)=[if jl ⟨e0,e0⟩ then some (n:Int) else none,none,none,none,none,none]:=rfl
  rw[h4,hc];rfl
 rw[h3]
 have h5:gB 1 [some (n:Int),none,none,none,none,none]=dB n:=by
  unfold gB
  simp only[List.take_succ_cons,List.take_zero,List.map_cons,List.map_nil,my]
  apply Pure.KD
  simp[Lib.join]
 have h6:ix 0 (-1) [[some (n:Int),none,none,none,none,none]]=[[some (n:Int),none,none,none,none,none]]:=rfl
 rw[h6,List.map_cons,List.map_nil,h5]
end
end Go.Proofs.YtobgbmfpicmpcaaGreatDoor
