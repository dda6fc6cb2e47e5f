/- Words that were written are read: what stands behind a match, and whole queries. No program in this text. -/
import Derived.Test.YtobgbmfpicmpcaaGreatDoorC16
set_option maxRecDepth 100000
set_option maxHeartbeats 8000000
namespace Go.Proofs.YtobgbmfpicmpcaaGreatDoor
namespace Pure
theorem iZ {bad:List ByteArray} {a b:List Tok} (ha:fK bad a) (hb:fK bad b):fK bad (a++b):=by
 cases a with
 | nil=>exact hb
 | cons t r=>exact ha
theorem jy {bad:List ByteArray} {v:ByteArray} {w:List ByteArray} (h:v∈lits) (hb:(bad.all fun w=>!ik v w)=true):fK bad (K (v::w)):=by
 rw[cm];exact qu h hb _
theorem lk {w:ByteArray} (h:w∈ah):w∈lits:=List.mem_append.2 (Or.inl h)
theorem nC {bad:List ByteArray} (hb:(bad.all fun w=>!ik iN w)=true) (q:au):fK bad (K (oS q)):=by
 unfold oS
 split
 ·exact lG _
 ·exact jy (lk (by simp[ah])) hb
theorem sL {bad:List ByteArray} (hb:(bad.all fun w=>!ik jI w)=true) (q:au):fK bad (K (td q)):=by
 unfold td
 split
 ·exact lG _
 ·exact jy (lk (by simp[ah])) hb
theorem xv {bad:List ByteArray} (hb:(bad.all fun w=>!ik eJ w)=true) (q:au):fK bad (K (oT q)):=by
 unfold oT
 split
 ·exact lG _
 ·exact jy (lk (by simp[ah])) hb
theorem Fh {q:au} (h:q.bR=-1∨(0≤q.bR∧q.bR≤1000000000)):gz iN (-1) ⟨K (oS q),false⟩=(q.bR,⟨[],false⟩):=by
 unfold oS
 by_cases e:q.bR=-1
 ·rw[if_pos e,e];rfl
 ·have hr:0≤q.bR∧q.bR≤1000000000:=by rcases h with h|h;exact absurd h e;exact h
  rw[if_neg e,cm,cm,fv]
  unfold gz
  rw[cj (lk (by simp[ah])),if_pos rfl,bh (lk (by simp[ah])),o9 ⟨by omega,hr.2⟩ hr.1 hr.2]
theorem Iq {q:au} (h0:0≤q.skip) (h1:q.skip≤1000000000) {r:List Tok} (hr:fK [jI] r):gz jI 0 ⟨K (td q)++r,false⟩=(q.skip,⟨r,false⟩):=by
 unfold td
 by_cases e:q.skip=0
 ·rw[if_pos e,e,fv,List.nil_append]
  unfold gz
  rw[hr jI (by simp),if_neg (by simp)]
 ·rw[if_neg e,cm,cm,fv,List.cons_append,List.cons_append,List.nil_append]
  unfold gz
  rw[cj (lk (by simp[ah])),if_pos rfl,bh (lk (by simp[ah])),o9 ⟨by omega,h1⟩ h0 h1]
theorem EM {q:au} {n:Int} (h0:0≤q.order) (h1:q.order≤n) (hn:n≤6) (hd:q.order=0→q.down=false) {r:List Tok} (hr:fK [eJ,jF] r):gE n ⟨K (oT q)++r,false⟩=((q.order,q.down),⟨r,false⟩):=by
 unfold oT
 by_cases e:q.order=0
 ·rw[if_pos e,fv,List.nil_append]
  unfold gE
  rw[hr eJ (by simp),if_neg (by simp),hd e,e]
 ·rw[if_neg e,dE,List.append_assoc]
  simp only[cm,fv,List.cons_append,List.nil_append]
  unfold gE
  simp only[cj (w:=eJ) (lk (by simp[ah])),if_true,bh (w:=eJ) (lk (by simp[ah])),bJ (w:=IH) (lk (by simp[ah])),o9 (n:=q.order) (lo:=1) (hi:=n) ⟨by omega,by omega⟩ (by omega) h1]
  cases hq:q.down
  ·simp only[Bool.false_eq_true,if_false,fv,List.nil_append]
   rw[hr jF (by simp),vd (hr jF (by simp))]
  ·simp only[if_true,cm,fv,List.cons_append,List.nil_append]
   rw[cj (lk (by simp[ah])),bh (lk (by simp[ah]))]
theorem kP {α:Type} (sep:ByteArray) (g:α→List ByteArray) (f:Bool→α→List ByteArray) (hf:∀x,f false x=sep::g x):∀l:List α,bT f false l=l.flatMap fun x=>sep::g x
 | []=>rfl
 | x::r=>by rw[bT,hf,kP sep g f hf r,List.flatMap_cons]
theorem Gy {q:au} (hi:∀x∈q.items,lO x) (hn:q.items≠[]) (hl:q.items.length≤6) {r:List Tok} (hr:fK [eX,aK] r):eO fS aK 6 ⟨K (bT oA true q.items)++r,false⟩=(q.items,⟨r,false⟩):=by
 cases hq:q.items with
 | nil=>exact absurd hq hn
 | cons x l=>
  rw[hq] at hi hl
  have e:bT oA true (x::l)=xq x++l.flatMap fun x=>aK::xq x:=by
   rw[bT,kP aK xq oA (fun y=>rfl)];rfl
  rw[e]
  exact sF (bad:=[eX]) (by simp[lits]) (by decide +kernel) (fun y hy r hr=>Il (hi y hy) r hr) hl (fun w hw=>hr w (by simp at hw;simp[hw])) (hr aK (by simp))
theorem AJ {bad:List ByteArray} (h1:(bad.all fun w=>!ik eJ w)=true) (h2:(bad.all fun w=>!ik jI w)=true) (h3:(bad.all fun w=>!ik iN w)=true) (q:au):fK bad (K (pL q)):=by
 unfold pL
 rw[dE,dE]
 exact iZ (xv h1 q) (iZ (sL h2 q) (nC h3 q))
theorem Iy {q:au} (h:nO q):eA ⟨K (bT oA true q.items++pL q),false⟩=(⟨q.items,q.order,q.down,q.skip,q.bR⟩,⟨[],false⟩):=by
 obtain⟨hm,hi,hn,hl,h0,h1,hd,h2,h3,h4,_⟩:=h
 unfold eA
 rw[dE,Gy hi hn hl (AJ (by decide +kernel) (by decide +kernel) (by decide +kernel) q)]
 unfold pL
 simp only
 rw[dE,EM h0 h1 (by omega) hd (by rw[dE];exact iZ (sL (by decide +kernel) q) (nC (by decide +kernel) q))]
 simp only
 rw[dE,Iq h2 h3 (nC (by decide +kernel) q)]
 simp only
 rw[Fh h4]
theorem Fq {l:List bP} (hc:∀c∈l,mg c) (hl:l.length≤6) {r:List Tok} (hr:fK [ej,pP] r):dN ⟨K (bT oG true l)++r,false⟩=(l,⟨r,false⟩):=by
 cases l with
 | nil=>
  rw[bT,fv,List.nil_append]
  unfold dN
  rw[hr ej (by simp),if_neg (by simp)]
 | cons c l=>
  have e:bT oG true (c::l)=ej::((ig c.a++xN c)++l.flatMap fun x=>pP::(ig x.a++xN x)):=by
   rw[bT,kP pP (fun x=>ig x.a++xN x) oG (fun y=>rfl)];rfl
  rw[e,cm,List.cons_append]
  unfold dN
  rw[cj (lk (by simp[ah])),if_pos rfl,bh (lk (by simp[ah]))]
  exact sF (g:=fun x=>ig x.a++xN x) (bad:=[]) (lk (by simp[ah])) rfl (fun y hy r _=>Hr (hc y hy) r) hl (fun w hw=>by cases hw) (hr pP (by simp))
def BF (p:dR):List ByteArray:=[p.key,bX,dB p.val]
theorem Gw {l:List dR} (hp:∀p∈l,lV p) (hn:l≠[]) (hl:l.length≤6) {r:List Tok} (hr:fK [aK] r):eO fu aK 6 ⟨K (bT pq true l)++r,false⟩=(l,⟨r,false⟩):=by
 cases l with
 | nil=>exact absurd rfl hn
 | cons x l=>
  have e:bT pq true (x::l)=BF x++l.flatMap fun p=>aK::BF p:=by
   rw[bT,kP aK BF pq (fun y=>rfl)];rfl
  rw[e]
  exact sF (g:=BF) (bad:=[]) (by simp[lits]) rfl (fun y hy r _=>IA (hp y hy) r) hl (fun w hw=>by cases hw) (hr aK (by simp))
theorem Hu {q:au} (h:iS q):bG (ag aM ⟨K (po q),false⟩)=((q.label,q.ay),⟨[],false⟩):=by
 obtain⟨hl,hp,hn,ht,_⟩:=h
 unfold po
 simp only[List.cons_append,List.nil_append,cm]
 rw[bh (lk (by simp[ah]))]
 unfold bG
 simp only[bJ (w:=bE) (by simp[lits]),nR hl]
 cases hq:q.ay with
 | nil=>
  simp only[List.isEmpty_nil,if_true,List.nil_append,cm,fv]
  rw[dG (v:=bA) (w:=cP) (by simp[lits]),show ik bA cP=false by decide +kernel]
  simp only[Bool.false_eq_true,if_false]
  rw[show dK [] []=false from rfl]
  simp only[Bool.false_eq_true,if_false]
  rw[bJ (w:=bA) (by simp[lits])]
 | cons x l=>
  rw[hq] at hp hn ht
  simp only[List.isEmpty_cons,Bool.false_eq_true,if_false,List.cons_append,cm]
  rw[cj (w:=cP) (by simp[lits])]
  simp only[if_true]
  rw[bh (w:=cP) (by simp[lits]),dE,dE,List.append_assoc,Gw hp (by simp) hn (iZ (jy (by simp[lits]) (by decide +kernel)) (jy (by simp[lits]) (by decide +kernel)))]
  simp only[cm,fv,List.cons_append,List.nil_append,ht,Bool.false_eq_true,if_false]
  rw[bJ (w:=gG) (by simp[lits]),bJ (w:=bA) (by simp[lits])]
end Pure
namespace Pure
theorem uT {bad:List ByteArray} (h:([bq,fN,bI,aM].all fun v=>bad.all fun w=>!ik v w)=true) (q:au):fK bad (K (nv q)):=by
 have hv:∀v∈[bq,fN,bI,aM],(bad.all fun w=>!ik v w)=true:=List.all_eq_true.1 h
 unfold nv
 split
 ·exact jy (lk (by simp[ah])) (hv bq (by simp))
 ·split
  ·exact jy (lk (by simp[ah])) (hv fN (by simp))
  ·split
   ·exact jy (lk (by simp[ah])) (hv bI (by simp))
   ·split
    ·exact jy (lk (by simp[ah])) (hv aM (by simp))
    ·exact lG _
theorem zN {bad:List ByteArray} (h:(bad.all fun w=>!ik ej w)=true) (l:List bP):fK bad (K (bT oG true l)):=by
 cases l with
 | nil=>exact lG _
 | cons c l=>
  have e:bT oG true (c::l)=ej::((ig c.a++xN c)++bT oG false l):=rfl
  rw[e];exact jy (lk (by simp[ah])) h
theorem pz {q:au} (h:gK q) (h5:q.kind≠5) (h6:q.kind≠6):eF ⟨K (cJ q),false⟩=bS {aF with ai:=q.ai,conds:=q.conds} ⟨K (nv q),false⟩:=by
 have hw:cJ q=mu q++nv q:=by unfold cJ;rw[if_neg h6,if_neg h5]
 obtain⟨s,l,hs,h0⟩:=h.first
 have hsp:=h.ai
 have hsn:=h.qW
 rw[hs] at hsp hsn
 rw[hw]
 unfold mu
 rw[List.cons_append,cm,dE,dE,List.append_assoc]
 unfold eF
 rw[dG (v:=dz) (w:=eW) (lk (by simp[ah])),show ik dz eW=false by decide +kernel,dG (v:=dz) (w:=aM) (lk (by simp[ah])),show ik dz aM=false by decide +kernel]
 simp only[Bool.false_eq_true,if_false]
 rw[bJ (w:=dz) (lk (by simp[ah])),hs,yS hsp h0 hsn (iZ (zN (by decide +kernel) _) (uT (by decide +kernel) q))]
 simp only
 rw[Fq h.conds h.qY (uT (by decide +kernel) q)]
theorem xn {q:au} (h:jk q):eF ⟨K (cJ q),false⟩=(q,⟨[],false⟩):=by
 rcases h with h|h|h|h|h|h
 ·have hr:=Iy h
  obtain⟨hm,_,_,_,_,_,_,_,_,_,e⟩:=h
  have k1:q.kind=1:=by rw[e]
  rw[pz hm (by omega) (by omega)]
  have ha:nv q=bq::(bT oA true q.items++pL q):=by unfold nv Ez;rw[if_pos k1]
  rw[ha,cm]
  unfold bS
  rw[cj (lk (by simp[ah])),if_pos rfl,bh (lk (by simp[ah])),hr]
  rw[e];rfl
 ·obtain⟨hm,hn,hk,hv,e⟩:=h
  have k2:q.kind=2:=by rw[e]
  rw[pz hm (by omega) (by omega)]
  have ha:nv q=fN::([q.name,eX,q.key,tT]++ig q.value):=by unfold nv;rw[if_neg (by omega),if_pos k2];rfl
  rw[ha,cm,dE]
  unfold bS
  rw[dG (v:=fN) (w:=bq) (lk (by simp[ah])),show ik fN bq=false by decide +kernel,cj (w:=fN) (lk (by simp[ah])),bh (w:=fN) (lk (by simp[ah]))]
  simp only[Bool.false_eq_true,if_false,if_true]
  have hs:qg ⟨K [q.name,eX,q.key,tT]++K (ig q.value),false⟩=((q.name,q.key,q.value),⟨[],false⟩):=by
   have ht:=wG hv []
   rw[List.append_nil] at ht
   simp only[cm,fv,List.cons_append,List.nil_append]
   unfold qg
   simp only[BW hn hk,bJ (w:=tT) (by simp[lits]),ht]
  rw[hs]
  rw[e];rfl
 ·obtain⟨hm,hn,e⟩:=h
  have k3:q.kind=3:=by rw[e]
  rw[pz hm (by omega) (by omega)]
  have ha:nv q=[bI,q.name]:=by unfold nv;rw[if_neg (by omega),if_neg (by omega),if_pos k3]
  rw[ha,cm,cm,fv]
  unfold bS
  rw[dG (v:=bI) (w:=bq) (lk (by simp[ah])),show ik bI bq=false by decide +kernel,dG (v:=bI) (w:=fN) (lk (by simp[ah])),show ik bI fN=false by decide +kernel,cj (w:=bI) (lk (by simp[ah])),bh (w:=bI) (lk (by simp[ah]))]
  simp only[Bool.false_eq_true,if_false,if_true]
  rw[iu hn]
  rw[e];rfl
 ·obtain⟨hm,hn,ht,ho,e⟩:=h
  have k4:q.kind=4:=by rw[e]
  rw[pz hm (by omega) (by omega)]
  have ha:nv q=[aM,bE,q.name,bA,jG,q.type,da,bE,q.dest,bA]:=by unfold nv;rw[if_neg (by omega),if_neg (by omega),if_neg (by omega),if_pos k4]
  rw[ha,cm]
  unfold bS
  rw[dG (v:=aM) (w:=bq) (lk (by simp[ah])),show ik aM bq=false by decide +kernel,dG (v:=aM) (w:=fN) (lk (by simp[ah])),show ik aM fN=false by decide +kernel,dG (v:=aM) (w:=bI) (lk (by simp[ah])),show ik aM bI=false by decide +kernel,cj (w:=aM) (lk (by simp[ah])),bh (w:=aM) (lk (by simp[ah]))]
  simp only[Bool.false_eq_true,if_false,if_true]
  have hl:jh ⟨K [bE,q.name,bA,jG,q.type,da,bE,q.dest,bA],false⟩=((q.name,q.type,q.dest),⟨[],false⟩):=by
   simp only[cm,fv]
   unfold jh
   simp only[bJ (w:=bE) (by simp[lits]),iu hn,bJ (w:=bA) (by simp[lits]),bJ (w:=jG) (by simp[lits]),nR ht,bJ (w:=da) (by simp[lits]),iu ho]
  rw[hl]
  rw[e];rfl
 ·have hm:=Hu h
  obtain⟨_,_,_,_,e⟩:=h
  have k5:q.kind=5:=by rw[e]
  have hw:cJ q=po q:=by unfold cJ;rw[if_neg (by omega),if_pos k5]
  rw[hw]
  have hc:K (po q)=dr aM::K ([bE,q.label]++((if q.ay.isEmpty then [] else cP::(bT pq true q.ay++[gG]))++[bA])):=rfl
  have p1:aE eW ⟨K (po q),false⟩=false:=by rw[hc,dG (lk (by simp[ah]))];decide +kernel
  have p2:aE aM ⟨K (po q),false⟩=true:=by rw[hc,cj (lk (by simp[ah]))]
  unfold eF
  rw[p1,p2]
  simp only[Bool.false_eq_true,if_false,if_true]
  rw[hm]
  rw[e];rfl
 ·obtain⟨hn,e⟩:=h
  have k6:q.kind=6:=by rw[e]
  have hw:cJ q=[eW,q.name]:=by unfold cJ;rw[if_pos k6]
  rw[hw,cm,cm,fv]
  unfold eF
  rw[cj (w:=eW) (lk (by simp[ah])),bh (w:=eW) (lk (by simp[ah])),iu hn]
  rw[e];rfl
theorem uX {k:Int} {st:RS} (h:(dV k st).2.bad=false):eL (dV k st).1=k:=by
 unfold dV at h⊢
 split
 ·rename_i hs
  unfold gC at hs
  cases hr:st.rest with
  | nil=>rw[hr] at hs;cases hs
  | cons t r=>rw[hr] at hs;simpa using hs
 ·rename_i hs
  rw[if_neg hs] at h;cases h
theorem CY {t:Tok} (h:eL t=1):bN t.text=true:=by
 unfold eL at h
 split at h
 ·cases h
 ·split at h
  ·cases h
  ·split at h
   ·unfold kQ at h
    split at h
    ·assumption
    ·split at h<;>cases h
   ·cases h
theorem Br {t:Tok} (h:eL t=2):cD t.text=true:=by
 unfold eL at h
 split at h
 ·cases h
 ·split at h
  ·cases h
  ·split at h
   ·unfold kQ at h
    split at h
    ·cases h
    ·split at h
     ·assumption
     ·cases h
   ·cases h
theorem eS {st:RS} (h:(du st).2.bad=false):bN (du st).1=true:=CY (uX h)
theorem kj {st:RS} (h:(cN st).2.bad=false):cD (cN st).1=true:=Br (uX h)
theorem lQ {lo hi:Int} {st:RS} (h:(bL lo hi st).2.bad=false):lo≤(bL lo hi st).1∧(bL lo hi st).1≤hi:=by
 unfold bL at h⊢
 simp only at h⊢
 split at h
 ·cases h
 ·omega
theorem qE {x:aN} {st:RS} (h:(cg x st).2.bad=false) (hx:x.label=e0):bN (cg x st).1.name=true∧((cg x st).1.label=e0∨cD (cg x st).1.label=true)∧(cg x st).1.type=x.type∧(cg x st).1.least=x.least∧(cg x st).1.bf=x.bf:=by
 unfold cg at h⊢
 simp only at h⊢
 have h1:=bg aj h
 by_cases hp:aE bX (du (aD bE st)).2=true
 ·simp only[hp,if_true] at h1⊢
  exact⟨eS (bg aO (bg dX h1)),Or.inr (kj h1),trivial,trivial,trivial⟩
 ·simp only[hp,if_false,Bool.false_eq_true] at h1⊢
  exact⟨eS h1,Or.inl hx,trivial,trivial,trivial⟩
theorem Dx {st:RS} (h:(jR st).2.bad=false):0≤(jR st).1.1∧(jR st).1.1≤(jR st).1.2∧(jR st).1.2≤4:=by
 unfold jR at h⊢
 split
 ·rename_i hp
  rw[if_pos hp] at h
  simp only at h⊢
  have h2:=lQ h
  have h1:=lQ (bg aj (bg dw h))
  exact⟨h1.1,h2.1,h2.2⟩
 ·simp
theorem C0 {st:RS} (h:(gv st).2.bad=false):cD (gv st).1.type=true∧0≤(gv st).1.least∧(gv st).1.least≤(gv st).1.bf∧(gv st).1.bf≤4∧(gv st).1.label=e0:=by
 unfold gv at h⊢
 simp only at h⊢
 have h1:=bg aj h
 have h2:=Dx h1
 exact⟨kj (bg pW h1),h2.1,h2.2.1,h2.2.2,trivial⟩
theorem rL {st:RS} (h:(cg cq st).2.bad=false):fU (cg cq st).1:=by
 obtain⟨a,b,c,d,e⟩:=qE h rfl
 exact⟨a,b,Or.inl ⟨c,d,e⟩⟩
theorem Ge {st:RS} (h:(ov st).2.bad=false):fU (ov st).1:=by
 unfold ov at h⊢
 obtain⟨t,l0,l1,l2,l3⟩:=C0 (bg jx h)
 obtain⟨a,b,c,d,e⟩:=qE h l3
 exact⟨a,b,Or.inr ⟨by rw[c];exact t,by rw[d];exact l0,by rw[d,e];exact l1,by rw[e];exact l2⟩⟩
theorem sB (n:Nat):∀(out:List aN) (st:RS),(aT n out st).2.bad=false→(∀s∈out,fU s)→(∀s∈(aT n out st).1,fU s)∧∃t,(aT n out st).1=out++t:=by
 induction n with
 | zero=>intro out st _ h;exact⟨h,[],by simp[aT]⟩
 | succ n ih=>
  intro out st hb h
  unfold aT at hb⊢
  by_cases h1:aE aK st=true
  ·simp only[h1,if_true] at hb⊢
   have hg:(cg cq (ag aK st)).2.bad=false:=bg (fh n) hb
   obtain⟨a,t,e⟩:=ih _ _ hb (fun s hs=>by rcases List.mem_append.1 hs with hs|hs;exact h s hs;rw[List.mem_singleton.1 hs];exact rL hg)
   exact⟨a,_::t,by rw[e,List.append_assoc];rfl⟩
  ·by_cases h2:aE jG st=true
   ·simp only[h1,h2,if_true,if_false,Bool.false_eq_true] at hb⊢
    have hg:(ov (ag jG st)).2.bad=false:=bg (fh n) hb
    obtain⟨a,t,e⟩:=ih _ _ hb (fun s hs=>by rcases List.mem_append.1 hs with hs|hs;exact h s hs;rw[List.mem_singleton.1 hs];exact Ge hg)
    exact⟨a,_::t,by rw[e,List.append_assoc];rfl⟩
   ·simp only[h1,h2,if_false,Bool.false_eq_true] at hb⊢
    exact⟨h,[],by simp⟩
theorem Ai {st:RS} (h:(eE st).2.bad=false):(∀s∈(eE st).1,fU s)∧(∃s r,(eE st).1=s::r∧s.type=e0)∧(eE st).1.length≤6:=by
 unfold eE at h⊢
 simp only at h⊢
 split at h
 ·cases h
 ·have hg:(cg cq st).2.bad=false:=bg (fh _) h
  obtain⟨a,t,e⟩:=sB _ _ _ h (fun s hs=>by rw[List.mem_singleton.1 hs];exact rL hg)
  refine⟨a,⟨(cg cq st).1,t,by rw[e];rfl,(qE hg rfl).2.2.1⟩,by omega⟩
theorem ug {α:Type} {one:RS→α × RS} {sep:ByteArray} {P:α→Prop} (ho:∀{st:RS},st.bad=true→(one st).2.bad=true) (hp:∀{st:RS},(one st).2.bad=false→P (one st).1) (n:Nat):∀(out:List α) (st:RS),(bz one sep n out st).2.bad=false→(∀x∈out,P x)→(∀x∈(bz one sep n out st).1,P x)∧∃t,(bz one sep n out st).1=out++t:=by
 induction n with
 | zero=>intro out st _ h;exact⟨h,[],by simp[bz]⟩
 | succ n ih=>
  intro out st hb h
  unfold bz at hb⊢
  by_cases h1:aE sep st=true
  ·simp only[h1,if_true] at hb⊢
   have hg:(one (ag sep st)).2.bad=false:=bg (jV ho n) hb
   obtain⟨a,t,e⟩:=ih _ _ hb (fun s hs=>by rcases List.mem_append.1 hs with hs|hs;exact h s hs;rw[List.mem_singleton.1 hs];exact hp hg)
   exact⟨a,_::t,by rw[e,List.append_assoc];rfl⟩
  ·simp only[h1,if_false,Bool.false_eq_true] at hb⊢
   exact⟨h,[],by simp⟩
theorem qf {α:Type} {one:RS→α × RS} {sep:ByteArray} {P:α→Prop} {bf:Nat} (ho:∀{st:RS},st.bad=true→(one st).2.bad=true) (hp:∀{st:RS},(one st).2.bad=false→P (one st).1) {st:RS} (h:(eO one sep bf st).2.bad=false):(∀x∈(eO one sep bf st).1,P x)∧(eO one sep bf st).1≠[]∧(eO one sep bf st).1.length≤bf:=by
 unfold eO at h⊢
 simp only at h⊢
 split at h
 ·cases h
 ·have hg:(one st).2.bad=false:=bg (jV ho _) h
  obtain⟨a,t,e⟩:=ug ho hp _ _ _ h (fun s hs=>by rw[List.mem_singleton.1 hs];exact hp hg)
  refine⟨a,by rw[e];simp,by omega⟩
theorem uY {st:RS} (h:(iE st).2.bad=false):bN (iE st).1.1=true∧bN (iE st).1.2=true:=by
 unfold iE at h⊢
 simp only at h⊢
 exact⟨eS (bg aj (bg bC h)),eS h⟩
theorem nZ {st:RS} (h:(dM st).2.bad=false):je (dM st).1:=by
 unfold dM at h⊢
 split
 ·rename_i hp
  rw[if_pos hp] at h
  simp only at h⊢
  have:=lQ h
  exact Or.inl ⟨rfl,rfl,this⟩
 ·rename_i hp
  rw[if_neg hp] at h
  simp only at h⊢
  have:=uY h
  exact Or.inr ⟨this.1,this.2,rfl⟩
theorem pS:∀(l:List ByteArray) (i:Int) (st:RS),(dt l i st).2.bad=false→1≤i→1≤(dt l i st).1∧(dt l i st).1<i+l.length
 | [],i,st,h,_=>by cases h
 | m::r,i,st,h,hi=>by
  unfold dt at h⊢
  split
  ·simp;omega
  ·rename_i hp
   rw[if_neg hp] at h
   have:=pS r (i+1) st h (by omega)
   simp only[List.length_cons]
   omega
theorem Dn {st:RS} (h:(fR st).2.bad=false):mg (fR st).1:=by
 unfold fR at h⊢
 simp only at h⊢
 by_cases hp:aE ng (dM st).2=true
 ·simp only[hp,if_true] at h⊢
  have ha:=nZ (bg aO (bg aO (bg aj h)))
  refine⟨?_,ha,Or.inr ⟨?_,rfl⟩⟩
  ·simp only;split<;>omega
  ·simp only;split<;>omega
 ·simp only[hp,if_false,Bool.false_eq_true] at h⊢
  have hb:=nZ h
  have ho:=bg fZ h
  have hr:=pS mY 1 _ ho (by omega)
  have hl:mY.length=6:=rfl
  rw[hl] at hr
  have ha:=nZ (bg nI ho)
  exact⟨⟨hr.1,by simp only;omega⟩,ha,Or.inl ⟨by simp only;omega,hb⟩⟩
theorem DC {st:RS} (h:(fS st).2.bad=false):lO (fS st).1:=by
 unfold fS at h⊢
 by_cases hp:aE ga st=true
 ·simp only[hp,if_true] at h⊢
  exact Or.inl ⟨rfl,rfl⟩
 ·simp only[hp,if_false,Bool.false_eq_true] at h⊢
  by_cases hd:aE eX (du st).2=true
  ·simp only[hd,if_true] at h⊢
   exact Or.inr ⟨eS (bg aO (bg bC h)),Or.inr (eS h)⟩
  ·simp only[hd,if_false,Bool.false_eq_true] at h⊢
   exact Or.inr ⟨eS h,Or.inl rfl⟩
theorem Dp {st:RS} (h:(fu st).2.bad=false):lV (fu st).1:=by
 unfold fu at h⊢
 simp only at h⊢
 exact⟨eS (bg aj (bg dw h)),lQ h⟩
end Pure
namespace Pure
theorem zV {k:Int} {st:RS} (h:(gE k st).2.bad=false) (hk:0≤k):0≤(gE k st).1.1∧(gE k st).1.1≤k∧((gE k st).1.1=0→(gE k st).1.2=false):=by
 unfold gE at h⊢
 by_cases hp:aE eJ st=true
 ·simp only[hp,if_true] at h⊢
  have:=lQ (bg aO h)
  refine⟨by omega,this.2,fun e=>by omega⟩
 ·simp only[hp,if_false,Bool.false_eq_true] at h⊢
  exact⟨by omega,hk,fun _=>trivial⟩
theorem uV {w:ByteArray} {d:Int} {st:RS} (h:(gz w d st).2.bad=false):(gz w d st).1=d∨(0≤(gz w d st).1∧(gz w d st).1≤1000000000):=by
 unfold gz at h⊢
 by_cases hp:aE w st=true
 ·simp only[hp,if_true] at h⊢
  exact Or.inr (lQ h)
 ·simp only[hp,if_false,Bool.false_eq_true] at h⊢
  exact Or.inl trivial
theorem um {st:RS} (h:(bG st).2.bad=false):cD (bG st).1.1=true∧(∀p∈(bG st).1.2,lV p)∧(bG st).1.2.length≤6∧dK [] (bG st).1.2=false:=by
 have ht:(cN (aD bE st)).2.bad=false:=bg k8 h
 unfold bG at h⊢
 simp only at h⊢
 by_cases hp:aE cP (cN (aD bE st)).2=true
 ·simp only[hp,if_true] at h⊢
  split at h
  ·cases h
  ·rename_i htw
   have h1:=bg aj (bg aj h)
   obtain⟨a,_,c⟩:=qf qd Dp h1
   exact⟨kj ht,a,c,by simpa using htw⟩
 ·simp only[hp,if_false,Bool.false_eq_true] at h⊢
  exact⟨kj ht,(fun p hp=>(by cases hp)),by simp,rfl⟩
theorem zL {st:RS} (h:(dN st).2.bad=false):(∀c∈(dN st).1,mg c)∧(dN st).1.length≤6:=by
 unfold dN at h⊢
 by_cases hp:aE ej st=true
 ·simp only[hp,if_true] at h⊢
  obtain⟨a,_,c⟩:=qf qe Dn h
  exact⟨a,c⟩
 ·simp only[hp,if_false,Bool.false_eq_true] at h⊢
  exact⟨(fun c hc=>(by cases hc)),by simp⟩
theorem DT {st:RS} (h:(jh st).2.bad=false):bN (jh st).1.1=true∧cD (jh st).1.2.1=true∧bN (jh st).1.2.2=true:=by
 unfold jh at h⊢
 simp only at h⊢
 have h1:=bg aj h
 have h2:=bg aj (bg aj (bg bC h1))
 have h3:=bg aj (bg aj (bg dX h2))
 exact⟨eS h3,kj h2,eS h1⟩
theorem Gr {st:RS} (h:(qg st).2.bad=false):bN (qg st).1.1=true∧bN (qg st).1.2.1=true∧je (qg st).1.2.2:=by
 unfold qg at h⊢
 simp only at h⊢
 have h1:=uY (bg aj (bg fZ h))
 exact⟨h1.1,h1.2,nZ h⟩
theorem DD {st:RS} (h:(eA st).2.bad=false):(∀x∈(eA st).1.items,lO x)∧(eA st).1.items≠[]∧(eA st).1.items.length≤6∧0≤(eA st).1.order∧(eA st).1.order≤(eA st).1.items.length∧((eA st).1.order=0→(eA st).1.down=false)∧0≤(eA st).1.skip∧(eA st).1.skip≤1000000000∧((eA st).1.bR=-1∨(0≤(eA st).1.bR∧(eA st).1.bR≤1000000000)):=by
 unfold eA at h⊢
 simp only at h⊢
 have h1:=bg gN h
 have h2:=bg gN h1
 have h3:=bg pj h2
 obtain⟨a,b,c⟩:=qf qH DC h3
 obtain⟨o1,o2,o3⟩:=zV h2 (by omega)
 have hs:=uV h1
 have hl:=uV h
 refine⟨a,b,c,o1,o2,o3,by omega,by omega,hl⟩
theorem yB {q:au} {st:RS} (h:(bS q st).2.bad=false) (hm:gK q) (hq:q={aF with ai:=q.ai,conds:=q.conds}):jk (bS q st).1:=by
 have mk:∀q':au,q'.ai=q.ai→q'.conds=q.conds→gK q':=fun q' e1 e2=>⟨by rw[e1];exact hm.ai,by rw[e1];exact hm.first,by rw[e1];exact hm.qW,by rw[e2];exact hm.conds,by rw[e2];exact hm.qY⟩
 unfold bS at h⊢
 by_cases h1:aE bq st=true
 ·simp only[h1,if_true] at h⊢
  obtain⟨a,b,c,d,e,f,g,i,j⟩:=DD h
  refine Or.inl ⟨mk _ rfl rfl,a,b,c,d,e,f,g,i,j,?_⟩
  rw[hq];rfl
 ·by_cases h2:aE fN st=true
  ·simp only[h1,h2,if_true,if_false,Bool.false_eq_true] at h⊢
   obtain⟨a,b,c⟩:=Gr h
   refine Or.inr (Or.inl ⟨mk _ rfl rfl,a,b,c,?_⟩)
   rw[hq];rfl
  ·by_cases h3:aE bI st=true
   ·simp only[h1,h2,h3,if_true,if_false,Bool.false_eq_true] at h⊢
    refine Or.inr (Or.inr (Or.inl ⟨mk _ rfl rfl,eS h,?_⟩))
    rw[hq];rfl
   ·by_cases h4:aE aM st=true
    ·simp only[h1,h2,h3,h4,if_true,if_false,Bool.false_eq_true] at h⊢
     obtain⟨a,b,c⟩:=DT h
     refine Or.inr (Or.inr (Or.inr (Or.inl ⟨mk _ rfl rfl,a,b,c,?_⟩)))
     rw[hq];rfl
    ·simp only[h1,h2,h3,h4,if_false,Bool.false_eq_true] at h
     cases h
theorem mK {st:RS} (h:(eF st).2.bad=false):jk (eF st).1:=by
 unfold eF at h⊢
 by_cases h1:aE eW st=true
 ·simp only[h1,if_true] at h⊢
  exact Or.inr (Or.inr (Or.inr (Or.inr (Or.inr ⟨eS h,rfl⟩))))
 ·by_cases h2:aE aM st=true
  ·simp only[h1,h2,if_true,if_false,Bool.false_eq_true] at h⊢
   obtain⟨a,b,c,d⟩:=um h
   exact Or.inr (Or.inr (Or.inr (Or.inr (Or.inl ⟨a,b,c,d,rfl⟩))))
  ·simp only[h1,h2,if_false,Bool.false_eq_true] at h⊢
   have ha:=bg qZ h
   have hs:=bg mH ha
   obtain⟨a,b,c⟩:=Ai hs
   obtain⟨d,e⟩:=zL ha
   exact yB h ⟨a,b,c,d,e⟩ rfl
def Wd (w:ByteArray):Prop:=ja w (dr w)∧w.size≤11
theorem Ee {w:ByteArray} {t:Tok} (h:ja w t) (hs:w.size≤11):Wd w:=⟨by rw[nu h];exact h,hs⟩
theorem zX:lits.all (fun w=>decide (w.size≤11))=true:=by decide +kernel
theorem bp {w:ByteArray} (h:w∈lits):Wd w:=by
 obtain⟨k,hk⟩:=Gx h
 exact Ee hk (by simpa using List.all_eq_true.1 zX w h)
theorem Cm {w:ByteArray} (h:isWord w=true):Wd w:=Ee (rG h) (by have:=(jX h).2.1;omega)
theorem fM {w:ByteArray} (h:bN w=true):Wd w:=Cm (j6 h).1
theorem kE {w:ByteArray} (h:cD w=true):Wd w:=Cm (mN h).1
theorem vU:∀(k u:Nat),u<10 ^ (k+1)→(Lib.decDigits u).length≤k+1
 | 0,u,h=>by rw[Lib.decDigits_one (by omega)];simp
 | k+1,u,h=>by
  by_cases hu:u<10
  ·rw[Lib.decDigits_one hu];simp
  ·rw[Cc hu,List.length_append]
   have:u / 10<10 ^ (k+1):=by rw[Nat.pow_succ] at h;omega
   have:=vU k (u / 10) this
   simp only[List.length_singleton];omega
theorem nD {n:Int} (h:oD n):Wd (dB n):=by
 refine Ee (vC h.1 h.2) ?_
 have hz:(dB n).size=(Lib.itoa n).length:=by rw[←aZ];simp[dB]
 rw[hz]
 have hd:(Lib.decDigits n.natAbs).length≤10:=vU 9 _ (by have:=h.1;have:=h.2;omega)
 have hd2:(Lib.decDigits n.toNat).length≤10:=vU 9 _ (by have:=h.1;have:=h.2;omega)
 unfold Lib.itoa
 split<;>simp<;>omega
def WL (n:Nat) (l:List ByteArray):Prop:=(∀w∈l,Wd w)∧l.length≤n
theorem cI (n:Nat):WL n []:=⟨(fun w hw=>(by cases hw)),Nat.zero_le _⟩
theorem aH {n:Nat} {w:ByteArray} {l:List ByteArray} (h:Wd w) (hl:WL n l):WL (n+1) (w::l):=
 ⟨fun x hx=>by rcases List.mem_cons.1 hx with rfl|hx;exact h;exact hl.1 x hx,by have:=hl.2;simp only[List.length_cons];omega⟩
theorem bV {n m:Nat} {a b:List ByteArray} (ha:WL n a) (hb:WL m b):WL (n+m) (a++b):=
 ⟨fun x hx=>by rcases List.mem_append.1 hx with hx|hx;exact ha.1 x hx;exact hb.1 x hx,by have:=ha.2;have:=hb.2;rw[List.length_append];omega⟩
theorem dD {n m:Nat} {a:List ByteArray} (h:WL n a) (hn:n≤m):WL m a:=⟨h.1,Nat.le_trans h.2 hn⟩
theorem lX {α:Type} {f:Bool→α→List ByteArray} {n:Nat}:∀(l:List α) (b:Bool),(∀b,∀x∈l,WL n (f b x))→WL (l.length*n) (bT f b l)
 | [],b,_=>cI _
 | x::l,b,h=>by
  rw[bT]
  have h1:=h b x (by simp)
  have h2:=lX l false (fun b y hy=>h b y (by simp[hy]))
  refine dD (bV h1 h2) ?_
  rw[List.length_cons,Nat.succ_mul];omega
theorem wK {t:gj} (h:je t):WL 3 (ig t):=by
 unfold ig
 rcases h with ⟨h1,h2,h3⟩|⟨h1,h2,h3⟩
 ·rw[h1,dY,if_pos rfl];exact dD (aH (nD h3) (cI 0)) (by omega)
 ·rw[eo h1,if_neg (by simp)]
  exact aH (fM h1) (aH (bp (by simp[lits])) (aH (fM h2) (cI 0)))
theorem wU {s:aN} (h:fU s):WL 5 (mU s):=by
 unfold mU
 rcases h.wy with hl|hl
 ·rw[hl,dY,if_pos rfl]
  exact dD (aH (bp (by simp[lits])) (aH (fM h.IM) (aH (bp (by simp[lits])) (cI 0)))) (by omega)
 ·rw[kq hl,if_neg (by simp)]
  exact aH (bp (by simp[lits])) (aH (fM h.IM) (aH (bp (by simp[lits])) (aH (kE hl) (aH (bp (by simp[lits])) (cI 0)))))
theorem IX {s:aN} (t0:cD s.type=true) (t1:0≤s.least) (t2:s.least≤s.bf) (t3:s.bf≤4):WL 7 (pO s):=by
 unfold pO
 split
 ·exact dD (aH (bp (by simp[lits])) (aH (kE t0) (aH (bp (by simp[lits])) (cI 0)))) (by omega)
 ·exact aH (bp (by simp[lits])) (aH (kE t0) (aH (bp (by simp[lits])) (aH (nD (oa t1 (by omega))) (aH (bp (by simp[lits])) (aH (nD (oa (by omega) t3)) (aH (bp (by simp[lits])) (cI 0)))))))
theorem Ic {s:aN} (h:fU s) (b:Bool):WL 12 (iV b s):=by
 rcases h.KX with ⟨t0,t1,t2⟩|⟨t0,t1,t2,t3⟩
 ·unfold iV
  rw[t0,dY,if_pos rfl]
  cases b
  ·exact dD (bV (aH (bp (by simp[lits])) (cI 0)) (wU h)) (by omega)
  ·exact dD (bV (cI 0) (wU h)) (by omega)
 ·rw[sf t0]
  exact bV (IX t0 t1 t2 t3) (wU h)
theorem Hz {c:bP} (h:mg c) (b:Bool):WL 8 (oG b c):=by
 have hk:Wd (if b then ej else pP):=by cases b<;>exact bp (lk (by simp[ah]))
 have ho:WL 4 (xN c):=by
  rcases h.KZ with ⟨h6,hb⟩|⟨h7,_⟩
  ·have hw:xN c=lR c.op::ig c.b:=by unfold xN;rw[if_neg (by omega),if_neg (by omega)]
   rw[hw];exact aH (bp (uI ⟨h.ops.1,h6⟩).1) (wK hb)
  ·unfold xN
   split
   ·exact dD (aH (bp (lk (by simp[ah]))) (aH (bp (lk (by simp[ah]))) (cI 0))) (by omega)
   ·rw[if_pos (by have:=h.ops;omega)]
    exact dD (aH (bp (lk (by simp[ah]))) (aH (bp (lk (by simp[ah]))) (aH (bp (lk (by simp[ah]))) (cI 0)))) (by omega)
 unfold oG
 exact aH hk (bV (wK h.K4) ho)
theorem Ho {x:bi} (h:lO x) (b:Bool):WL 4 (oA b x):=by
 have ho:WL 3 (xq x):=by
  unfold xq
  rcases h with ⟨h1,h2⟩|⟨h1,h2|h2⟩
  ·rw[h1,dY,if_pos rfl];exact dD (aH (bp (lk (by simp[ah]))) (cI 0)) (by omega)
  ·rw[eo h1,h2,dY,if_neg (by simp),if_pos rfl];exact dD (aH (fM h1) (cI 0)) (by omega)
  ·rw[eo h1,eo h2,if_neg (by simp),if_neg (by simp)]
   exact aH (fM h1) (aH (bp (by simp[lits])) (aH (fM h2) (cI 0)))
 unfold oA
 cases b
 ·exact dD (bV (aH (bp (by simp[lits])) (cI 0)) ho) (by omega)
 ·exact dD (bV (cI 0) ho) (by omega)
theorem GY {p:dR} (h:lV p) (b:Bool):WL 4 (pq b p):=by
 have ho:WL 3 [p.key,bX,dB p.val]:=aH (fM h.1) (aH (bp (by simp[lits])) (aH (nD h.2) (cI 0)))
 unfold pq
 cases b
 ·exact dD (bV (aH (bp (by simp[lits])) (cI 0)) ho) (by omega)
 ·exact dD (bV (cI 0) ho) (by omega)
theorem pA {q:au} (h:gK q):WL 121 (mu q):=by
 unfold mu
 have h1:=lX (f:=iV) q.ai true (fun b x hx=>Ic (h.ai x hx) b)
 have h2:=lX (f:=oG) q.conds true (fun b x hx=>Hz (h.conds x hx) b)
 have:=h.qW
 have:=h.qY
 exact dD (aH (bp (lk (by simp[ah]))) (bV h1 h2)) (by omega)
theorem IY {q:au} (h:nO q):WL 8 (pL q):=by
 obtain⟨hm,hi,hn,hl,h0,h1,hd,h2,h3,h4,_⟩:=h
 have ho:WL 4 (oT q):=by
  unfold oT
  split
  ·exact cI _
  ·have hdn:WL 1 (if q.down then [jF] else []):=by
    split
    ·exact aH (bp (lk (by simp[ah]))) (cI 0)
    ·exact cI _
   exact bV (aH (bp (lk (by simp[ah]))) (aH (bp (lk (by simp[ah]))) (aH (nD ⟨by omega,by omega⟩) (cI 0)))) hdn
 have hs:WL 2 (td q):=by
  unfold td
  split
  ·exact cI _
  ·exact aH (bp (lk (by simp[ah]))) (aH (nD ⟨by omega,by omega⟩) (cI 0))
 have hm:WL 2 (oS q):=by
  unfold oS
  split
  ·exact cI _
  ·exact aH (bp (lk (by simp[ah]))) (aH (nD ⟨by omega,by omega⟩) (cI 0))
 unfold pL
 exact bV ho (bV hs hm)
theorem yZ {q:au} (h:jk q):WL 160 (cJ q):=by
 rcases h with h|h|h|h|h|h
 ·have hp:=IY h
  obtain⟨hm,hi,_,hl,_,_,_,_,_,_,e⟩:=h
  have k1:q.kind=1:=by rw[e]
  have hw:cJ q=mu q++(bq::(bT oA true q.items++pL q)):=by unfold cJ nv Ez;rw[if_neg (by omega),if_neg (by omega),if_pos k1]
  rw[hw]
  have h2:=lX (f:=oA) q.items true (fun b x hx=>Ho (hi x hx) b)
  exact dD (bV (pA hm) (aH (bp (lk (by simp[ah]))) (bV h2 hp))) (by omega)
 ·obtain⟨hm,hn,hk,hv,e⟩:=h
  have k2:q.kind=2:=by rw[e]
  have hw:cJ q=mu q++([fN,q.name,eX,q.key,tT]++ig q.value):=by unfold cJ nv;rw[if_neg (by omega),if_neg (by omega),if_neg (by omega),if_pos k2]
  rw[hw]
  exact dD (bV (pA hm) (bV (aH (bp (lk (by simp[ah]))) (aH (fM hn) (aH (bp (by simp[lits])) (aH (fM hk) (aH (bp (by simp[lits])) (cI 0)))))) (wK hv))) (by omega)
 ·obtain⟨hm,hn,e⟩:=h
  have k3:q.kind=3:=by rw[e]
  have hw:cJ q=mu q++[bI,q.name]:=by unfold cJ nv;rw[if_neg (by omega),if_neg (by omega),if_neg (by omega),if_neg (by omega),if_pos k3]
  rw[hw]
  exact dD (bV (pA hm) (aH (bp (lk (by simp[ah]))) (aH (fM hn) (cI 0)))) (by omega)
 ·obtain⟨hm,hn,ht,ho,e⟩:=h
  have k4:q.kind=4:=by rw[e]
  have hw:cJ q=mu q++[aM,bE,q.name,bA,jG,q.type,da,bE,q.dest,bA]:=by unfold cJ nv;rw[if_neg (by omega),if_neg (by omega),if_neg (by omega),if_neg (by omega),if_neg (by omega),if_pos k4]
  rw[hw]
  exact dD (bV (pA hm) (aH (bp (lk (by simp[ah]))) (aH (bp (by simp[lits])) (aH (fM hn) (aH (bp (by simp[lits])) (aH (bp (by simp[lits])) (aH (kE ht) (aH (bp (by simp[lits])) (aH (bp (by simp[lits])) (aH (fM ho) (aH (bp (by simp[lits])) (cI 0)))))))))))) (by omega)
 ·obtain⟨hl,hp,hn,ht,e⟩:=h
  have k5:q.kind=5:=by rw[e]
  have hw:cJ q=po q:=by unfold cJ;rw[if_neg (by omega),if_pos k5]
  rw[hw]
  unfold po
  have h2:=lX (f:=pq) q.ay true (fun b x hx=>GY (hp x hx) b)
  have hb:WL 26 (if q.ay.isEmpty then [] else cP::(bT pq true q.ay++[gG])):=by
   split
   ·exact cI _
   ·exact dD (aH (bp (by simp[lits])) (bV h2 (aH (bp (by simp[lits])) (cI 0)))) (by omega)
  exact dD (bV (aH (bp (lk (by simp[ah]))) (aH (bp (by simp[lits])) (aH (kE hl) (cI 0)))) (bV hb (aH (bp (by simp[lits])) (cI 0)))) (by omega)
 ·obtain⟨hn,e⟩:=h
  have k6:q.kind=6:=by rw[e]
  have hw:cJ q=[eW,q.name]:=by unfold cJ;rw[if_pos k6]
  rw[hw]
  exact dD (aH (bp (lk (by simp[ah]))) (aH (fM hn) (cI 0))) (by omega)
theorem tm:∀l:List ByteArray,(∀w∈l,Wd w)→(ju l).length≤l.length*12
 | [],_=>by simp[o5]
 | w::r,h=>by
  rw[nj]
  have h1:=(h w (by simp)).2
  have h2:=tm r (fun x hx=>h x (by simp[hx]))
  have hb:(bl w).length=w.size:=aZ w
  simp only[List.length_cons,List.length_append,hb]
  omega
theorem Bt {l:List ByteArray} (h:WL 160 l):(iy l).length≤2000:=by
 cases l with
 | nil=>simp[iy,Lib.join]
 | cons w r=>
  rw[qR]
  have h1:=(h.1 w (by simp)).2
  have h2:=tm r (fun x hx=>h.1 x (by simp[hx]))
  have h3:=h.2
  have hb:(bl w).length=w.size:=aZ w
  simp only[List.length_cons,List.length_append,hb] at h3⊢
  omega
theorem wb {q:au} (h:jk q):(⟨(iy (cJ q)).toArray⟩:ByteArray).size≤2000:=by
 have hz:(⟨(iy (cJ q)).toArray⟩:ByteArray).size=(iy (cJ q)).length:=by simp[ByteArray.size]
 rw[hz]
 exact Bt (yZ h)
theorem xW {q:au} (h:jk q):run ⟨(iy (cJ q)).toArray⟩ 0=some (K (cJ q)):=by
 have hw:=yZ h
 have e1:cJ q=((cJ q).map fun w=>(w,dr w)).map (·.1):=by rw[List.map_map];exact(List.map_id _).symm
 have hr:=AP (ps:=(cJ q).map fun w=>(w,dr w)) (by
  intro p hp
  obtain⟨w,hw2,rfl⟩:=List.mem_map.1 hp
  exact(hw.1 w hw2).1)
 rw[←e1] at hr
 rw[hr]
 unfold K
 simp
theorem Hx {ts:List Tok} (h:(fj ts).2=0):jk (fj ts).1:=by
 unfold fj at h⊢
 simp only at h⊢
 split at h
 ·cases h
 ·rename_i hb
  rw[if_neg hb]
  split at h
  ·rename_i hs
   rw[if_pos hs]
   refine mK ?_
   simp only[Bool.or_eq_true,not_or] at hb
   simpa using hb.1
  ·cases h
theorem zI {ts:List Tok} (h:(fj ts).2=0):fj (K (cJ (fj ts).1))=((fj ts).1,0)∧jk (fj ts).1:=by
 obtain⟨q,hq⟩:∃q,(fj ts).1=q:=⟨_,rfl⟩
 have hgs:jk q∧eG q=true:=by
  unfold fj at h hq
  simp only at h hq
  split at h
  ·cases h
  ·rename_i hb
   rw[if_neg hb] at hq
   split at h
   ·rename_i hs
    rw[if_pos hs] at hq
    subst hq
    refine⟨mK ?_,hs⟩
    simp only[Bool.or_eq_true,not_or] at hb
    simpa using hb.1
   ·cases h
 rw[hq]
 refine⟨?_,hgs.1⟩
 unfold fj
 simp only[xn hgs.1,hgs.2]
 rfl
end Pure
end Go.Proofs.YtobgbmfpicmpcaaGreatDoor
