/- Mine. -/
import Derived.Test.YtbfmmmjkjhjleaaGreatDoorC11
set_option maxRecDepth 100000
set_option maxHeartbeats 0
namespace Go.Proofs.YtbfmmmjkjhjleaaGreatDoor
variable {st:RS} {r:List Tok} {α:Type} {w sep:ByteArray} {t:Tok}
structure kf(q:aI):Prop where
 ah:∀s∈q.ah,jU s
 first:∃s r,q.ah=s::r/\s.type=e0
 wo:q.ah.length<=6
 aq:∀c∈q.aq,qW c
 wi:q.aq.length<=6
def qN(q:aI):Prop:=
 kf q/\(∀x∈q.af,rj x)/\q.af≠[]/\q.af.length<=6/\0<=q.order/\q.order<=q.af.length/\(q.order=0->q.down=false)/\0<=q.skip/\q.skip<=1000000000/\(q.aX=-1\/(0<=q.aX/\q.aX<=1000000000))
  /\ q=⟨1,q.ah,q.aq,q.af,q.order,q.down,q.skip,q.aX,e0,e0,oE,e0,e0,e0,[]⟩
def IW(q:aI):Prop:=
 kf q/\bB q.name=true/\bB q.key=true/\mf q.value/\q=⟨2,q.ah,q.aq,[],0,false,0,0,q.name,q.key,q.value,e0,e0,e0,[]⟩
def Eu(q:aI):Prop:=
 kf q/\bB q.name=true/\q=⟨3,q.ah,q.aq,[],0,false,0,0,q.name,e0,oE,e0,e0,e0,[]⟩
def EX(q:aI):Prop:=
 kf q/\bB q.name=true/\bI q.type=true/\bB q.dest=true/\q=⟨4,q.ah,q.aq,[],0,false,0,0,q.name,e0,oE,q.type,q.dest,e0,[]⟩
def kG(q:aI):Prop:=
 bI q.ai=true/\(∀p∈q.aj,rf p)/\q.aj.length<=6/\eF [] q.aj=false/\q=⟨5,[],[],[],0,false,0,0,e0,e0,oE,e0,e0,q.ai,q.aj⟩
def EZ(q:aI):Prop:=bB q.name=true/\q=⟨6,[],[],[],0,false,0,0,q.name,e0,oE,e0,e0,e0,[]⟩
def pW(q:aI):Prop:=qN q\/IW q\/Eu q\/EX q\/kG q\/EZ q
namespace Pure
def iL(bad:List ByteArray)(r:List Tok):Prop:=∀w∈bad,aP w ⟨r,false⟩=false
theorem oW(bad:List ByteArray):iL bad []:=fun _ _=>rfl
theorem vu{bad:List ByteArray}{v:ByteArray}(h:v∈lits)(a:(bad.all fun w=>!jb v w)=true)(r:List Tok):iL bad (eo v::r):=by
 intro w hw;rw[eW h];have:=List.all_eq_true.1 a w hw
 simpa using this
theorem D5{s:aK}(h:s.type=e0):mH false s=aN::rZ s:=by
 unfold mH;rw[h,j8];rfl
theorem Fq{b:Bool}{s:aK}(h:bI s.type=true):mH b s=wZ s++rZ s:=by
 unfold mH;rw[qh h];rfl
theorem DE:∀(l:List aK) (n:Nat) (out:List aK) (r:List Tok),(∀s∈l,jU s)->iL [aN,jI] r->l.length<=n->bE n out ⟨K (dF mH false l)++r,false⟩=(out++l,⟨r,false⟩)
 | [],n,out,r,_,hr,_=>by
  have h1:=hr aN (by simp);have b:=hr jI (by simp);rw[dF,ij,tV,x8];cases n with
  | zero=>rfl
  | succ n=>unfold bE;rw[h1,b];simp
 | s::l,0,out,r,_,_,hn=>by simp at hn
 | s::l,n+1,out,r,hs,hr,hn=>by
  have a:=hs s (by simp);have ih:=fun out=>DE l n out r (fun x hx=>hs x (by simp[hx])) hr (by simp at hn;omega);rw[dF,eU,wh];rcases a.TF with ⟨t0,t1,t2⟩|⟨t0,t1,t2,t3⟩
  ·rw[D5 t0,dB,tw];unfold bE;rw[dD (w:=aN) (by simp[lits]),a8 rfl,bV (by simp[lits]),Cl a cV rfl,ih];have:(⟨s.name,s.ai,cV.type,cV.least,cV.bq⟩:aK)=s:=by
    cases s;simp only at t0 t1 t2;subst t0;subst t1;subst t2;rfl
   rw[this,wh];rfl
  ·rw[Fq t0];have hp:K (wZ s++rZ s)++(K (dF mH false l)++r)=eo jI::(K (((s.type::((if s.least=1/\s.bq=1 then [] else [eP,bP s.least,lW,bP s.bq])++[dy])))++rZ s)++(K (dF mH false l)++r)):=by
    unfold wZ;simp only[tw,tV,dB]
   have c:=RT a t0 t1 t2 t3 (K (dF mH false l)++r);unfold bE;rw[c];rw[hp,eW (v:=jI) (w:=aN) (by simp[lits]),show jb jI aN=false by decide +kernel,bk (by simp),dD (w:=jI) (by simp[lits]),a8 rfl,ih,wh];rfl
theorem zw{α:Type}(f:Bool->α->List ByteArray)(a:∀b x,1<=(f b x).length):∀(l:List α) (b:Bool),l.length<=(dF f b l).length
 | [],_=>rm _
 | x::l,b=>by
  rw[dF,r7,vw];have:=zw f a l false;have:=a b x;omega
theorem Dv(l:List ByteArray):(K l).length=l.length:=by unfold K;rw[tB]
theorem Ei{s:aK}{l:List aK}(g:∀x∈s::l,jU x)(d:s.type=e0)(j:(s::l).length<=6)(i:iL [aN,jI] r):gd ⟨K (dF mH true (s::l))++r,false⟩=(s::l,⟨r,false⟩):=by
 have f:=g s (by simp);have h:s.least=0/\s.bq=0:=by
  rcases f.TF with ⟨_,b,c⟩|⟨t0,_⟩
  ·exact⟨b,c⟩
  ·rw[d] at t0;exact absurd t0 (by decide +kernel)
 have e:(⟨s.name,s.ai,cV.type,cV.least,cV.bq⟩:aK)=s:=by
  cases s;simp only at d h;obtain⟨a,b⟩:=h;subst d;subst a;subst b;rfl
 have hw:dF mH true (s::l)=rZ s++dF mH false l:=by
  rw[dF];unfold mH;rw[d,j8];rfl
 have hlen:l.length<=(K (dF mH false l)++r).length:=by
  rw[r7,Dv];have:=zw mH (fun b x=>by unfold mH rZ;simp;omega) l false;omega
 unfold gd;rw[hw,eU,wh,Cl f cV rfl];simp only;rw[DE l _ _ r (fun x hx=>g x (by simp[hx])) i hlen,e];simp only[tw,tV];rw[bk (by omega)]
theorem Io{α:Type}{one:RS->α × RS}{sep:ByteArray}{g:α->List ByteArray}{bad:List ByteArray}(a:sep∈lits)(b:(bad.all fun w=>!jb sep w)=true):∀(l:List α),(∀x∈l,∀r,iL bad r->one ⟨K (g x)++r,false⟩=(x,⟨r,false⟩))->∀(n:Nat) (out:List α) (r:List Tok),iL bad r->aP sep ⟨r,false⟩=false->l.length<=n->
  cq one sep n out ⟨K (l.flatMap fun x=>sep::g x)++r,false⟩=(out++l,⟨r,false⟩)
 | [],_,n,out,r,_,hp,_=>by
  rw[List.flatMap_nil,ij,tV,x8];cases n with
  | zero=>rfl
  | succ n=>unfold cq;rw[hp];simp
 | x::l,_,0,_,_,_,_,hn=>by simp at hn
 | x::l,h,n+1,out,r,hr,hp,hn=>by
  rw[vz,tw,dB,tw,eU,wh];have hst:iL bad (K (l.flatMap fun x=>sep::g x)++r):=by
   cases l with
   | nil=>rw[List.flatMap_nil,ij,tV];exact hr
   | cons y l=>rw[vz,tw,dB,tw];exact vu a b _
  unfold cq;rw[dD a,a8 rfl,bV a,h x (by simp) _ hst,Io a b l (fun y hy=>h y (by simp[hy])) n _ r hr hp (by simp at hn;omega),wh];rfl
theorem yO{one:RS->α × RS}{g:α->List ByteArray}{bad:List ByteArray}(a:sep∈lits)(c:(bad.all fun w=>!jb sep w)=true){x:α}{l:List α}(h:∀y∈x::l,∀r,iL bad r->one ⟨K (g y)++r,false⟩=(y,⟨r,false⟩))(f:(x::l).length<=6)(d:iL bad r)(hp:aP sep ⟨r,false⟩=false):
  gE one sep 6 ⟨K (g x++l.flatMap fun x=>sep::g x)++r,false⟩=(x::l,⟨r,false⟩):=by
 have b:iL bad (K (l.flatMap fun x=>sep::g x)++r):=by
  cases l with
  | nil=>rw[List.flatMap_nil,ij,tV];exact d
  | cons y l=>rw[vz,tw,dB,tw];exact vu a c _
 have hlen:l.length<=(K (l.flatMap fun x=>sep::g x)++r).length:=by
  rw[r7,Dv];have:∀l:List α,l.length<=(l.flatMap fun x=>sep::g x).length:=by
   intro l
   induction l with
   | nil=>exact rm _
   | cons y l ih=>rw[vz,r7,vw,vw];omega
  have:=this l;omega
 unfold gE;rw[eU,wh,h x (by simp) _ b];simp only;rw[Io a c l (fun y hy=>h y (by simp[hy])) _ _ r d hp hlen];simp only[tw,tV];rw[bk (by omega)]
theorem RC{c:bW}(h:1<=c.op/\c.op<=6)(r:List Tok):dZ jD 1 ⟨eo (pS c.op)::r,false⟩=(c.op,⟨r,false⟩):=by
 have b:c.op=1\/c.op=2\/c.op=3\/c.op=4\/c.op=5\/c.op=6:=by omega
 have y:∀{m:ByteArray} {a:List ByteArray} {i:Int},m∈lits->dZ (m::a) i ⟨eo m::r,false⟩=(i,⟨r,false⟩):=by
  intro m a i hm;unfold dZ;rw[dD hm,a8 rfl,bV hm]
 have n:∀{v m:ByteArray} {a:List ByteArray} {i:Int},v∈lits->jb v m=false->dZ (m::a) i ⟨eo v::r,false⟩=dZ a (i+1) ⟨eo v::r,false⟩:=by
  intro v m a i d e;rw[dZ,eW d,e,bk (by simp)]
 unfold jD;rcases b with e|e|e|e|e|e<;>rw[e]
 ·rw[show pS 1=ze from rfl];exact y (by simp[lits])
 ·rw[show pS 2=Lg from rfl];exact(n (by simp[lits]) (by decide +kernel)).trans (y (by simp[lits]))
 ·rw[show pS 3=Lj from rfl];exact(n (by simp[lits]) (by decide +kernel)).trans ((n (by simp[lits]) (by decide +kernel)).trans (y (by simp[lits])))
 ·rw[show pS 4=Le from rfl];exact(n (by simp[lits]) (by decide +kernel)).trans ((n (by simp[lits]) (by decide +kernel)).trans ((n (by simp[lits]) (by decide +kernel)).trans (y (by simp[lits]))))
 ·rw[show pS 5=Lf from rfl];exact(n (by simp[lits]) (by decide +kernel)).trans ((n (by simp[lits]) (by decide +kernel)).trans ((n (by simp[lits]) (by decide +kernel)).trans ((n (by simp[lits]) (by decide +kernel)).trans (y (by simp[lits])))))
 ·rw[show pS 6=Ld from rfl];exact(n (by simp[lits]) (by decide +kernel)).trans ((n (by simp[lits]) (by decide +kernel)).trans ((n (by simp[lits]) (by decide +kernel)).trans ((n (by simp[lits]) (by decide +kernel)).trans ((n (by simp[lits]) (by decide +kernel)).trans (y (by simp[lits]))))))
theorem KR{op:Int}(h:1<=op/\op<=6):pS op∈lits/\jb (pS op) oZ=false:=by
 have a:op=1\/op=2\/op=3\/op=4\/op=5\/op=6:=by omega
 rcases a with e|e|e|e|e|e<;>subst e<;>exact⟨by simp[lits,pS],by decide +kernel⟩
theorem OF{c:bW}(h:qW c)(r:List Tok):jW ⟨K (lY c.a++Jq c)++r,false⟩=(c,⟨r,false⟩):=by
 rw[eU,wh];unfold jW;rw[Cy h.TP];simp only;rcases h.TR with ⟨g,d⟩|⟨i,d⟩
 ·have hw:Jq c=pS c.op::lY c.b:=by unfold Jq;rw[bk (by omega),bk (by omega)]
  obtain⟨hm,hk⟩:=KR (op:=c.op) ⟨h.ops.1,g⟩;rw[hw,dB,tw,eW hm,hk,bk (by simp),RC ⟨h.ops.1,g⟩,Cy d]
 ·have f:c.op=7\/c.op=8:=by have:=h.ops;omega
  rcases f with e|e
  ·have hw:Jq c=[oZ,jM]:=by unfold Jq;rw[a8 e]
   rw[hw,show K [oZ,jM]++r=eo oZ::eo jM::r from rfl];rw[dD (by simp[lits,aC]),a8 rfl,bV (by simp[lits,aC]),eW (v:=jM) (w:=ku) (by simp[lits,aC]),show jb jM ku=false by decide +kernel,Aq (by rw[eW (v:=jM) (w:=ku) (by simp[lits,aC])];decide +kernel),cU (by simp[lits,aC])];cases c;simp only at e d;subst e;subst d;rfl
  ·have hw:Jq c=[oZ,ku,jM]:=by unfold Jq;rw[bk (by omega),a8 e]
   rw[hw,show K [oZ,ku,jM]++r=eo oZ::eo ku::eo jM::r from rfl];rw[dD (by simp[lits,aC]),a8 rfl,bV (by simp[lits,aC]),dD (w:=ku) (by simp[lits,aC]),bV (w:=ku) (by simp[lits,aC]),cU (by simp[lits,aC])];cases c;simp only at e d;subst e;subst d;rfl
theorem Pd{x:aZ}(h:rj x)(r:List Tok)(b:iL [eN] r):ja ⟨K (Jx x)++r,false⟩=(x,⟨r,false⟩):=by
 unfold Jx;rcases h with ⟨h1,a⟩|⟨h1,a|a⟩
 ·rw[h1,j8,a8 rfl];simp only[dB,ij,tw,tV];unfold ja;rw[dD (by simp[lits,aC]),a8 rfl,bV (by simp[lits,aC])];cases x;simp only at h1 a;subst h1;subst a;rfl
 ·rw[lJ h1,a,j8];simp only[th,if_false,if_true,dB,ij,tw,tV];unfold ja;rw[Bj h1 (by simp[lits,aC]),bk (by simp),j0 h1];simp only;rw[b eN (by simp),bk (by simp)];cases x;simp only at a;subst a;rfl
 ·rw[lJ h1,lJ a];simp only[th,if_false,dB,ij,tw,tV];unfold ja;rw[Bj h1 (by simp[lits,aC]),bk (by simp),j0 h1];simp only;rw[dD (by simp[lits]),a8 rfl,bV (by simp[lits]),j0 a]
theorem Pv{p:bm}(h:rf p)(r:List Tok):gW ⟨K [p.key,cD,bP p.val]++r,false⟩=(p,⟨r,false⟩):=by
 simp only[dB,ij,tw,tV];unfold gW;simp only[j0 h.1,cU (w:=cD) (by simp[lits]),sJ h.2 h.2.1 h.2.2]
end Pure
namespace Pure
theorem kJ{bad:List ByteArray}{a b:List Tok}(c:iL bad a)(d:iL bad b):iL bad (a++b):=by
 cases a with
 | nil=>exact d
 | cons t r=>exact c
theorem lL{bad:List ByteArray}{v:ByteArray}{w:List ByteArray}(h:v∈lits)(a:(bad.all fun w=>!jb v w)=true):iL bad (K (v::w)):=by
 rw[dB];exact vu h a _
theorem lk(h:w∈aC):w∈lits:=List.mem_append.2 (ad h)
theorem qB{bad:List ByteArray}(a:(bad.all fun w=>!jb gH w)=true)(q:aI):iL bad (K (wY q)):=by
 unfold wY;split
 ·exact oW _
 ·exact lL (lk (by simp[aC])) a
theorem zm{bad:List ByteArray}(a:(bad.all fun w=>!jb iZ w)=true)(q:aI):iL bad (K (Dg q)):=by
 unfold Dg;split
 ·exact oW _
 ·exact lL (lk (by simp[aC])) a
theorem D6{bad:List ByteArray}(a:(bad.all fun w=>!jb eC w)=true)(q:aI):iL bad (K (xu q)):=by
 unfold xu;split
 ·exact oW _
 ·exact lL (lk (by simp[aC])) a
theorem Nd{q:aI}(h:q.aX=-1\/(0<=q.aX/\q.aX<=1000000000)):jx gH (-1) ⟨K (wY q),false⟩=(q.aX,⟨[],false⟩):=by
 unfold wY;by_cases e:q.aX=-1
 ·rw[a8 e,e];rfl
 ·have a:0<=q.aX/\q.aX<=1000000000:=by rcases h with h|h;exact absurd h e;exact h
  rw[bk e,dB,dB,ij];unfold jx;rw[dD (lk (by simp[aC])),a8 rfl,bV (lk (by simp[aC])),sJ ⟨by omega,a.2⟩ a.1 a.2]
theorem O9{q:aI}(a:0<=q.skip)(h1:q.skip<=1000000000)(b:iL [iZ] r):jx iZ 0 ⟨K (Dg q)++r,false⟩=(q.skip,⟨r,false⟩):=by
 unfold Dg;by_cases e:q.skip=0
 ·rw[a8 e,e,ij,tV];unfold jx;rw[b iZ (by simp),bk (by simp)]
 ·rw[bk e,dB,dB,ij,tw,tw,tV];unfold jx;rw[dD (lk (by simp[aC])),a8 rfl,bV (lk (by simp[aC])),sJ ⟨by omega,h1⟩ a h1]
theorem LZ{q:aI}{n:Int}(c:0<=q.order)(h1:q.order<=n)(d:n<=6)(b:q.order=0->q.down=false)(a:iL [eC,kV] r):jy n ⟨K (xu q)++r,false⟩=((q.order,q.down),⟨r,false⟩):=by
 unfold xu;by_cases e:q.order=0
 ·rw[a8 e,ij,tV];unfold jy;rw[a eC (by simp),bk (by simp),b e,e]
 ·rw[bk e,eU,wh];simp only[dB,ij,tw,tV];unfold jy;simp only[dD (w:=eC) (lk (by simp[aC])),if_true,bV (w:=eC) (lk (by simp[aC])),cU (w:=L8) (lk (by simp[aC])),sJ (n:=q.order) (lo:=1) (hi:=n) ⟨by omega,by omega⟩ (by omega) h1];cases f:q.down
  ·simp only[th,if_false,ij,tV];rw[a kV (by simp),Aq (a kV (by simp))]
  ·simp only[if_true,dB,ij,tw,tV];rw[dD (lk (by simp[aC])),bV (lk (by simp[aC]))]
theorem nZ{α:Type}(sep:ByteArray)(g:α->List ByteArray)(f:Bool->α->List ByteArray)(a:∀x,f false x=sep::g x):∀l:List α,dF f false l=l.flatMap fun x=>sep::g x
 | []=>rfl
 | x::r=>by rw[dF,a,nZ sep g f a r,vz]
theorem Mn{q:aI}(hi:∀x∈q.af,rj x)(d:q.af≠[])(b:q.af.length<=6)(a:iL [eN,aN] r):gE ja aN 6 ⟨K (dF AK true q.af)++r,false⟩=(q.af,⟨r,false⟩):=by
 cases c:q.af with
 | nil=>exact absurd c d
 | cons x l=>
  rw[c] at hi b;have e:dF AK true (x::l)=Jx x++l.flatMap fun x=>aN::Jx x:=by
   rw[dF,nZ aN Jx AK (fun y=>rfl)];rfl
  rw[e];exact yO (bad:=[eN]) (by simp[lits]) (by decide +kernel) (fun y hy r a=>Pd (hi y hy) r a) b (fun w hw=>a w (by simp at hw;simp[hw])) (a aN (by simp))
theorem Ht{bad:List ByteArray}(h1:(bad.all fun w=>!jb eC w)=true)(a:(bad.all fun w=>!jb iZ w)=true)(b:(bad.all fun w=>!jb gH w)=true)(q:aI):iL bad (K (Br q)):=by
 unfold Br;rw[eU,eU];exact kJ (D6 h1 q) (kJ (zm a q) (qB b q))
theorem Pc{q:aI}(h:qN q):fW ⟨K (dF AK true q.af++Br q),false⟩=(⟨q.af,q.order,q.down,q.skip,q.aX⟩,⟨[],false⟩):=by
 obtain⟨hm,hi,i,g,a,h1,f,b,c,d,_⟩:=h;unfold fW;rw[eU,Mn hi i g (Ht (by decide +kernel) (by decide +kernel) (by decide +kernel) q)];unfold Br;simp only;rw[eU,LZ a h1 (by omega) f (by rw[eU];exact kJ (zm (by decide +kernel) q) (qB (by decide +kernel) q))];simp only;rw[eU,O9 b c (qB (by decide +kernel) q)];simp only;rw[Nd d]
theorem N5{l:List bW}(d:∀c∈l,qW c)(f:l.length<=6)(b:iL [eD,oF] r):fm ⟨K (dF zv true l)++r,false⟩=(l,⟨r,false⟩):=by
 cases l with
 | nil=>
  rw[dF,ij,tV];unfold fm;rw[b eD (by simp),bk (by simp)]
 | cons c l=>
  have e:dF zv true (c::l)=eD::((lY c.a++Jq c)++l.flatMap fun x=>oF::(lY x.a++Jq x)):=by
   rw[dF,nZ oF (fun x=>lY x.a++Jq x) zv (fun y=>rfl)];rfl
  rw[e,dB,tw];unfold fm;rw[dD (lk (by simp[aC])),a8 rfl,bV (lk (by simp[aC]))];exact yO (g:=fun x=>lY x.a++Jq x) (bad:=[]) (lk (by simp[aC])) rfl (fun y hy r _=>OF (d y hy) r) f (fun w hw=>by cases hw) (b oF (by simp))
def It(p:bm):List ByteArray:=[p.key,cD,bP p.val]
theorem Mg{l:List bm}(hp:∀p∈l,rf p)(b:l≠[])(a:l.length<=6)(c:iL [aN] r):gE gW aN 6 ⟨K (dF DH true l)++r,false⟩=(l,⟨r,false⟩):=by
 cases l with
 | nil=>exact absurd rfl b
 | cons x l=>
  have e:dF DH true (x::l)=It x++l.flatMap fun p=>aN::It p:=by
   rw[dF,nZ aN It DH (fun y=>rfl)];rfl
  rw[e];exact yO (g:=It) (bad:=[]) (by simp[lits]) rfl (fun y hy r _=>Pv (hp y hy) r) a (fun w hw=>by cases hw) (c aN (by simp))
theorem PE{q:aI}(h:kG q):cH (ar aW ⟨K (xo q),false⟩)=((q.ai,q.aj),⟨[],false⟩):=by
 obtain⟨c,hp,a,b,_⟩:=h;unfold xo;simp only[tw,tV,dB];rw[bV (lk (by simp[aC]))];unfold cH;simp only[cU (w:=bO) (by simp[lits]),qA c];cases d:q.aj with
 | nil=>
  simp only[List.isEmpty_nil,if_true,tV,dB,ij];rw[eW (v:=bN) (w:=dC) (by simp[lits]),show jb bN dC=false by decide +kernel];simp only[th,if_false];rw[show eF [] []=false from rfl];simp only[th,if_false];rw[cU (w:=bN) (by simp[lits])]
 | cons x l=>
  rw[d] at hp a b;simp only[List.isEmpty_cons,th,if_false,tw,dB];rw[dD (w:=dC) (by simp[lits])];simp only[if_true];rw[bV (w:=dC) (by simp[lits]),eU,eU,wh,Mg hp (by simp) a (kJ (lL (by simp[lits]) (by decide +kernel)) (lL (by simp[lits]) (by decide +kernel)))];simp only[dB,ij,tw,tV,b,th,if_false];rw[cU (w:=iy) (by simp[lits]),cU (w:=bN) (by simp[lits])]
end Pure
namespace Pure
theorem AV{bad:List ByteArray}(h:([bH,fZ,bR,aW].all fun v=>bad.all fun w=>!jb v w)=true)(q:aI):iL bad (K (vh q)):=by
 have a:∀v∈[bH,fZ,bR,aW],(bad.all fun w=>!jb v w)=true:=List.all_eq_true.1 h;unfold vh;split
 ·exact lL (lk (by simp[aC])) (a bH (by simp))
 ·split
  ·exact lL (lk (by simp[aC])) (a fZ (by simp))
  ·split
   ·exact lL (lk (by simp[aC])) (a bR (by simp))
   ·split
    ·exact lL (lk (by simp[aC])) (a aW (by simp))
    ·exact oW _
theorem He{bad:List ByteArray}(h:(bad.all fun w=>!jb eD w)=true)(l:List bW):iL bad (K (dF zv true l)):=by
 cases l with
 | nil=>exact oW _
 | cons c l=>
  have e:dF zv true (c::l)=eD::((lY c.a++Jq c)++dF zv false l):=rfl;rw[e];exact lL (lk (by simp[aC])) h
theorem um{q:aI}(h:kf q)(f:q.kind≠5)(g:q.kind≠6):gK ⟨K (pw q),false⟩=dt {aB with ah:=q.ah,aq:=q.aq} ⟨K (vh q),false⟩:=by
 have hw:pw q=Fm q++vh q:=by unfold pw;rw[bk g,bk f]
 obtain⟨s,l,c,d⟩:=h.first;have b:=h.ah;have a:=h.wo;rw[c] at b a;rw[hw];unfold Fm;rw[tw,dB,eU,eU,wh];unfold gK;rw[eW (v:=dK) (w:=fl) (lk (by simp[aC])),show jb dK fl=false by decide +kernel,eW (v:=dK) (w:=aW) (lk (by simp[aC])),show jb dK aW=false by decide +kernel];simp only[th,if_false];rw[cU (w:=dK) (lk (by simp[aC])),c,Ei b d a (kJ (He (by decide +kernel) _) (AV (by decide +kernel) q))];simp only;rw[N5 h.aq h.wi (AV (by decide +kernel) q)]
theorem MH{q:aI}(h:pW q):gK ⟨K (pw q),false⟩=(q,⟨[],false⟩):=by
 rcases h with h|h|h|h|h|h
 ·have i:=Pc h;obtain⟨hm,_,_,_,_,_,_,_,_,_,e⟩:=h;have l:q.kind=1:=by rw[e]
  rw[um hm (by omega) (by omega)];have a:vh q=bH::(dF AK true q.af++Br q):=by unfold vh Qd;rw[a8 l]
  rw[a,dB];unfold dt;rw[dD (lk (by simp[aC])),a8 rfl,bV (lk (by simp[aC])),i];rw[e];rfl
 ·obtain⟨hm,b,hk,k,e⟩:=h;have m:q.kind=2:=by rw[e]
  rw[um hm (by omega) (by omega)];have a:vh q=fZ::([q.name,eN,q.key,ze]++lY q.value):=by unfold vh;rw[bk (by omega),a8 m];rfl
  rw[a,dB,eU];unfold dt;rw[eW (v:=fZ) (w:=bH) (lk (by simp[aC])),show jb fZ bH=false by decide +kernel,dD (w:=fZ) (lk (by simp[aC])),bV (w:=fZ) (lk (by simp[aC]))];simp only[th,if_false,if_true];have j:vR ⟨K [q.name,eN,q.key,ze]++K (lY q.value),false⟩=((q.name,q.key,q.value),⟨[],false⟩):=by
   have c:=Cy k [];rw[x8] at c;simp only[dB,ij,tw,tV];unfold vR;simp only[IY b hk,cU (w:=ze) (by simp[lits]),c]
  rw[j];rw[e];rfl
 ·obtain⟨hm,b,e⟩:=h;have n:q.kind=3:=by rw[e]
  rw[um hm (by omega) (by omega)];have a:vh q=[bR,q.name]:=by unfold vh;rw[bk (by omega),bk (by omega),a8 n]
  rw[a,dB,dB,ij];unfold dt;rw[eW (v:=bR) (w:=bH) (lk (by simp[aC])),show jb bR bH=false by decide +kernel,eW (v:=bR) (w:=fZ) (lk (by simp[aC])),show jb bR fZ=false by decide +kernel,dD (w:=bR) (lk (by simp[aC])),bV (w:=bR) (lk (by simp[aC]))];simp only[th,if_false,if_true];rw[j0 b];rw[e];rfl
 ·obtain⟨hm,b,c,g,e⟩:=h;have o:q.kind=4:=by rw[e]
  rw[um hm (by omega) (by omega)];have a:vh q=[aW,bO,q.name,bN,jI,q.type,dy,bO,q.dest,bN]:=by unfold vh;rw[bk (by omega),bk (by omega),bk (by omega),a8 o]
  rw[a,dB];unfold dt;rw[eW (v:=aW) (w:=bH) (lk (by simp[aC])),show jb aW bH=false by decide +kernel,eW (v:=aW) (w:=fZ) (lk (by simp[aC])),show jb aW fZ=false by decide +kernel,eW (v:=aW) (w:=bR) (lk (by simp[aC])),show jb aW bR=false by decide +kernel,dD (w:=aW) (lk (by simp[aC])),bV (w:=aW) (lk (by simp[aC]))];simp only[th,if_false,if_true];have f:kP ⟨K [bO,q.name,bN,jI,q.type,dy,bO,q.dest,bN],false⟩=((q.name,q.type,q.dest),⟨[],false⟩):=by
   simp only[dB,ij];unfold kP;simp only[cU (w:=bO) (by simp[lits]),j0 b,cU (w:=bN) (by simp[lits]),cU (w:=jI) (by simp[lits]),qA c,cU (w:=dy) (by simp[lits]),j0 g]
  rw[f];rw[e];rfl
 ·have hm:=PE h;obtain⟨_,_,_,_,e⟩:=h;have p:q.kind=5:=by rw[e]
  have hw:pw q=xo q:=by unfold pw;rw[bk (by omega),a8 p]
  rw[hw];have d:K (xo q)=eo aW::K ([bO,q.ai]++((if q.aj.isEmpty then [] else dC::(dF DH true q.aj++[iy]))++[bN])):=rfl;have s:aP fl ⟨K (xo q),false⟩=false:=by rw[d,eW (lk (by simp[aC]))];decide +kernel
  have t:aP aW ⟨K (xo q),false⟩=true:=by rw[d,dD (lk (by simp[aC]))]
  unfold gK;rw[s,t];simp only[th,if_false,if_true];rw[hm];rw[e];rfl
 ·obtain⟨b,e⟩:=h;have r:q.kind=6:=by rw[e]
  have hw:pw q=[fl,q.name]:=by unfold pw;rw[a8 r]
  rw[hw,dB,dB,ij];unfold gK;rw[dD (w:=fl) (lk (by simp[aC])),bV (w:=fl) (lk (by simp[aC])),j0 b];rw[e];rfl
theorem AG{k:Int}(h:(fw k st).2.bad=false):gF (fw k st).1=k:=by
 unfold fw at h⊢;split
 ·rename_i a;unfold jG at a;cases b:st.rest with
  | nil=>rw[b] at a;cases a
  | cons t r=>rw[b] at a;simpa using a
 ·rename_i a;rw[bk a] at h;cases h
theorem Kb(h:gF t=1):bB t.text=true:=by
 unfold gF at h;split at h
 ·cases h
 ·split at h
  ·cases h
  ·split at h
   ·unfold nU at h;split at h
    ·assumption
    ·split at h<;>cases h
   ·cases h
theorem FN(h:gF t=2):bI t.text=true:=by
 unfold gF at h;split at h
 ·cases h
 ·split at h
  ·cases h
  ·split at h
   ·unfold nU at h;split at h
    ·cases h
    ·split at h
     ·assumption
     ·cases h
   ·cases h
theorem gL(h:(ed st).2.bad=false):bB (ed st).1=true:=Kb (AG h)
theorem nJ(h:(dJ st).2.bad=false):bI (dJ st).1=true:=FN (AG h)
theorem oJ{lo hi:Int}(h:(cW lo hi st).2.bad=false):lo<=(cW lo hi st).1/\(cW lo hi st).1<=hi:=by
 unfold cW at h⊢;simp only at h⊢;split at h
 ·cases h
 ·omega
theorem vV{x:aK}(h:(dA x st).2.bad=false)(a:x.ai=e0):bB (dA x st).1.name=true/\((dA x st).1.ai=e0\/bI (dA x st).1.ai=true)/\(dA x st).1.type=x.type/\(dA x st).1.least=x.least/\(dA x st).1.bq=x.bq:=by
 unfold dA at h⊢;simp only at h⊢;have h1:=bQ aF h;by_cases hp:aP cD (ed (aM bO st)).2=true
 ·simp only[hp,if_true] at h1⊢;exact⟨gL (bQ bh (bQ fD h1)),a6 (nJ h1),trivial,trivial,trivial⟩
 ·simp only[hp,if_false,th] at h1⊢;exact⟨gL h1,ad a,trivial,trivial,trivial⟩
theorem Jg(h:(my st).2.bad=false):0<=(my st).1.1/\(my st).1.1<=(my st).1.2/\(my st).1.2<=4:=by
 unfold my at h⊢;split
 ·rename_i hp;rw[a8 hp] at h;simp only at h⊢;have a:=oJ h;have h1:=oJ (bQ aF (bQ et h));exact⟨h1.1,a.1,a.2⟩
 ·simp
theorem K6(h:(jr st).2.bad=false):bI (jr st).1.type=true/\0<=(jr st).1.least/\(jr st).1.least<=(jr st).1.bq/\(jr st).1.bq<=4/\(jr st).1.ai=e0:=by
 unfold jr at h⊢;simp only at h⊢;have h1:=bQ aF h;have a:=Jg h1;exact⟨nJ (bQ vJ h1),a.1,a.2.1,a.2.2,trivial⟩
theorem yN(h:(dA cV st).2.bad=false):jU (dA cV st).1:=by
 obtain⟨a,b,c,d,e⟩:=vV h rfl;exact⟨a,b,ad ⟨c,d,e⟩⟩
theorem Nr(h:(rW st).2.bad=false):jU (rW st).1:=by
 unfold rW at h⊢;obtain⟨t,f,g,i,j⟩:=K6 (bQ kZ h);obtain⟨a,b,c,d,e⟩:=vV h j;exact⟨a,b,a6 ⟨by rw[c];exact t,by rw[d];exact f,by rw[d,e];exact g,by rw[e];exact i⟩⟩
theorem zg(n:Nat):∀(out:List aK) (st:RS),(bE n out st).2.bad=false->(∀s∈out,jU s)->(∀s∈(bE n out st).1,jU s)/\∃t,(bE n out st).1=out++t:=by
 induction n with
 | zero=>intro out st _ h;exact⟨h,[],by simp[bE]⟩
 | succ n ih=>
  intro out st c h;unfold bE at c⊢;by_cases h1:aP aN st=true
  ·simp only[h1,if_true] at c⊢;have d:(dA cV (ar aN st)).2.bad=false:=bQ (gT n) c;obtain⟨a,t,e⟩:=ih _ _ c (fun s b=>by rcases List.mem_append.1 b with b|b;exact h s b;rw[List.mem_singleton.1 b];exact yN d);exact⟨a,_::t,by rw[e,wh];rfl⟩
  ·by_cases f:aP jI st=true
   ·simp only[h1,f,if_true,if_false,th] at c⊢;have d:(rW (ar jI st)).2.bad=false:=bQ (gT n) c;obtain⟨a,t,e⟩:=ih _ _ c (fun s b=>by rcases List.mem_append.1 b with b|b;exact h s b;rw[List.mem_singleton.1 b];exact Nr d);exact⟨a,_::t,by rw[e,wh];rfl⟩
   ·simp only[h1,f,if_false,th] at c⊢;exact⟨h,[],by simp⟩
theorem Ho(h:(gd st).2.bad=false):(∀s∈(gd st).1,jU s)/\(∃s r,(gd st).1=s::r/\s.type=e0)/\(gd st).1.length<=6:=by
 unfold gd at h⊢;simp only at h⊢;split at h
 ·cases h
 ·have b:(dA cV st).2.bad=false:=bQ (gT _) h;obtain⟨a,t,e⟩:=zg _ _ _ h (fun s hs=>by rw[List.mem_singleton.1 hs];exact yN b);refine⟨a,⟨(dA cV st).1,t,by rw[e];rfl,(vV b rfl).2.2.1⟩,by omega⟩
theorem Ab{one:RS->α × RS}{P:α->Prop}(f:∀{st:RS},st.bad=true->(one st).2.bad=true)(hp:∀{st:RS},(one st).2.bad=false->P (one st).1)(n:Nat):∀(out:List α) (st:RS),(cq one sep n out st).2.bad=false->(∀x∈out,P x)->(∀x∈(cq one sep n out st).1,P x)/\∃t,(cq one sep n out st).1=out++t:=by
 induction n with
 | zero=>intro out st _ h;exact⟨h,[],by simp[cq]⟩
 | succ n ih=>
  intro out st b h;unfold cq at b⊢;by_cases h1:aP sep st=true
  ·simp only[h1,if_true] at b⊢;have d:(one (ar sep st)).2.bad=false:=bQ (mL f n) b;obtain⟨a,t,e⟩:=ih _ _ b (fun s c=>by rcases List.mem_append.1 c with c|c;exact h s c;rw[List.mem_singleton.1 c];exact hp d);exact⟨a,_::t,by rw[e,wh];rfl⟩
  ·simp only[h1,if_false,th] at b⊢;exact⟨h,[],by simp⟩
theorem uI{one:RS->α × RS}{P:α->Prop}{b:Nat}(c:∀{st:RS},st.bad=true->(one st).2.bad=true)(hp:∀{st:RS},(one st).2.bad=false->P (one st).1)(h:(gE one sep b st).2.bad=false):(∀x∈(gE one sep b st).1,P x)/\(gE one sep b st).1≠[]/\(gE one sep b st).1.length<=b:=by
 unfold gE at h⊢;simp only at h⊢;split at h
 ·cases h
 ·have d:(one st).2.bad=false:=bQ (mL c _) h;obtain⟨a,t,e⟩:=Ab c hp _ _ _ h (fun s hs=>by rw[List.mem_singleton.1 hs];exact hp d);refine⟨a,by rw[e];simp,by omega⟩
theorem Bq(h:(j9 st).2.bad=false):bB (j9 st).1.1=true/\bB (j9 st).1.2=true:=by
 unfold j9 at h⊢;simp only at h⊢;exact⟨gL (bQ aF (bQ cE h)),gL h⟩
theorem rM(h:(fJ st).2.bad=false):mf (fJ st).1:=by
 unfold fJ at h⊢;split
 ·rename_i hp;rw[a8 hp] at h;simp only at h⊢;have:=oJ h;exact ad ⟨rfl,rfl,this⟩
 ·rename_i hp;rw[bk hp] at h;simp only at h⊢;have:=Bq h;exact a6 ⟨this.1,this.2,rfl⟩
theorem uE:∀(l:List ByteArray) (i:Int) (st:RS),(dZ l i st).2.bad=false->1<=i->1<=(dZ l i st).1/\(dZ l i st).1<i+l.length
 | [],i,st,h,_=>by cases h
 | m::r,i,st,h,hi=>by
  unfold dZ at h⊢;split
  ·simp;omega
  ·rename_i hp;rw[bk hp] at h;have:=uE r (i+1) st h (by omega);simp only[vw];omega
theorem Ju(h:(jW st).2.bad=false):qW (jW st).1:=by
 unfold jW at h⊢;simp only at h⊢;by_cases hp:aP oZ (fJ st).2=true
 ·simp only[hp,if_true] at h⊢;have a:=rM (bQ bh (bQ bh (bQ aF h)));refine⟨?_,a,a6 ⟨?_,rfl⟩⟩
  ·simp only;split<;>omega
  ·simp only;split<;>omega
 ·simp only[hp,if_false,th] at h⊢;have d:=rM h;have b:=bQ jh h;have c:=uE jD 1 _ b (by omega);have f:jD.length=6:=rfl;rw[f] at c;have a:=rM (bQ qK b);exact⟨⟨c.1,by simp only;omega⟩,a,ad ⟨by simp only;omega,d⟩⟩
theorem Jk(h:(ja st).2.bad=false):rj (ja st).1:=by
 unfold ja at h⊢;by_cases hp:aP iw st=true
 ·simp only[hp,if_true] at h⊢;exact ad ⟨rfl,rfl⟩
 ·simp only[hp,if_false,th] at h⊢;by_cases a:aP eN (ed st).2=true
  ·simp only[a,if_true] at h⊢;exact a6 ⟨gL (bQ bh (bQ cE h)),a6 (gL h)⟩
  ·simp only[a,if_false,th] at h⊢;exact a6 ⟨gL h,ad rfl⟩
theorem JS(h:(gW st).2.bad=false):rf (gW st).1:=by
 unfold gW at h⊢;simp only at h⊢;exact⟨gL (bQ aF (bQ et h)),oJ h⟩
end Pure
namespace Pure
theorem Fv{k:Int}(h:(jy k st).2.bad=false)(hk:0<=k):0<=(jy k st).1.1/\(jy k st).1.1<=k/\((jy k st).1.1=0->(jy k st).1.2=false):=by
 unfold jy at h⊢;by_cases hp:aP eC st=true
 ·simp only[hp,if_true] at h⊢;have:=oJ (bQ bh h);refine⟨by omega,this.2,fun e=>by omega⟩
 ·simp only[hp,if_false,th] at h⊢;exact⟨by omega,hk,fun _=>trivial⟩
theorem AT{d:Int}(h:(jx w d st).2.bad=false):(jx w d st).1=d\/(0<=(jx w d st).1/\(jx w d st).1<=1000000000):=by
 unfold jx at h⊢;by_cases hp:aP w st=true
 ·simp only[hp,if_true] at h⊢;exact a6 (oJ h)
 ·simp only[hp,if_false,th] at h⊢;exact ad trivial
theorem zY(h:(cH st).2.bad=false):bI (cH st).1.1=true/\(∀p∈(cH st).1.2,rf p)/\(cH st).1.2.length<=6/\eF [] (cH st).1.2=false:=by
 have d:(dJ (aM bO st)).2.bad=false:=bQ ou h;unfold cH at h⊢;simp only at h⊢;by_cases hp:aP dC (dJ (aM bO st)).2=true
 ·simp only[hp,if_true] at h⊢;split at h
  ·cases h
  ·rename_i b;have h1:=bQ aF (bQ aF h);obtain⟨a,_,c⟩:=uI vj JS h1;exact⟨nJ d,a,c,by simpa using b⟩
 ·simp only[hp,if_false,th] at h⊢;exact⟨nJ d,(fun p hp=>(by cases hp)),by simp,rfl⟩
theorem FU(h:(fm st).2.bad=false):(∀c∈(fm st).1,qW c)/\(fm st).1.length<=6:=by
 unfold fm at h⊢;by_cases hp:aP eD st=true
 ·simp only[hp,if_true] at h⊢;obtain⟨a,_,c⟩:=uI vQ Ju h;exact⟨a,c⟩
 ·simp only[hp,if_false,th] at h⊢;exact⟨(fun c hc=>(by cases hc)),by simp⟩
theorem Lb(h:(kP st).2.bad=false):bB (kP st).1.1=true/\bI (kP st).1.2.1=true/\bB (kP st).1.2.2=true:=by
 unfold kP at h⊢;simp only at h⊢;have h1:=bQ aF h;have a:=bQ aF (bQ aF (bQ cE h1));have b:=bQ aF (bQ aF (bQ fD a));exact⟨gL b,nJ a,gL h1⟩
theorem Lk(h:(vR st).2.bad=false):bB (vR st).1.1=true/\bB (vR st).1.2.1=true/\mf (vR st).1.2.2:=by
 unfold vR at h⊢;simp only at h⊢;have h1:=Bq (bQ aF (bQ jh h));exact⟨h1.1,h1.2,rM h⟩
theorem Jt(h:(fW st).2.bad=false):(∀x∈(fW st).1.af,rj x)/\(fW st).1.af≠[]/\(fW st).1.af.length<=6/\0<=(fW st).1.order/\(fW st).1.order<=(fW st).1.af.length/\((fW st).1.order=0->(fW st).1.down=false)/\0<=(fW st).1.skip/\(fW st).1.skip<=1000000000/\((fW st).1.aX=-1\/(0<=(fW st).1.aX/\(fW st).1.aX<=1000000000)):=by
 unfold fW at h⊢;simp only at h⊢;have h1:=bQ jL h;have d:=bQ jL h1;have f:=bQ sU d;obtain⟨a,b,c⟩:=uI vS Jk f;obtain⟨i,j,k⟩:=Fv d (by omega);have l:=AT h1;have g:=AT h;refine⟨a,b,c,i,j,k,by omega,by omega,g⟩
theorem Dq{q:aI}(h:(dt q st).2.bad=false)(hm:kf q)(l:q={aB with ah:=q.ah,aq:=q.aq}):pW (dt q st).1:=by
 have mk:∀q':aI,q'.ah=q.ah->q'.aq=q.aq->kf q':=fun q' e1 e2=>⟨by rw[e1];exact hm.ah,by rw[e1];exact hm.first,by rw[e1];exact hm.wo,by rw[e2];exact hm.aq,by rw[e2];exact hm.wi⟩;unfold dt at h⊢;by_cases h1:aP bH st=true
 ·simp only[h1,if_true] at h⊢;obtain⟨a,b,c,d,e,f,g,i,j⟩:=Jt h;refine ad ⟨mk _ rfl rfl,a,b,c,d,e,f,g,i,j,?_⟩;rw[l];rfl
 ·by_cases k:aP fZ st=true
  ·simp only[h1,k,if_true,if_false,th] at h⊢;obtain⟨a,b,c⟩:=Lk h;refine a6 (ad ⟨mk _ rfl rfl,a,b,c,?_⟩);rw[l];rfl
  ·by_cases m:aP bR st=true
   ·simp only[h1,k,m,if_true,if_false,th] at h⊢;refine a6 (a6 (ad ⟨mk _ rfl rfl,gL h,?_⟩));rw[l];rfl
   ·by_cases n:aP aW st=true
    ·simp only[h1,k,m,n,if_true,if_false,th] at h⊢;obtain⟨a,b,c⟩:=Lb h;refine a6 (a6 (a6 (ad ⟨mk _ rfl rfl,a,b,c,?_⟩)));rw[l];rfl
    ·simp only[h1,k,m,n,if_false,th] at h;cases h
theorem pP(h:(gK st).2.bad=false):pW (gK st).1:=by
 unfold gK at h⊢;by_cases h1:aP fl st=true
 ·simp only[h1,if_true] at h⊢;exact a6 (a6 (a6 (a6 (a6 ⟨gL h,rfl⟩))))
 ·by_cases f:aP aW st=true
  ·simp only[h1,f,if_true,if_false,th] at h⊢;obtain⟨a,b,c,d⟩:=zY h;exact a6 (a6 (a6 (a6 (ad ⟨a,b,c,d,rfl⟩))))
  ·simp only[h1,f,if_false,th] at h⊢;have g:=bQ wA h;have i:=bQ pd g;obtain⟨a,b,c⟩:=Ho i;obtain⟨d,e⟩:=FU g;exact Dq h ⟨a,b,c,d,e⟩ rfl
def Wd(w:ByteArray):Prop:=nK w (eo w)/\w.size<=11
theorem SC(h:nK w t)(a:w.size<=11):Wd w:=⟨by rw[qu h];exact h,a⟩
theorem IQ(h:isWord w=true):Wd w:=SC (wR h) (by have:=(mJ h).2.1;omega)
theorem Pw(h:bB w=true):Wd w:=IQ (mU h).1
theorem MP(h:bI w=true):Wd w:=IQ (pA h).1
theorem PY{b:List Tok}(h:(iE b).2=0):pW (iE b).1:=by
 unfold iE at h⊢;simp only at h⊢;split at h
 ·cases h
 ·rename_i a;rw[bk a];split at h
  ·rename_i c;rw[a8 c];refine pP ?_;simp only[zd,not_or] at a
   simpa using a.1
  ·cases h
theorem GC{c:List Tok}(h:(iE c).2=0):iE (K (pw (iE c).1))=((iE c).1,0)/\pW (iE c).1:=by
 obtain⟨q,b⟩:∃q,(iE c).1=q:=⟨_,rfl⟩;have a:pW q/\fF q=true:=by
  unfold iE at h b;simp only at h b;split at h
  ·cases h
  ·rename_i d;rw[bk d] at b;split at h
   ·rename_i f;rw[a8 f] at b;subst b;refine⟨pP ?_,f⟩;simp only[zd,not_or] at d
    simpa using d.1
   ·cases h
 rw[b];refine⟨?_,a.1⟩;unfold iE;simp only[MH a.1,a.2]
 rfl
end Pure
def pk(c n:Int):Int:=if c<0 then -(c+1) % n else c % n
def TQ(c:Int):Int:=pk c 7 - 3
def vB(i:Int):ByteArray:=if i=0 then ⟨#[97]⟩ else if i=1 then ⟨#[98]⟩ else ⟨#[99]⟩
def kB:ByteArray:=⟨#[107]⟩
def Tl(c:Int):Int:=pk (c.tdiv 5) 1099511627776
def SE(c:Int):gP:=⟨vB (pk (Tl c) 3),kB,0⟩
def kc(c:Int):bW:=
 if pk c 5=0 then ⟨7,SE c,oE⟩ else if pk c 5=1 then ⟨8,SE c,oE⟩
 else if pk c 5=2 then ⟨4,SE c,⟨vB (pk (Tl c / 3) 3),kB,0⟩⟩
 else if pk c 5=3 then ⟨2,SE c,⟨e0,e0,TQ (Tl c / 9)⟩⟩ else ⟨3,SE c,⟨e0,e0,TQ (Tl c / 9)⟩⟩
end Go.Proofs.YtbfmmmjkjhjleaaGreatDoor
