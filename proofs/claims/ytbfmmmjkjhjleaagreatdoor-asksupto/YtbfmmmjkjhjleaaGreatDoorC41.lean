/- Mine. -/
import Derived.Test.YtbfmmmjkjhjleaaGreatDoorC40
import Derived.Test.YtbfmmmjkjhjleaaGreatDoorC15
set_option maxRecDepth 100000
set_option maxHeartbeats 0
namespace Go.Proofs.YtbfmmmjkjhjleaaGreatDoor
open Go.Proofs.Tryz
variable {α:Type} {o:VL} {s:ByteArray}
section
open Go.RowKit Go.Sort
def gR(af:List aZ)(o:VL):bY:=(List.range 6).map fun i=>if ik af i then none else (o[i]?).getD none
def xq(af:List aZ)(o:VL)(n:Int):Prop:=∀k,ik af k=true->o[k]?=some (some n)
theorem uU{f g:Nat->Option Int}:(List.range 6).map f=(List.range 6).map g↔∀i,i<6->f i=g i:=by
 rw[List.map_inj_left];exact⟨fun h i hi=>h i (List.mem_range.2 hi),fun h i hi=>h i (List.mem_range.1 hi)⟩
theorem ME{l:bY}(h:l.length=6):l=(List.range 6).map (jm l):=by
 refine LX (by simp[h]) fun i h1 h2=>?_;rw[DG,List.getElem_range];unfold jm;rw[r6 h1]
 rfl
theorem Ku{f:Nat->Option Int}{i:Nat}(hi:i<6):jm ((List.range 6).map f) i=f i:=by
 unfold jm;rw[F0,List.getElem?_range hi]
 rfl
theorem IG{af:List aZ}{k:Nat}(h:ik af k=true):k<af.length:=by
 unfold ik at h;rcases ua k af.length with h1|h1
 ·exact h1
 ·rw[x7 h1] at h;cases h
theorem IN{af:List aZ}{n:Int}(c:o.length=af.length)(b:af.length<=6)(a:xq af o n):lU o=gQ af (gR af o) n:=by
 rw[ME (zD (l:=o) (by omega))];unfold gQ;rw[uU];intro i hi;rw[wX];show _=if ik af i=true then some n else jm (gR af o) i
 unfold gR;rw[Ku hi];by_cases h:ik af i=true
 ·rw[a8 h,a i h]
  rfl
 ·rw[bk h,bk h]
theorem Iy(af:List aZ)(a b:VL):∀n,oH af a b n=true↔∀k,k<n->ik af k=true\/(a[k]?).getD none=(b[k]?).getD none
 | 0=>⟨fun _ k h=>absurd h (by omega),fun _=>rfl⟩
 | n+1=>by
  unfold oH;rw[wa,Iy af a b n,zd,decide_eq_true_eq];constructor
  ·rintro ⟨h1,h2⟩ k hk;rcases ua k n with h|h
   ·exact h1 k h
   ·obtain rfl:k=n:=by omega
    exact h2
  ·intro h;exact⟨fun k hk=>h k (by omega),h n (by omega)⟩
theorem BR{af:List aZ}{a b:VL}(f:a.length=af.length)(g:b.length=af.length)(d:af.length<=6):nD af a b=true↔gR af a=gR af b:=by
 unfold nD gR;rw[Iy,uU];constructor
 ·intro h i hi;by_cases c:ik af i=true
  ·rw[a8 c,a8 c]
  ·rw[bk c,bk c];rcases ua i af.length with h1|h1
   ·exact(h i h1).resolve_left c
   ·rw[x7 (by omega),x7 (by omega)]
 ·intro h k hk;by_cases c:ik af k=true
  ·exact ad c
  ·have:=h k (by omega);rw[bk c,bk c] at this;exact a6 this
theorem Ik(af:List aZ)(o:VL):gR af (zZ af o)=gR af o:=by
 unfold gR zZ;rw[uU];intro i hi;by_cases a:ik af i=true
 ·rw[a8 a,a8 a]
 ·rw[bk a,bk a,uu,bk (fun h=>a h.2)]
theorem Oy{af:List aZ}{n:Int}(a:xq af o n):xq af (zZ af o) (n+1):=by
 intro k hk;unfold zZ;rw[uu,a8 ⟨IG hk,hk⟩,a k hk]
 rfl
structure ON(af:List aZ)(ls:List bY)(outs:List VL):Prop where
 nodup:(outs.map (gR af)).Nodup
 mem:∀l,l∈outs.map (gR af)↔l∈ls
 each:∀o∈outs,o.length=af.length/\xq af o ((dm (dz af) ls (gR af o)).getD 0)
theorem yA:∀(b:List bY) {c:bY->Option Int} {l:bY},¬l∈b->dm c b l=c l
 | [],_,_,_=>rfl
 | a::r,c,l,h=>by
  have e:dm c (a::r)=dm (nj c a ((c a).getD 0+1)) r:=rfl;rw[e,yA r (fun hm=>h (D2 _ hm))];unfold nj;rw[bk (fun e=>h (by rw[e];exact zi))]
theorem ON.step{af:List aZ}{m:List bY}{outs:List VL}(h:ON af m outs)(t:af.length<=6)(hp:0<kY af af.length)(s:o.length=af.length)(v:xq af o 1):ON af (m++[gR af o]) (o9 af outs o):=by
 have p:dm (dz af) (m++[gR af o])=nj (dm (dz af) m) (gR af o) ((dm (dz af) m (gR af o)).getD 0+1):=wb _ _ _;by_cases hm:gR af o∈m
 ·obtain⟨x,w,he⟩:=List.mem_map.1 ((h.mem _).2 hm);obtain⟨j,q,rfl⟩:=zc w;have r:∀(a b:Nat) (ha:a<outs.length) (hb:b<outs.length),gR af outs[a]=gR af outs[b]->a=b:=fun a b ha hb e=>by
   have h1:=List.pairwise_iff_getElem.1 h.nodup;rcases Nat.lt_trichotomy a b with n|n|n
   ·refine absurd ?_ (h1 a b (by simpa using ha) (by simpa using hb) n);rw[DG,DG];exact e
   ·exact n
   ·refine absurd ?_ (h1 b a (by simpa using hb) (by simpa using ha) n);rw[DG,DG];exact e.symm
  have d:o9 af outs o=outs.set j (zZ af outs[j]):=Hv hp q ((BR s (h.each _ (sT q)).1 t).2 he.symm) (fun i hi g=>by
   cases u:nD af o outs[i] with
   | false=>rfl
   | true=>
    have e:=(BR s (h.each _ (sT hi)).1 t).1 u;exact absurd (r i j hi q (e.symm.trans he.symm)) (by omega))
  have f:(outs.set j (zZ af outs[j])).map (gR af)=outs.map (gR af):=by
   rw[List.map_set,Ik];refine LX (by simp) fun i h1 n=>?_;rw[List.getElem_set];split
   ·rename_i e;subst e;rw[DG]
   ·rfl
  rw[d];refine⟨by rw[f];exact h.nodup,fun l=>?_,fun y k=>?_⟩
  ·rw[f,h.mem,Is,vA];exact⟨ad,fun e=>e.elim id fun e=>by rw[e];exact hm⟩
  ·obtain⟨i,hi,rfl⟩:=zc k;rw[zp] at hi;rw[List.getElem_set];rw[p];by_cases g:j=i
   ·subst g;rw[a8 rfl];have c:=h.each _ (sT q);refine⟨by unfold zZ;rw[qI];exact c.1,?_⟩;rw[Ik,he];unfold nj;rw[a8 rfl,xp];have:=c.2;rw[he] at this;exact Oy this
   ·rw[bk g];have c:=h.each _ (sT hi);refine⟨c.1,?_⟩;unfold nj;rw[bk (fun e=>g (r j i q hi (he.trans e.symm)))];exact c.2
 ·have d:o9 af outs o=outs++[o]:=Dj (fun _ i hi=>by
   cases u:nD af o outs[i] with
   | false=>rfl
   | true=>
    have e:=(BR s (h.each _ (sT hi)).1 t).1 u;exact absurd ((h.mem _).1 (by rw[e];exact List.mem_map.2 ⟨_,sT hi,rfl⟩)) hm)
  have z:(dm (dz af) m (gR af o)).getD 0=0:=by rw[yA m hm];exact mK af _
  rw[d];refine⟨?_,fun l=>?_,fun y k=>?_⟩
  ·rw[vb,xd,Cf,List.nodup_append];refine⟨h.nodup,by simp,fun a ha b hb e=>?_⟩;rw[List.mem_singleton.1 hb] at e;rw[e] at ha;exact hm ((h.mem _).1 ha)
  ·rw[vb,Is,h.mem,Is]
   rfl
  ·rw[p];unfold nj;rcases List.mem_append.1 k with k|k
   ·have c:=h.each y k;refine⟨c.1,?_⟩;rw[bk (fun e=>hm (by rw[<-e];exact(h.mem _).1 (List.mem_map.2 ⟨y,k,rfl⟩)))];exact c.2
   ·rw[List.mem_singleton.1 k];refine⟨s,?_⟩;rw[a8 rfl,xp,z];exact v
theorem uT{af:List aZ}(h:af.any fi=false):∀n,kY af n=0
 | 0=>rfl
 | n+1=>by
  have hc:ik af n=false:=by
   unfold ik;cases a:af[n]? with
   | none=>rfl
   | some x=>
    have:=List.any_eq_false.1 h x (zs a)
    simpa using this
  unfold kY;rw[uT h n,hc]
  rfl
theorem NA{af:List aZ}(h:af.any fi=true):0<kY af af.length:=by
 obtain⟨x,b,a⟩:=List.any_eq_true.1 h;obtain⟨k,hk,rfl⟩:=zc b;have hm:∀n,k<n->0<kY af n:=fun n=>by
  induction n with
  | zero=>intro h;omega
  | succ n ih=>
   intro h;unfold kY;rcases ua k n with h1|h1
   ·have:=ih h1;omega
   ·obtain rfl:k=n:=by omega
    have:ik af k=true:=by unfold ik;rw[r6 hk];exact a
    rw[this];simp
 exact hm _ hk
theorem Dc(af:List aZ):kY af af.length=af.length↔af.any (fun x=>!(fi x))=false:=by
 have hm:∀n,n<=af.length->(kY af n=n↔∀k,k<n->ik af k=true):=fun n=>by
  induction n with
  | zero=>intro _;exact⟨fun _ k h=>absurd h (by omega),fun _=>rfl⟩
  | succ n ih=>
   intro c;have hle:=BD af n;unfold kY;by_cases a:ik af n=true
   ·rw[a8 a];constructor
    ·intro h k hk;rcases ua k n with h1|h1
     ·exact(ih (by omega)).1 (by omega) k h1
     ·obtain rfl:k=n:=by omega
      exact a
    ·intro h;have:=(ih (by omega)).2 (fun k hk=>h k (by omega));omega
   ·rw[bk a];constructor
    ·intro h;omega
    ·intro h;exact absurd (h n (by omega)) a
 rw[hm _ (rm _),List.any_eq_false];constructor
 ·intro h x b;obtain⟨k,hk,rfl⟩:=zc b;have:=h k hk;unfold ik at this;rw[r6 hk] at this;have this:fi af[k]=true:=this;simp[this]
 ·intro h k hk;have:=h af[k] (sT hk);unfold ik;rw[r6 hk]
  simpa using this
variable {F:SF} {sn:List aH}
def nt(F:SF)(sn:List aH)(r:List Nat):bY:=fB sn F.q.af (eO sn F.q.ah r)
theorem Ps(g:nO F.sm sn){r:List Nat}(a:nE F r){x:aZ}(n:lj F.q.ah x.name)(j:fi x=false):kF F r x=jQ sn (eO sn F.q.ah r) x:=by
 have he:x.name.toList.isEmpty=false:=j;unfold kF jQ;rw[bk (show ¬x.name.toList.isEmpty=true by simp[he]),bk (show ¬fi x=true by simp[j])];rcases n with h|⟨k,hk,m⟩
 ·rw[he] at h;cases h
 ·have d:∀i∈r,i<sn.length:=fun i hi=>by rw[<-g.len];exact a.2 i hi
  have l:0<sn.length:=Nat.lt_of_le_of_lt (tJ _) (d (r[k]'(by rw[a.1];exact hk)) (sT _));have b:=yS l (ss:=F.q.ah) (nm:=x.name) d;have c:tm F.q.ah r x.name<F.sm.length:=by rw[g.len];exact b
  have f:=g.each _ c b;rw[Cp sn ⟨k,by rw[a.1];exact hk,hk,m⟩,xp,r6 c];simp only[A5];split
  ·rw[qV b,f.num]
  ·unfold valueOf;rw[yX g b];exact f.bf _
theorem vG(f:nO F.sm sn){r:List Nat}(b:nE F r)(g:∀x∈F.q.af,lj F.q.ah x.name):nt F sn r=gR F.q.af (ir F r):=by
 unfold nt fB gR;rw[uU];intro i hi;unfold ir;rw[F0];cases d:F.q.af[i]? with
 | none=>
  split<;>rfl
 | some x=>
  have a:ik F.q.af i=fi x:=by unfold ik;rw[d];rfl
  simp only[A5,Option.map_some,xp];by_cases c:fi x=true
  ·rw[a8 (a.trans c)];unfold jQ;rw[a8 c]
  ·rw[bk (fun h=>c (a.symm.trans h)),Ps f b (g x (zs d)) (by simpa using c)]
theorem Jz(F:SF)(r:List Nat):xq F.q.af (ir F r) 1:=by
 intro k hk;unfold ik at hk;unfold ir;rw[F0];cases a:F.q.af[k]? with
 | none=>rw[a] at hk;cases hk
 | some x=>
  rw[a] at hk;have hk:x.name.toList.isEmpty=true:=hk;simp[kF,hk]
theorem DT(c:nO F.sm sn)(b:F.q.af.length<=6)(hp:0<kY F.q.af F.q.af.length)(d:∀x∈F.q.af,lj F.q.ah x.name)(rows:List (List Nat))(a:∀r∈rows,nE F r):∀n,n<=rows.length->ON F.q.af ((rows.take n).map (nt F sn)) (iP F (rows.take n))
 | 0,_=>by
  rw[List.take_zero];exact⟨List.nodup_nil,fun l=>Iff.rfl,fun o ho=>by cases ho⟩
 | n+1,h=>by
  rw[tt,r6 (by omega),F2,pO,vb,xd,Cf,vG c (a _ (sT (by omega))) d];exact(DT c b hp d rows a n (by omega)).step b hp (by unfold ir;rw[tB]) (Jz F _)
theorem GH(h:F.q.af.any fi=false):∀rows:List (List Nat),iP F rows=rows.map (ir F):=fun rows=>by
 have a:∀(rows:List (List Nat)) (o:List VL),rows.foldl (fun o r=>o9 F.q.af o (ir F r)) o=o++rows.map (ir F):=fun rows=>by
  induction rows with
  | nil=>intro o;simp
  | cons r rows ih=>
   intro o;have e:o9 F.q.af o (ir F r)=o++[ir F r]:=by
    unfold o9;rw[bk (by rw[uT h];omega)]
   rw[L2,e,ih,xd,wh]
   rfl
 have:=a rows []
 rwa [tV] at this
theorem Hh(t:nO F.sm sn)(B:0<F.q.af.length)(m:F.q.af.length<=6)(u:∀x∈F.q.af,lj F.q.ah x.name)(rows:List (List Nat))(b:∀r∈rows,nE F r):((iI F rows).map lU).Perm (mG F.q.af (rows.map (nt F sn))):=by
 unfold iI mG;cases c:F.q.af.any fi with
 | false=>
  have he:vP F.q.af (iP F rows)=iP F rows:=by
   unfold vP;rw[bk (fun h=>by have:=h.2;rw[uT c] at this;omega)]
  rw[he,GH c,bk (by simp),F6];have e:rows.map (lU ∘ ir F)=rows.map (nt F sn):=by
   refine P4 fun r hrm=>?_;rw[vG t (b r hrm) u];show lU (ir F r)=_;rw[ME (zD (l:=ir F r) (by unfold ir;rw[tB];exact m))];unfold gR;rw[uU];intro i hi;rw[wX,bk];intro f;unfold ik at f;cases v:F.q.af[i]? with
   | none=>rw[v] at f;cases f
   | some x=>
    rw[v] at f;exact List.any_eq_false.1 c x (zs v) f
  rw[e]
 | true=>
  have hp:=NA c;have g:=DT t m hp u rows b rows.length (rm _);rw[yt] at g;rw[a8 rfl];have j:∀outs:List VL,(∀o∈outs,o.length=F.q.af.length/\xq F.q.af o ((dm (dz F.q.af) (rows.map (nt F sn)) (gR F.q.af o)).getD 0))->outs.map lU=(outs.map (gR F.q.af)).map (fun l=>gQ F.q.af l ((dm (dz F.q.af) (rows.map (nt F sn)) l).getD 0)):=fun outs ho=>by
   rw[F6];exact P4 fun o hom=>IN (ho o hom).1 m (ho o hom).2
  cases a:F.q.af.any (fun x=>!(fi x)) with
  | true=>
   have he:vP F.q.af (iP F rows)=iP F rows:=by
    unfold vP;rw[bk (fun h=>by have:=(Dc F.q.af).1 h.2;rw[a] at this;cases this)]
   rw[he,j _ g.each];refine(keys_perm g.nodup fun l=>?_).map _;rw[g.mem,lX];unfold dz;rw[a8 a];simp
  | false=>
   have p:∀i,i<F.q.af.length->ik F.q.af i=true:=fun i hi=>by
    unfold ik;rw[r6 hi];have:=List.any_eq_false.1 a F.q.af[i] (sT hi)
    simpa using this
   have d:∀o:VL,o.length=F.q.af.length->gR F.q.af o=eQ:=fun o ho=>by
    have:eQ=(List.range 6).map fun _=>none:=rfl;rw[this];unfold gR;rw[uU];intro i hi;by_cases f:ik F.q.af i=true
    ·rw[a8 f]
    ·rw[bk f,x7]
     ·rfl
     ·rcases ua i F.q.af.length with h1|h1
      ·exact absurd (p i h1) f
      ·omega
   cases rows with
   | nil=>
    have he:vP F.q.af (iP F [])=[List.replicate F.q.af.length (some 0)]:=by
     unfold vP;rw[a8 ⟨rfl,(Dc _).2 a⟩]
    have hk:tS F.q.af (([]:List (List Nat)).map (nt F sn))=[eQ]:=by
     unfold tS;rw[bk (by simp[a])]
     rfl
    rw[he,hk];have w:=IN (af:=F.q.af) (o:=List.replicate F.q.af.length (some 0)) (n:=0) (by simp) m (fun k hk=>by rw[List.getElem?_replicate,a8 (IG hk)]);rw[d _ (by simp)] at w;have y:(dm (dz F.q.af) [] eQ).getD 0=0:=mK _ _;have z:([eQ].map fun l=>gQ F.q.af l ((dm (dz F.q.af) (([]:List (List Nat)).map (nt F sn)) l).getD 0))=[gQ F.q.af eQ ((dm (dz F.q.af) [] eQ).getD 0)]:=rfl;rw[xd,Cf,w,z,y]
   | cons r0 rs=>
    have s:¬iP F (r0::rs)=[]:=fun e=>by
     have h1:=(g.mem (nt F sn r0)).2 (by simp);rw[e] at h1;cases h1
    have he:vP F.q.af (iP F (r0::rs))=iP F (r0::rs):=by
     unfold vP;rw[bk (fun h=>s h.1)]
    rw[he,j _ g.each];refine(keys_perm g.nodup fun l=>?_).map _;rw[g.mem,lX];refine⟨a6,fun h=>h.elim (fun h=>?_) id⟩;have A:l=eQ:=by
     unfold dz at h;rw[bk (by simp[a])] at h;unfold nj at h;by_cases e:l=eQ
     ·exact e
     ·rw[bk e] at h;cases h
    rw[A,<-d (ir F r0) (by unfold ir;rw[tB]),<-vG t (b r0 (by simp)) u];simp
theorem wy{α:Type}{lt lt':α->α->Bool}:∀(k:Nat) (l:List α),(∀a∈l,∀b∈l,lt a b=lt' a b)->kR lt k l=kR lt' k l/\∀x∈kR lt k l,x∈l
 | 0,l,_=>⟨rfl,fun _ h=>h⟩
 | k+1,l,h=>by
  unfold kR;cases ha:l[k+1]? with
  | none=>exact⟨rfl,fun _ h=>h⟩
  | some a=>
   cases hb:l[k]? with
   | none=>exact⟨rfl,fun _ h=>h⟩
   | some b=>
    simp only;have ham:=zs ha;have f:=zs hb;have d:∀x∈(l.set (k+1) b).set k a,x∈l:=fun x c=>by
     rcases RN c with c|c
     ·rcases RN c with c|c
      ·exact c
      ·rw[c];exact f
     ·rw[c];exact ham
    rw[h a ham b f];split
    ·have ih:=wy k ((l.set (k+1) b).set k a) (fun x c y hy=>h x (d x c) y (d y hy));exact⟨ih.1,fun x c=>d x (ih.2 x c)⟩
    ·exact⟨rfl,fun _ h=>h⟩
theorem ma{α:Type}{lt lt':α->α->Bool}{l:List α}(h:∀a∈l,∀b∈l,lt a b=lt' a b):∀n,gY lt l n=gY lt' l n/\∀x∈gY lt l n,x∈l
 | 0=>⟨rfl,fun _ h=>h⟩
 | n+1=>by
  have ih:=ma h n;have c:=wy (lt:=lt) (lt':=lt') n (gY lt l n) (fun a ha b hb=>h a (ih.2 a ha) b (ih.2 b hb));unfold gY;exact⟨by rw[c.1,ih.1],fun x hx=>ih.2 x (c.2 x hx)⟩
def jN(o:VL):L6:=sN (lU o)
theorem CX{order:Int}{down:Bool}{n:Nat}{outs:List VL}{q:List bY}(s:n<=6)(p:∀o∈outs,o.length=n)(hp:(outs.map lU).Perm q):(gY (gG order down) outs outs.length).map lU=iq order down q:=by
 have g:∀o∈outs,(jN o).1=lU o:=fun o ho=>xA (zD (by rw[p o ho];exact s));have m:=ma (lt:=gG order down) (lt':=fun a b=>decide (kz order down (jN a).1 (jN b).1<0)) (l:=outs) (fun a ha b hb=>by
  rw[g a ha,g b hb];exact PK ((p a ha).trans (p b hb).symm)) outs.length
 have f:=ur (lt:=fun a b:VL=>decide (kz order down (jN a).1 (jN b).1<0)) (fun a b c h1 j=>by
  have i:=pM order down;simp only[decide_eq_false_iff_not,Int.not_lt] at h1 j⊢;have g1:=i.mh (jN b) (jN a);have g2:=i.mh (jN c) (jN b);have g3:=i.mh (jN c) (jN a);have:=i.trans (jN a) (jN b) (jN c) (by omega) (by omega);omega) (fun a b h=>by
  have i:=(pM order down).mh (jN a) (jN b);simp only[decide_eq_true_eq] at h;simp only[decide_eq_false_iff_not];omega) outs
 have d:=xK (fun a b:VL=>decide (kz order down (jN a).1 (jN b).1<0)) outs;rw[m.1];generalize t:gY (fun a b:VL=>decide (kz order down (jN a).1 (jN b).1<0)) outs outs.length=U at f d;have k:∀o∈U,o∈outs:=fun o ho=>d.mem_iff.1 ho;have r:U.map jN=ru (fun a b:L6=>kz order down a.1 b.1) (q.map sN):=sI (pM order down) (fun a b h=>BC h) (by
  have j:=hp.map sN;rw[F6] at j;exact(d.map jN).trans j) (List.pairwise_map.2 (f.imp fun {a b} h=>h))
 unfold iq;rw[<-r,F6];exact P4 fun o ho=>(g o (k o ho)).symm
def iM{α:Type}(skip aX:Int)(l:List α):Nat->List α
 | 0=>[]
 | n+1=>iM skip aX l n++(if skip<=(n:Int)/\(aX<0\/(n:Int) - skip<aX) then (l[n]?).toList else [])
theorem Pp{skip aX:Int}(j:0<=skip)(l:List α):iM skip aX l l.length=if aX<0 then l.drop skip.toNat else (l.drop skip.toNat).take aX.toNat:=by
 have c:aX<0->∀n,n<=l.length->iM skip aX l n=(l.take n).drop skip.toNat:=fun a n=>by
  induction n with
  | zero=>intro _;simp[iM]
  | succ n ih=>
   intro g;unfold iM;rw[ih (by omega),tt,r6 (by omega),F2];by_cases b:skip<=(n:Int)
   ·rw[a8 ⟨b,ad a⟩,RW (by rw[v8];omega)]
   ·rw[bk (fun h=>b h.1),x8,BS (by rw[v8];omega),BS (by rw[r7,v8,x6];omega)]
 have d:¬aX<0->∀n,n<=l.length->iM skip aX l n=((l.take n).drop skip.toNat).take aX.toNat:=fun a n=>by
  induction n with
  | zero=>intro _;simp[iM]
  | succ n ih=>
   intro g;unfold iM;rw[ih (by omega),tt,r6 (by omega),F2];by_cases b:skip<=(n:Int)
   ·rw[RW (by rw[v8];omega)];have f:((l.take n).drop skip.toNat).length=n - skip.toNat:=by rw[x9,v8];omega
    by_cases hm:(n:Int) - skip<aX
    ·rw[a8 ⟨b,a6 hm⟩,uB (i:=aX.toNat) (l:=(l.take n).drop skip.toNat) (by omega),uB (l:=(l.take n).drop skip.toNat++[l[n]]) (by rw[r7,x6];omega)]
    ·rw[bk (fun h=>h.2.elim a hm),x8,List.take_append_of_le_length (by omega)]
   ·rw[bk (fun h=>b h.1),x8,BS (by rw[v8];omega),BS (by rw[r7,v8,x6];omega)]
 split
 ·rename_i a;rw[c a _ (rm _),yt]
 ·rename_i a;rw[d a _ (rm _),yt]
theorem E6{α β:Type}(f:α->β)(skip aX:Int)(l:List α):∀n,(iM skip aX l n).map f=iM skip aX (l.map f) n
 | 0=>rfl
 | n+1=>by
  unfold iM;rw[vb,E6 f skip aX l n,F0];split
  ·cases l[n]?<;>rfl
  ·rfl
end
section
open Go.RowKit
def Rh(x:NM):Prop:=nY x.num/\x.ai.size<=1000/\x.aj.length<=1000/\∀p∈x.aj,p.key.size<=1000/\nY p.val
theorem yz{x:NM}(h:Rh x):∀n,n<=x.aj.length->(kQ x.er n).size<=1100+n*1100
 | 0,_=>by
  unfold kQ;rw[RB,RB];have h1:=k9 x.num h.1;have d:=h.2.1;have:(⟨#[32]⟩:ByteArray).size=1:=rfl;show (bP x.num).size+(⟨#[32]⟩:ByteArray).size+x.ai.size<=_;omega
 | n+1,hn=>by
  have ih:=yz h n (by omega);have a:x.er.aj[n]?=some (x.aj[n]'(by omega)):=r6 (l:=x.aj) (by omega);have hp:=h.2.2.2 (x.aj[n]'(by omega)) (sT _);have h1:=k9 _ hp.2;unfold kQ;rw[a];simp only[A5,RB];have b:(⟨#[32]⟩:ByteArray).size=1:=rfl;have c:(⟨#[61]⟩:ByteArray).size=1:=rfl;omega
def EN(W:World)(ns:List NM)(e:Ending)(W':World):Prop:=(∃v,e=.returned v/\W'.ownsRow W.heap.size 9 1 v ns.length (strs ((ns.map NM.er).map kU)))/\Below W.heap.size W W'
theorem EN.mk{W w:World}{ns:List NM}{v:Value}(h:w.ownsRow W.heap.size 9 1 v ns.length (strs ((ns.map NM.er).map kU)))(a:Below W.heap.size W w):EN W ns (.returned v) w:=⟨⟨v,rfl,h⟩,a⟩
theorem Rt{gb:Nat}{rv nv:Value}{rl:List eT}{ns:List NM}{last:Int}{W:World}(h:RG gb rv rl nv ns last W)(hn:ns.length<=40)(A2:∀x∈ns,Rh x):
  Calls prog 29 #[.pointer (some ⟨gb,0,none⟩)] W fun e W'=>EN W ns e W':=by
 obtain⟨i1,hj,A7,A8,A9⟩:=info_parts Tryz.gV;have y:=p9 (And.intro hj (And.intro A7 (And.intro A8 A9)));clear hj A7 A8 A9;obtain⟨na,nc,N⟩:=aV h.nodes.row;have HG:qv (∀z,Below W.heap.size W z->z.cell? ⟨gb,1,none⟩=some (.slice na ns.length nc)/\z.cell? ⟨gb,2,none⟩=some (.slice none 0 0)/\dj z 3 (.slice na ns.length nc) ns.length (ns.flatMap Fi)/\∀x∈ns,dj z 2 x.pv x.aj.length (x.aj.flatMap dG)):=p9 (fun z hz=>by
  have T:=h.below hz;refine⟨(T.bJ.cell 1).trans (by rw[<-N];rfl),(T.bJ.cell 2).trans rfl,?_,fun x w=>aJ (T.nodes.Ni x w) (nf _)⟩;rw[<-N];exact aJ T.nodes.row (Gt ns))
 have Ae:=p9 A2;clear h N A2;go_enter func29,ntmps29
 go_upto_block 0 with fail;go_cut [3] (fun ov z=>z.ownsRow W.heap.size 9 1 ov ns.length (strs ((ns.map NM.er).map kU))/\Below W.heap.size W z)
 case first=>
  go_wp2_with fail;go_loopg [3,4] ns.length (fun c ov iv z=>∃k:Nat,iv=.int .i64 (k:Int)/\k+c=ns.length/\z.ownsRow W.heap.size 9 1 ov k (strs (((ns.take k).map NM.er).map kU))/\Below W.heap.size W z)
  case atStart=>exact⟨0,rfl,by omega,tj _ _ _ _,r5 _ _⟩
  case round=>
   obtain⟨k,rfl,A0,E,n⟩:=hrel;obtain⟨m,rfl⟩:∃m,m=wr:=⟨_,rfl⟩;have D:=p9 E;have F:=p9 n;clear E n;obtain⟨g1,g2,P,Q⟩:=HG.o m F.o;by_cases B:k<ns.length
   ·have Ai:(k:Int)<(ns.length:Int):=by omega
    have I:qv (((ns.take (k+1)).map NM.er).map kU=((ns.take k).map NM.er).map kU++[kU ns[k].er]):=p9 (by rw[tt,r6 B,F2,vb,vb];rfl);obtain⟨R,no,rfl,v⟩:=bC (l:=ns) Fi (fun _=>rfl) P B;have u:=Q ns[k] (sT B);have w:=Ae.o ns[k] (sT B);obtain⟨x,A6⟩:∃x,ns[k]=x:=⟨_,rfl⟩;rw[A6] at v u w I;clear A6 P Q;have HX:=p9 w;have Af:=p9 (yz w);obtain⟨pa,pc,O,-⟩:=bi u;have n0:m.cell? ⟨R,no+k*3,none⟩=some (.int .i64 x.num):=v 0 (by omega);have n1:m.cell? ⟨R,no+k*3+1,none⟩=some (.string x.ai):=v 1 (by omega);have C:m.cell? ⟨R,no+k*3+2,none⟩=some (.slice pa x.aj.length pc):=by rw[<-O];exact v 2 (by omega)
    rw[O] at u;have Y:=p9 u;have An:=w.2.2.1;have Am:=w.2.1;have H:qv (kQ x.er 0=bP x.num++⟨#[32]⟩++x.ai):=p9 rfl;have A:=k9 x.num w.1;have g:qv (∀d os,Calls prog 69 #[.int .i64 x.num] (Go.Sort.grow (redrawn m d) os) fun e w''=>e=.returned (.string (bP x.num))/\∃p:Regrown,w''=Go.Sort.grow (redrawn m p.d) p.os):=p9 (fun d os=>Calls.regrown_of (qP w.1));generalize bP x.num=dx at H g A;have b1:¬9223372036854775807<dx.size+1:=by omega
    have b2:¬9223372036854775807<dx.size+1+x.ai.size:=by omega
    have r1:=cell_regrown g1;have r2:=cell_regrown n0;have r3:=cell_regrown n1;clear v u w O;go_upto_region 5 with fail;refine wp_region_quiet_below (by kernel_rfl) (by kernel_rfl) ?_
    iterate 8 (quiet_step (fail))
    quiet_step (exact g.o _ _)
    iterate 11 (quiet_step (fail))
    refine wpQuiet_nil ?_;intro J hw;have a:qv (Below m.heap.size m J):=p9 (by obtain⟨⟨dq,S⟩,rfl⟩:=hw;exact below_regrown m dq S);clear hw r1 r2 r3 g A b1 b2;obtain⟨t0,A4⟩:∃t0,dx++⟨#[32]⟩++x.ai=t0:=⟨_,rfl⟩;rw[A4] at H⊢;clear A4;have U:=p9 (F.o.trans (a.o.mono F.o.size));have Ac:=p9 (D.o.kept (ag a.o none) (by cases (Value.ownBlock _)<;>simp));have g1:J.cell? ⟨gb,1,none⟩=some (.slice (some ⟨R,no,none⟩) ns.length nc):=(a.o.cell (block_lt_of_cell g1)).trans g1;have C:J.cell? ⟨R,no+k*3+2,none⟩=some (.slice pa x.aj.length pc):=(a.o.cell (block_lt_of_cell C)).trans C;have Z:=p9 (Y.o.below a.o);clear g2 n0 n1 D F a Y;obtain⟨gO,Ag⟩:∃gO,gO=gk:=⟨_,rfl⟩;subst Ag;have V:=p9 A0;clear A0;go_upto_block 2 with fail;go_cut [5] (fun tv z=>tv=.string (kU x.er)/\Below J.heap.size J z)
    case first=>
     go_wp2_with fail;go_loopg [5,6] x.aj.length (fun c tv jv z=>∃j:Nat,tv=.string (kQ x.er j)/\jv=.int .i64 (j:Int)/\j+c=x.aj.length/\Below J.heap.size J z)
     case atStart=>exact⟨0,by rw[H.o],rfl,by omega,r5 _ _⟩
     case round=>
      obtain⟨j,rfl,rfl,Ak,n⟩:=hrel;have f:=p9 n;clear n;have g1:wr.cell? ⟨gb,1,none⟩=some (.slice (some ⟨R,no,none⟩) ns.length nc):=(f.o.cell (block_lt_of_cell g1)).trans g1;have C:wr.cell? ⟨R,no+k*3+2,none⟩=some (.slice pa x.aj.length pc):=(f.o.cell (block_lt_of_cell C)).trans C;by_cases M:j<x.aj.length
      ·have Ah:(j:Int)<(x.aj.length:Int):=by omega
       obtain⟨pg,po,rfl,v⟩:=bC (l:=x.aj) dG (fun _=>rfl) (Z.o.below f.o) M;have i:qv (kQ x.er (j+1)=kQ x.er j++⟨#[32]⟩++x.aj[j].key++⟨#[61]⟩++bP x.aj[j].val):=p9 (by
        have T:x.er.aj[j]?=some x.aj[j]:=r6 (l:=x.aj) M
        conv=>lhs;unfold kQ
        rw[T]
        rfl)
       have s:=HX.o.2.2.2 x.aj[j] (sT M);have Aj:(kQ x.er j).size<=1200000:=r8 (Af.o j (by omega)) (by omega);obtain⟨⟨key,val⟩,A3⟩:∃p,x.aj[j]=p:=⟨_,rfl⟩;rw[A3] at v i s;have p0:wr.cell? ⟨pg,po+j*2,none⟩=some (.string key):=v 0 (by omega);have p1:wr.cell? ⟨pg,po+j*2+1,none⟩=some (.int .i64 val):=v 1 (by omega);clear v A3;have Al:key.size<=1000:=s.1;have A:=k9 val s.2;have g:qv (∀d os,Calls prog 69 #[.int .i64 val] (Go.Sort.grow (redrawn wr d) os) fun e w''=>e=.returned (.string (bP val))/\∃p:Regrown,w''=Go.Sort.grow (redrawn wr p.d) p.os):=p9 (fun d os=>Calls.regrown_of (qP s.2));have i:qv (kQ x.er (j+1)=kQ x.er j++⟨#[32]⟩++key++⟨#[61]⟩++bP val):=i;generalize bP val=dv at i g A;obtain⟨t,ht⟩:∃t,kQ x.er j=t:=⟨_,rfl⟩;rw[ht] at i Aj⊢;clear ht s;have b1:¬9223372036854775807<t.size+1:=by omega
       have b2:¬9223372036854775807<t.size+1+key.size:=by omega
       have b3:¬9223372036854775807<t.size+1+key.size+1:=by omega
       have b4:¬9223372036854775807<t.size+1+key.size+1+dv.size:=by omega
       have r1:=cell_regrown g1;have r2:=cell_regrown C;have r3:=cell_regrown p0;have r4:=cell_regrown p1;go_upto_region 9 with fail;clear g1 C p0 p1;refine wp_region_quiet_below (by kernel_rfl) (by kernel_rfl) ?_
       iterate 28 (quiet_step (fail))
       quiet_step (exact g.o _ _)
       iterate 2 (quiet_step (fail))
       refine wpQuiet_nil ?_;intro W4 hw;have Aa:qv (Below wr.heap.size wr W4):=p9 (by obtain⟨⟨dq,S⟩,rfl⟩:=hw;exact below_regrown wr dq S);clear hw r1 r2 r3 r4;go_wp2_with fail;go_roundg (gk - 1)
       case measure=>omega
       case rel=>exact⟨j+1,by rw[i.o],by simp,by omega,f.o.trans (Aa.o.mono f.o.size)⟩
      ·have Ah:¬(j:Int)<(x.aj.length:Int):=by omega
       obtain rfl:j=x.aj.length:=by omega
       have HE:qv (kQ x.er x.aj.length=kU x.er):=p9 rfl;rw[HE.o];go_wp2_with fail;go_meet
       case rel=>exact⟨rfl,f.o⟩
    case rest=>
     obtain⟨rfl,K⟩:=hcut;obtain⟨tx,A5⟩:∃tx,kU x.er=tx:=⟨_,rfl⟩;rw[A5] at I⊢;clear A5;have X:=p9 ((Ac.o.kept (ag K none) (by cases (Value.ownBlock _)<;>simp)).alloc (.cells #[.string tx] 9));have L:=U.o.trans (K.mono U.o.size);have G:=p9 (L.alloc L.size (.cells #[.string tx] 9));clear K L g1 C;go_wp2_with (at_builtin;go_must (refine wpList_append_own _ rfl _ _ 34 rfl W.heap.size 9 i1 (.string ⟨#[]⟩) 1 16 underlying34 y.o.1 y.o.2.1 y.o.2.2.1 y.o.2.2.2 rfl (by decide) _ _ _ rfl X.o ⟨wc.heap.size,0,none⟩ 1 1 [.string tx] rfl rfl (World.news_of_block (heap_alloc_new wc _)) (by simp[Value.oneCell']) (by unfold maxLen;omega) (by omega) G.o.size ?_);intro v' w6 r q A1;have Ad:=p9 r;have Ab:=p9 q;clear r q A1)
     go_roundg (gO - 1)
     case measure=>have:=V.o;omega
     case rel=>
      refine⟨k+1,by simp,by have:=V.o;omega,?_,G.o.grown Ab.o G.o.size fun b n=>(X.o.lt b n).1⟩;rw[I.o]
      simpa [strs] using Ad.o
   ·have Ai:¬(k:Int)<(ns.length:Int):=by omega
    have HE:qv (((ns.take k).map NM.er).map kU=(ns.map NM.er).map kU):=p9 (by rw[uB (by omega)]);obtain rfl:k=ns.length:=by omega
    rw[HE.o] at D;clear P Q;go_wp2_with fail;go_meet
    case rel=>exact⟨D.o,F.o⟩
 case rest=>
  obtain⟨E,n⟩:=hcut;have D:=p9 E;have F:=p9 n;obtain⟨-,g2,-,-⟩:=HG.o wc n;clear E n;go_wp2_with fail;go_loopg [3,7] 0 (fun _ ov iv z=>iv=.int .i64 0/\z.ownsRow W.heap.size 9 1 ov ns.length (strs ((ns.map NM.er).map kU))/\z=wc)
  case atStart=>exact⟨rfl,D.o,rfl⟩
  case round=>
   obtain⟨rfl,E,hz⟩:=hrel;obtain rfl:=hz.symm;have D:=p9 E;clear E;go_wp2_with fail;go_ret;exact EN.mk D.o F.o
structure ml(rl:List eT)(ns:List NM)(last:Int)(pol:List db)(g:wO):Prop where
 pol:lA (rl.map zE) (pol.map er)
 nodes:jP qE (ns.map NM.er) g.ns
 es:g.es=[]
 last:last=g.last
 Sg:g.last=(g.ns.length:Int)
 n40:ns.length<=40
 RQ:g.ns.Pairwise fun a b=>a.num<b.num
 low:∀x∈g.ns,0<x.num/\x.num<=g.last
 ok:∀x∈ns,Rh x/\x.aj.length<=6/\Am x.aj
 rY:rl.length<=6
 AQ:∀x∈rl,x.2.2.length<=1000000
variable {rl:List eT} {ns:List NM} {last:Int} {pol:List db} {g:wO}
theorem ml.len(h:ml rl ns last pol g):ns.length=g.ns.length:=by have:=h.nodes.len;simpa using this
theorem Bn(h:isWord s=true):s.size<=8:=by
 unfold isWord at h;simp only[wa,decide_eq_true_eq] at h;exact h.1.1.2
theorem Hg(h:bI s=true):s.size<=8:=by
 unfold bI at h;simp only[wa] at h;exact Bn h.1.1
theorem GM(h:bB s=true):s.size<=8:=by
 unfold bB at h;simp only[wa] at h;exact Bn h.1
theorem ml.make{q:aI}{S:bF->Bool}{b:Int}(h:ml rl ns last pol g)(s:kG q)(hm:jz S q b g.ns.length=0)(t:Value):ml rl (ns++[⟨last+1,q.ai,t,jg q.aj q.aj.length⟩]) (last+1) pol (xZ S g q b).2.2:=by
 obtain⟨r,hp,i,k,_⟩:=s;have f:=(yq q.aj [] k).1;have hlen:=h.len;have o:¬40<=g.ns.length:=by
  unfold jz at hm;split at hm
  ·cases hm
  ·split at hm
   ·split at hm
    ·cases hm
    ·assumption
   ·cases hm
 have e:(xZ S g q b).2.2=⟨g.ns++[⟨g.last+1,q.ai,0,jS q.aj⟩],g.es,g.last+1⟩:=by unfold xZ;rw[a8 hm]
 have l:=h.Sg;have c:=h.last;rw[e];refine⟨h.pol,?_,h.es,by rw[c],?_,?_,?_,?_,?_,h.rY,h.AQ⟩
 ·rw[vb];have:=h.nodes.snoc (LD (n:=g.last+1) f);rw[c];exact this
 ·simp only[r7,x6];omega
 ·rw[r7,x6];omega
 ·rw[List.pairwise_append];refine⟨h.RQ,List.pairwise_singleton _ _,fun a ha y hy=>?_⟩;rw[List.mem_singleton.1 hy];have:=(h.low a ha).2;show a.num<g.last+1;omega
 ·intro x d;rcases List.mem_append.1 d with d|d
  ·have:=h.low x d;exact⟨this.1,by simp only;omega⟩
  ·rw[List.mem_singleton.1 d];exact⟨by simp only;omega,by simp only;omega⟩
 ·intro x d;rcases List.mem_append.1 d with d|d
  ·exact h.ok x d
  ·rw[List.mem_singleton.1 d];have j:∀p∈jg q.aj q.aj.length,p∈q.aj:=fun p hp=>(tg q.aj).mem_iff.1 hp;refine⟨⟨?_,?_,?_,fun p hpp=>?_⟩,?_,Gm f⟩
   ·show nY (last+1);unfold nY;omega
   ·have:=Hg r;show q.ai.size<=1000;omega
   ·show (jg q.aj q.aj.length).length<=1000;rw[oQ];omega
   ·have m:=hp p (j p hpp);have u:=GM m.1;have hi:=m.2;refine⟨by omega,?_⟩;unfold xL at hi;unfold nY;omega
   ·show (jg q.aj q.aj.length).length<=6;rw[oQ];exact i
theorem Nt{l:List db}{nm:ByteArray}{k:Nat}(hk:k<l.length)(he:l[k].1=nm)(b:∀(j:Nat) (h:j<l.length),j<k->¬l[j].1=nm):kW l nm=some l[k]:=by
 unfold kW;refine rB hk (List.find?_eq_none.2 fun x hx=>?_) (by rw[he];simp);obtain⟨j,a,rfl⟩:=zc hx;rw[v8] at a;rw[List.getElem_take];intro e;exact b j (by omega) (by omega) ((jX (by simpa using e)).trans (jX rfl).symm)
theorem ml.role{nm:ByteArray}{r:Int}(h:ml rl ns last pol g)(f:wK rl (fun x=>x.1=nm) r):(r=-1/\kW pol nm=none)\/∃(k:Nat) (h1:k<rl.length) (b:k<pol.length),r=(k:Int)/\kW pol nm=some pol[k]/\mq (zE rl[k]) (er pol[k]):=by
 have l:rl.length=pol.length:=by have:=h.pol.1;simpa using this
 have hrel:∀(i:Nat) (h1:i<rl.length) (b:i<pol.length),mq (zE rl[i]) (er pol[i]):=fun i h1 b=>by
  have:=h.pol.2 i (by simpa using h1) (by simpa using b)
  rwa [DG,DG] at this
 have a:∀(i:Nat) (h1:i<rl.length) (b:i<pol.length),rl[i].1=pol[i].1:=fun i h1 b=>(hrel i h1 b).1;rcases f with ⟨rfl,d⟩|⟨k,hk,rfl,he,d⟩
 ·refine ad ⟨rfl,?_⟩;unfold kW;refine List.find?_eq_none.2 fun x hx e=>?_;obtain⟨j,c,rfl⟩:=zc hx;refine d rl[j] (sT (by omega)) ?_;show rl[j].1=nm;rw[a j (by omega) c];exact(jX (by simpa using e)).trans (jX rfl).symm
 ·refine a6 ⟨k,hk,by omega,rfl,?_,hrel k hk (by omega)⟩;refine Nt (by omega) ?_ fun j c hjk=>?_
  ·rw[<-a k hk (by omega)];exact he
  ·rw[<-a j (by omega) c];exact d j (by omega) hjk
end
end Go.Proofs.YtbfmmmjkjhjleaaGreatDoor
