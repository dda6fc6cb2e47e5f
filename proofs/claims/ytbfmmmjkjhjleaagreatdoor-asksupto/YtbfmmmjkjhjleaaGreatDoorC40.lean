/- Mine. -/
import Derived.Test.YtbfmmmjkjhjleaaGreatDoorC37
import Derived.Test.YtbfmmmjkjhjleaaGreatDoorC27
import Derived.Test.YtbfmmmjkjhjleaaGreatDoorC35
set_option maxRecDepth 100000
set_option maxHeartbeats 0
namespace Go.Proofs.YtbfmmmjkjhjleaaGreatDoor
open Go.Proofs.Tryz
variable {sm:List NM} {r:List Nat} {α β:Type} {a:Nat} {nm:ByteArray}
section
open Go.RowKit
theorem DZ{P:Program}{ops:Array Oper}{rest:List Oper}{op:Oper}{a:Act}{w:World}{Q:Exit->Act->World->Prop}{T:TypeId}{x:Operand}{cs:Array Value}(b:op.guard=none)(c:op.op=.box T x)(d:a.eval x=.agg cs)(h:wpList P ops Q rest (a.put op.dst (.pointer (some ⟨w.heap.size,0,none⟩))) (w.alloc (.cells cs T))):wpList P ops Q (op::rest) a w:=
 wpList_plain b fun _ hK=>by
  unfold Oper.wp execOp;simp only[c,d,Instr.box,newVar];go_simp;exact hK _ _ h
theorem Dh(q:aI)(vs vc vi vp a:Value)(bud:Int)(sm:List NM){sa ca ia pa r:Option Addr}{l m n o p g h i j k:Nat}(h1:vs=.slice sa l g)(b:vc=.slice ca m h)(c:vi=.slice ia n i)(d:vp=.slice pa o j)(f:a=.slice r p k):prog.built 199 [(0,.agg (qC q vs vc vi vp)),(1,a),(2,.slice none 0 0),(4,.int .i64 bud)]=some (sC ⟨q,vs,vc,vi,vp,a,sm,bud⟩ 0 (.slice none 0 0)):=by
 subst h1 b c d f
 kernel_rfl
theorem sO{ops:Array Oper}{rest:List Oper}{op:Oper}{a:Act}{w:World}{Q:Exit->Act->World->Prop}{x0 x1 x2 x3:Operand}{q:aI}{vs vc vi vp b:Value}{bud:Int}(c:op.guard=none)(k:op.op=.build 199 #[(0,x0),(1,x1),(2,x2),(4,x3)])
  (d:prog.built 199 [(0,.agg (qC q vs vc vi vp)),(1,b),(2,.slice none 0 0),(4,.int .i64 bud)]=some (sC ⟨q,vs,vc,vi,vp,b,sm,bud⟩ 0 (.slice none 0 0)))
  (f:a.eval x0=.agg (qC q vs vc vi vp)) (h1:a.eval x1=b) (g:a.eval x2=.slice none 0 0) (j:a.eval x3=.int .i64 bud)
  (h:wpList prog ops Q rest (a.put op.dst (.agg (sC ⟨q,vs,vc,vi,vp,b,sm,bud⟩ 0 (.slice none 0 0)))) w):wpList prog ops Q (op::rest) a w:=by
 have he:((#[(0,x0),(1,x1),(2,x2),(4,x3)]:Array (Nat × Operand)).map fun (i,x)=>(i,a.eval x)).toList=[(0,.agg (qC q vs vc vi vp)),(1,b),(2,.slice none 0 0),(4,.int .i64 bud)]:=by
  simp only[List.map_toArray,xd,Cf,f,h1,g,j]
 exact wpList_build c _ _ k (by rw[he,d];rfl) (by rw[he,d];exact h)
def fk(F:SF):Int × List (List Nat):=kI F F.q.ah.length [] (0,[])
theorem Qh{S:Nat}{F:SF}{W0:World}(c:0<F.q.ah.length)(b:0<=F.bud/\F.bud<=5000)(a:∀s,F.q.ah[0]?=some s->s.type.toList.isEmpty=true):∀n,vt S F W0 n
 | 0=>Rp c b
 | n+1=>Ro (Qh c b a n) b a
def KI(q:aI)(vs vc vi vp:Value)(bud:Int)(rs:List dX)(ns:List NM)(e:Ending)(w:World):Prop:=∃(S:Nat) (nv2:Value) (sm:List NM) (W0:World) (rv2:Value) (vals:List Value),e=.returned (.tuple #[.pointer (some ⟨S,0,none⟩),.bool (decide ((fk ⟨q,vs,vc,vi,vp,nv2,sm,bud⟩).1<=bud))])/\sm.map NM.er=me rs (ns.map NM.er)/\kM S ⟨q,vs,vc,vi,vp,nv2,sm,bud⟩ W0 (fk ⟨q,vs,vc,vi,vp,nv2,sm,bud⟩).1 rv2 vals (fk ⟨q,vs,vc,vi,vp,nv2,sm,bud⟩).2 w
theorem OI{gb:Nat}{rv nv:Value}{rl:List eT}{ns:List NM}{last:Int}{W:World}{u:Value}{rs:List dX}{q:aI}{vs vc vi vp:Value}{bud:Int}(h:RG gb rv rl nv ns last W)(hs:dj W 3 u rs.length (rs.flatMap DU))(hr:rs.length<=1000000)(hn:ns.length<=40)(hp:∀x∈ns,x.aj.length<=1000)(I:ED W q vs vc vi vp)(R:0<q.ah.length/\q.ah.length<=6)(A7:q.aq.length<=1000)(A8:q.af.length<=6)(N:0<=bud/\bud<=5000)(c:∀s,q.ah[0]?=some s->s.type.toList.isEmpty=true):
  Calls prog 62 #[.pointer (some ⟨gb,0,none⟩),.agg #[.string nm,u],.agg (qC q vs vc vi vp),.int .i64 bud] W fun e W'=>KI q vs vc vi vp bud rs ns e W'/\Below W.heap.size W W':=by
 obtain⟨sa,sc,T,-⟩:=bi I.rs;obtain⟨ca,cc,U,-⟩:=bi I.rc;obtain⟨ia,ic,V,-⟩:=bi I.rt;obtain⟨pa,pc,Z,-⟩:=bi I.rp;have E:=(r5 W.heap.size W).alloc (rm _) (.cells #[.string nm,u] 81);have H:=p9 (E.alloc E.size (.cells (qC q vs vc vi vp) 49));have K:=p9 ((Loc.new W #[.string nm,u] 81).alloc (.cells (qC q vs vc vi vp) 49));have HQ:=p9 (Loc.new (W.alloc (.cells #[.string nm,u] 81)) (qC q vs vc vi vp) 49);have HG:=p9 (h.below H.o);have HS:=p9 (hs.below H.o);have C:=p9 (I.below H.o);have HV:=p9 (And.intro T (And.intro U (And.intro V Z)));have HP:=p9 hp;have D:=p9 R;have HF:=p9 c;have J:=p9 N;clear h hs I hp E T U V Z R c;go_enter func62,ntmps62
 go_upto_region 1 with fail;obtain⟨Y,hY⟩:∃Y,Y=(W.alloc (.cells #[.string nm,u] 81)).heap.size:=⟨_,rfl⟩;rw[<-hY] at HQ;rw[size_alloc] at hY;obtain⟨X,hX⟩:∃X,X=W.heap.size:=⟨_,rfl⟩;rw[<-hX] at K hY⊢;subst hY;clear hX;generalize (W.alloc (.cells #[.string nm,u] 81)).alloc (.cells (qC q vs vc vi vp) 49)=W1 at H K HQ HG HS C⊢;have r0:=K.o.at_ 0 (.string nm) rfl;have r1:=K.o.at_ 1 u rfl;go_wp2_with fail;refine(Rq (nm:=nm) HG.o HS.o hr (by omega) HP.o).mono ?_;rintro e j ⟨⟨b,sm,rfl,O,Q⟩,t⟩;have B:=p9 O;have p:=p9 Q;have A4:=p9 (HQ.o.grown (ag t none) (by simp));have g:=p9 (C.o.below t);have A:=p9 (H.o.trans (t.mono H.o.size));clear O Q t r0 r1 K HQ HG HS C;have L:qv (sm.length<=40/\∀x∈sm,x.aj.length<=1000):=p9 (by
  have e1:sm.length=(me rs (ns.map NM.er)).length:=by rw[<-p.o,tB]
  constructor
  ·rw[e1];unfold me;rw[tB];exact r8 (NK _ _) (by rw[tB];exact hn)
  ·intro x hx;have h1:x.er∈me rs (ns.map NM.er):=by rw[<-p.o];exact List.mem_map.2 ⟨x,hx,rfl⟩
   unfold me at h1;obtain⟨y,hy,he⟩:=List.mem_map.1 h1;obtain⟨z,hz,rfl⟩:=List.mem_map.1 (List.mem_filter.1 hy).1;have h2:x.aj=iN rs z.ai z.aj:=(congrArg mz.aj he).symm;rw[h2];exact r8 (NK _ _) (HP.o z hz))
 have A3:qv (wE ⟨q,vs,vc,vi,vp,b,sm,bud⟩ j):=p9 ⟨g.o.rs,g.o.rc,g.o.rt,aJ B.o.row (Gt sm),fun x hx=>aJ (B.o.Ni x hx) (nf _),D.o.2,A7,A8,L.o.1,L.o.2⟩;obtain⟨na,nc,P⟩:=aV B.o.row;have A1:=p9 (Dh q vs vc vi vp b bud sm HV.o.1 HV.o.2.1 HV.o.2.2.1 HV.o.2.2.2 P);clear P;go_upto_region 2 with fail;refine wp_region_lit ?_;refine wpList_load_mid rfl 49 _ rfl (X+1) 0 rfl (qC q vs vc vi vp).toList _ A4.o.range underlying49 rfl (by rw[Tryz.bp];rfl) ?_;refine ej rfl rfl ?_;refine ej rfl rfl ?_;refine ej rfl rfl ?_;simp only[DI];go_simp;refine sO (x0:=.tmp 19) (x1:=.tmp 20) (x2:=.tmp 21) (x3:=.tmp 22) rfl rfl A1.o (by simp only[Act.eval];rfl) (by simp only[Act.eval];rfl) (by simp only[Act.eval];rfl) (by simp only[Act.eval];rfl) ?_;obtain⟨F,hF⟩:∃F:SF,F=⟨q,vs,vc,vi,vp,b,sm,bud⟩:=⟨_,rfl⟩;have f:=p9 hF;rw[<-hF];clear hF;refine DZ rfl rfl (by simp only[Act.eval];rfl) ?_;go_simp;have l:qv (kM j.heap.size F j 0 (.slice none 0 0) [] [] (j.alloc (.cells (sC F 0 (.slice none 0 0)) 199))):=p9 ⟨Loc.new j _ _,(by rw[f.o];exact A3.o),(r5 _ _).alloc (rm _) _,rm _,tj _ _ _ _,fun i hi=>absurd hi (by simp)⟩;have a:=p9 (A.o.alloc A.o.size (.cells (sC F 0 (.slice none 0 0)) 199));have d:qv (F.bud=bud/\F.q=q):=p9 (by rw[f.o];exact⟨rfl,rfl⟩);obtain⟨S,hS⟩:∃S,S=j.heap.size:=⟨_,rfl⟩;have A5:=p9 (r8 A.o.size (Nat.le_of_eq hS.symm));rw[<-hS] at l⊢;clear hS;generalize j.alloc (.cells (sC F 0 (.slice none 0 0)) 199)=W3 at l a⊢;go_wp2_with fail;refine(Qh (S:=S) (F:=F) (W0:=j) (by rw[d.o.2];exact D.o.1) (by rw[d.o.1];exact J.o) (by rw[d.o.2];exact HF.o) F.q.ah.length [] (.slice none 0 0) 0 (.slice none 0 0) [] [] W3 l.o (tj _ _ _ _) (fun _=>rfl) (by simp) (fun i hi=>by cases hi) ⟨?_,?_⟩).mono ?_
 ·rw[bk (by rw[d.o.2];have:=D.o.1;omega)];simp
 ·rw[d.o.1];have:=J.o.1;simp only;omega
 rintro e M ⟨rfl,A0,w,ha,hk,hg⟩;have A2:qv (kI F F.q.ah.length [] (0,[])=fk ⟨q,vs,vc,vi,vp,b,sm,bud⟩):=p9 (by rw[f.o];rfl);rw[A2.o] at ha;have m:=p9 ha;have n:qv (Below W.heap.size W M):=p9 ⟨hk.os.trans a.o.os,hk.tape.trans a.o.tape,hk.output.trans a.o.output,r8 a.o.size hk.size,fun k hk0=>by
  rw[hk.block k (vH hk0 a.o.size) ?_,a.o.block k hk0];rintro (e|e)
  ·have:=A5.o;omega
  ·cases e⟩
 clear ha hk hg l a;obtain⟨st,G⟩:∃st,fk ⟨q,vs,vc,vi,vp,b,sm,bud⟩=st:=⟨_,rfl⟩;have r:=p9 G;rw[G] at m;clear G;have A9:=m.o.bJ.at_ 19 (.int .i64 st.1) rfl;go_upto_region 4 with fail;by_cases A6:st.1<=bud
 ·go_quiet (fail)
  go_wp2_with fail;refine bodyPost_ret (v:=.tuple #[.pointer (some ⟨S,0,none⟩),.bool true]) (by simp[results,results62,go_sem]) rfl ⟨⟨S,b,sm,j,A0,w,?_,p.o,?_⟩,n.o.trans ((Joins.below_draws _ M nq).mono n.o.size)⟩
  ·rw[r.o,decide_eq_true A6]
  ·rw[r.o,<-f.o];exact m.o.below (Joins.below_draws _ M nq)
 ·go_quiet (fail)
  go_wp2_with fail;refine bodyPost_ret (v:=.tuple #[.pointer (some ⟨S,0,none⟩),.bool false]) (by simp[results,results62,go_sem]) rfl ⟨⟨S,b,sm,j,A0,w,?_,p.o,?_⟩,n.o.trans ((Joins.below_draws _ M nq).mono n.o.size)⟩
  ·rw[r.o,decide_eq_false (by omega)]
  ·rw[r.o,<-f.o];exact m.o.below (Joins.below_draws _ M nq)
structure Sl(a:NM)(b:aH):Prop where
 num:a.num=b.num
 ai:a.ai=b.ai
 bf:∀k,fs a.aj k=b.bf k
structure nO(sm:List NM)(sn:List aH):Prop where
 len:sm.length=sn.length
 each:∀(i:Nat) (h:i<sm.length) (h2:i<sn.length),Sl sm[i] sn[i]
 apart:∀(i j:Nat) (h:i<sn.length) (h2:j<sn.length),sn[i].num=sn[j].num->i=j
def jf(sn:List aH)(i:Nat):Int:=(sn[i]?).elim 0 fun x=>x.num
def eO(sn:List aH):List aK->List Nat->Row
 | s::ss,i::r=>fun nm=>if nm=s.name then some (jf sn i) else eO sn ss r nm
 | _,_=>oU
theorem qV{a:List aH}{i:Nat}(h:i<a.length):jf a i=a[i].num:=by
 unfold jf;rw[r6 h]
 rfl
theorem yX{a:List aH}(d:nO sm a){i:Nat}(h:i<a.length):nodeAt a (jf a i)=some a[i]:=by
 rw[qV h];unfold nodeAt;cases b:a.find? (fun x=>x.num==a[i].num) with
 | none=>
  have:=List.find?_eq_none.1 b a[i] (sT h);simp at this
 | some x=>
  have f:=List.find?_some b;obtain⟨j,c,rfl⟩:=zc (Ms b);have e:=d.apart j i c h (by simpa using f);subst e
  rfl
theorem xv(a:List aH)(ss:List aK):eO a ss []=oU:=by cases ss<;>rfl
def Qk(ss:List aK)(r:List Nat):Prop:=∀(i j:Nat) (h1:i<r.length) (h2:j<r.length) (h3:i<ss.length) (h4:j<ss.length),ss[i].name=ss[j].name->r[i]=r[j]
theorem CK(d:List aH):∀{ss:List aK} {r:List Nat} {nm:ByteArray} {k:Nat} (hk:k<r.length) (c:k<ss.length),Qk ss r->ss[k].name=nm->eO d ss r nm=some (jf d r[k])
 | [],_,_,_,_,c,_,_=>absurd c (by simp)
 | s::ss,[],_,_,hk,_,_,_=>absurd hk (by simp)
 | s::ss,i::r,nm,k,hk,c,hc,he=>by
  unfold eO;by_cases hn:nm=s.name
  ·rw[a8 hn];have:=hc 0 k (by simp) hk (by simp) c (by rw[he,hn];rfl);rw[<-this]
   rfl
  ·rw[bk hn]
   match k,hk,c,he with
   | 0,_,_,he=>exact absurd he.symm hn
   | k+1,hk,c,he=>exact CK d (ss:=ss) (r:=r) (by simpa using hk) (by simpa using c) (fun a b h1 h2 h3 h4 e=>hc (a+1) (b+1) (by simpa using h1) (by simpa using h2) (by simpa using h3) (by simpa using h4) e) he
theorem Az(b:List aH):∀{ss:List aK} {r:List Nat} {nm:ByteArray},(∀(k:Nat),k<r.length->∀(a:k<ss.length),ss[k].name≠nm)->eO b ss r nm=none
 | [],_,_,_=>by unfold eO;rfl
 | s::ss,[],_,_=>by unfold eO;rfl
 | s::ss,i::r,nm,h=>by
  unfold eO;rw[bk (fun e=>h 0 (by simp) (by simp) e.symm)];exact Az b fun k h1 a=>h (k+1) (by simpa using h1) (by simpa using a)
theorem Cp(b:List aH):∀{ss:List aK} {r:List Nat} {nm:ByteArray},(∃(k:Nat) (_:k<r.length) (a:k<ss.length),ss[k].name=nm)->eO b ss r nm=some (jf b (tm ss r nm))
 | [],_,_,⟨_,_,h,_⟩=>absurd h (by simp)
 | s::ss,[],_,⟨_,h,_,_⟩=>absurd h (by simp)
 | s::ss,i::r,nm,⟨k,h1,a,he⟩=>by
  unfold eO tm;by_cases hn:nm=s.name
  ·rw[a8 hn,a8 hn.symm]
  ·rw[bk hn,bk (fun e=>hn e.symm)]
   match k,h1,a,he with
   | 0,_,_,he=>exact absurd he.symm hn
   | k+1,h1,a,he=>exact Cp b ⟨k,by simpa using h1,by simpa using a,he⟩
theorem vL(b:List aH):∀{ss:List aK} {r:List Nat} {a:Nat} (c:r.length<ss.length) (nm:ByteArray),eO b ss (r++[a]) nm=if (eO b ss r nm).isSome then eO b ss r nm else if nm=ss[r.length].name then some (jf b a) else none
 | [],_,_,c,_=>absurd c (by simp)
 | s::ss,[],a,_,nm=>by
  rw[xv];show eO b (s::ss) [a] nm=if (oU nm).isSome=true then oU nm else if nm=s.name then some (jf b a) else none
  unfold eO;rw[xv];simp[oU]
 | s::ss,i::r,a,c,nm=>by
  rw[tw];unfold eO;by_cases hn:nm=s.name
  ·rw[a8 hn,a8 hn]
   rfl
  ·rw[bk hn,bk hn,vL b (by simpa using c) nm]
   rfl
theorem NQ{b:List aH}{ss:List aK}(d:r.length<ss.length)(h:eO b ss r ss[r.length].name=none):eO b ss (r++[a])=fI (eO b ss r) ss[r.length].name (some (jf b a)):=by
 funext nm
 rw[vL b d nm];unfold fI;by_cases c:nm=ss[r.length].name
 ·rw[a8 c,a8 c,c,h]
  rfl
 ·rw[bk c,bk c];cases eO b ss r nm<;>rfl
theorem ML{b:List aH}{ss:List aK}(d:r.length<ss.length)(h:eO b ss r ss[r.length].name=some (jf b a)):eO b ss (r++[a])=eO b ss r/\fI (eO b ss r) ss[r.length].name (some (jf b a))=eO b ss r:=by
 constructor
 ·funext nm
  rw[vL b d nm];by_cases c:nm=ss[r.length].name
  ·rw[c,h]
   rfl
  ·rw[bk c];cases eO b ss r nm<;>rfl
 ·funext nm
  unfold fI;by_cases c:nm=ss[r.length].name
  ·rw[a8 c,c,h]
  ·rw[bk c]
theorem CT(f:Row)(k:ByteArray)(u v:Option Int):fI (fI f k u) k v=fI f k v:=by
 funext s
 unfold fI;by_cases h:s=k
 ·rw[a8 h,a8 h]
 ·rw[bk h,bk h,bk h]
theorem GZ{f:Row}{k:ByteArray}(h:f k=none):fI f k none=f:=by
 funext s
 unfold fI;by_cases e:s=k
 ·rw[a8 e,e,h]
 ·rw[bk e]
def lj(ss:List aK)(nm:ByteArray):Prop:=nm.toList.isEmpty=true\/∃(k:Nat) (h:k<ss.length),ss[k].name=nm
theorem Iz{b:List aH}{ss:List aK}{t:gP}(d:nO sm b)(l:r.length=ss.length)(c:∀i∈r,i<b.length)(j:lj ss t.name):nM sm ss r t=jj b t ((eO b ss r t.name).getD 0):=by
 unfold nM jj;by_cases he:t.name.toList.isEmpty=true
 ·rw[a8 he,a8 he]
 ·rw[bk he,bk he];rcases j with h|⟨k,hk,g⟩
  ·exact absurd h he
  ·have f:0<b.length:=Nat.lt_of_le_of_lt (tJ _) (c r[k] (sT (by omega)));have a:=yS f (ss:=ss) (nm:=t.name) c;rw[Cp b ⟨k,by omega,hk,g⟩,xp];unfold valueOf;rw[yX d a,r6 (by rw[d.len];exact a)];simp only[A5,Option.bind_some];exact(d.each _ _ a).bf _
theorem Im{f:List aH}{ss:List aK}{c:bW}(h:nO sm f)(g:r.length=ss.length)(d:∀i∈r,i<f.length)(h1:lj ss c.a.name)(j:lj ss c.b.name):mE sm ss r c=kS f (eO f ss r) c:=by
 unfold mE kS;rw[Ou,Iz h g d h1,Iz h g d j]
theorem Pj{b:List aH}{ss:List aK}(m:nO sm b)(q:r.length<ss.length)(t:Qk ss r)(o:∀i∈r,i<b.length)(f:a<b.length):qD sm ss r a=!(mw b ss[r.length] (eO b ss r ss[r.length].name) (jf b a)):=by
 have l:N1 sm ss[r.length] a=nF b (jf b a) ss[r.length].ai:=by
  unfold N1 nF;have g:a<sm.length:=by rw[m.len];exact f
  rw[yX m f,r6 g];simp only[A5];rw[(m.each a g f).ai]
  congr 1
  rw[Ft];simp only[decide_eq_true_eq,beq_iff_eq];constructor
  ·intro e;rw[e]
  ·intro e;rw[ByteArray.toList_eq,ByteArray.toList_eq] at e;exact(ByteArray.ext (Array.ext' e)).symm
 unfold qD mw;rw[r6 q];simp only[A5];rw[l,Bool.not_or,Bool.not_not,Bool.and_comm]
 congr 1
 by_cases n:∃(k:Nat) (h1:k<r.length) (d:k<ss.length),ss[k].name=ss[r.length].name
 ·obtain⟨k,h1,d,he⟩:=n;rw[CK b h1 d t he];simp only[B1,xp,Bool.true_and];rw[Ft,oX (Nat.le_of_lt q)];have hk:=o r[k] (sT h1);constructor
  ·intro h;have:=h k h1 d he;simp[this]
  ·intro h j p c e;have s:jf b a=jf b r[k]:=by simpa using h
   rw[qV f,qV hk] at s;rw[m.apart a r[k] f hk s];exact t j k p h1 c d (e.trans he.symm)
 ·rw[Az b (fun k h1 d e=>n ⟨k,h1,d,e⟩)];simp only[F1,Bool.false_and,GS];rw[oX (Nat.le_of_lt q)];exact fun j p c e=>absurd ⟨j,p,c,e⟩ n
variable {F:SF} {sn:List aH}
theorem oC(rec:List Nat->Int × List (List Nat)->Int × List (List Nat))(r:List Nat):∀(L:List Nat) (st:Int × List (List Nat)),F.bud<st.1->L.foldl (eE F rec r) st=st
 | [],_,_=>rfl
 | a::L,st,h=>by
  have e:eE F rec r st a=st:=by
   unfold eE;rw[bk (fun h2=>absurd h2.2 (by omega))]
  rw[L2,e];exact oC rec r L st h
theorem zl:∀(n:Nat) (r:List Nat) (st:Int × List (List Nat)),F.bud<st.1->F.bud<(kI F n r st).1
 | 0,r,st,h=>by
  unfold kI;split
  ·exact h
  ·exact h
 | n+1,r,st,h=>by
  unfold kI;cases F.q.ah[r.length]? with
  | none=>exact h
  | some x=>
   simp only[A5];split
   ·rw[oC _ _ _ _ h];exact h
   ·split
    ·have:=oC (kI F n) r [r.getLast?.getD 0] st h;simp only[L2,List.foldl_nil] at this;rw[this];exact h
    ·exact h
theorem zx{rec:mO->mO}{skip:Int->Bool}{nm:ByteArray}:∀(l:List Int) (a:mO),a.left<0->(fK rec skip nm l a).1.left<0
 | [],_,h=>h
 | e::l,a,h=>by
  unfold fK;split
  ·exact zx l a h
  ·rw[bk (by omega)];show a.left - 1<0;omega
theorem JU(kind:ByteArray)(least a:Int)(n:Nat)(x:gh)(left:Int)(h:0<=left):fG [] kind least a (n+2) [x] left=(if least<=(x.gI:Int) then [x.at_] else [],left):=by
 have e0:∀m,fG [] kind least a m [] left=([],left):=fun m=>by cases m<;>rfl
 unfold fG;rw[bk (by omega)];have b:qe x kind 0 [] left=([],left):=rfl;rw[b];simp only[tV];rw[e0];simp only[x8];split<;>rfl
theorem wj(cl:List bW):∀(l:List aK) (prev:ByteArray) (a:mO),a.left<0->(bZ sn [] cl l prev a).left<0
 | [],prev,a,h=>by
  unfold bZ;split
  ·exact h
  ·exact h
 | s::l,prev,a,h=>by
  have he:(fT sn [] s ((a.f prev).getD 0) a.left).2<0:=by
   unfold fT;split
   ·exact h
   ·have e:a.left.toNat+2=(a.left.toNat+1)+1:=rfl;rw[e];unfold fG;rw[a8 h];exact h
  have b:=zx (rec:=fun t=>bZ sn [] cl l s.name t) (skip:=mw sn s (a.f s.name)) (nm:=s.name) (fT sn [] s ((a.f prev).getD 0) a.left).1 ⟨(fT sn [] s ((a.f prev).getD 0) a.left).2,a.f,a.rows⟩ he;unfold bZ;simp only;split
  ·exact b
  ·split
   ·exact b
   ·exact b
def AM(F:SF)(sn:List aH)(f:Row)(st:Int × List (List Nat))(ch:mO):Prop:=(st.1<=F.bud/\ch.left=F.bud - st.1/\ch.f=f/\ch.rows=st.2.map (eO sn F.q.ah))\/(F.bud<st.1/\ch.left<0)
def Lq(F:SF)(sn:List aH)(nm:ByteArray)(f:Row)(st:Int × List (List Nat))(ch:mO):Prop:=(st.1<=F.bud/\ch.left=F.bud - st.1/\(∀v,fI ch.f nm v=fI f nm v)/\((f nm).isSome=true->ch.f=f)/\ch.rows=st.2.map (eO sn F.q.ah))\/(F.bud<st.1/\ch.left<0)
theorem Ns{ss:List aK}(g:r.length<ss.length)(l:Qk ss r)(c:qD sm ss r a=true):Qk ss (r++[a]):=by
 unfold qD at c;rw[r6 g] at c;simp only[A5,wa] at c;have h:=(oX (Nat.le_of_lt g)).1 c.2;intro i j h1 k d f e;rw[r7,x6] at h1 k;rcases ua i r.length with hi|hi
 ·rcases ua j r.length with b|b
  ·rw[F5 hi,F5 b];exact l i j hi b d f e
  ·obtain rfl:j=r.length:=by omega
   rw[F5 hi,GX (rm _)];simp only[F3,r9];exact h i hi d e
 ·obtain rfl:i=r.length:=by omega
  rcases ua j r.length with b|b
  ·rw[F5 b,GX (rm _)];simp only[F3,r9];exact(h j b f e.symm).symm
  ·obtain rfl:j=r.length:=by omega
   rfl
theorem uy{r:List Nat}{n:Nat}{rec:mO->mO}(u:nO F.sm sn)(p:r.length<F.q.ah.length)(s:Qk F.q.ah r)(j:∀i∈r,i<sn.length)
  (ih:∀a st d,a<sn.length->Qk F.q.ah (r++[a])->AM F sn (eO sn F.q.ah (r++[a])) st d->AM F sn (eO sn F.q.ah (r++[a])) (kI F n (r++[a]) st) (rec d)):
  ∀(L:List Nat) (st:Int × List (List Nat)) (d:mO),(∀a∈L,a<sn.length)->Lq F sn F.q.ah[r.length].name (eO sn F.q.ah r) st d->
   Lq F sn F.q.ah[r.length].name (eO sn F.q.ah r) (L.foldl (eE F (kI F n) r) st) (fK rec (mw sn F.q.ah[r.length] (eO sn F.q.ah r F.q.ah[r.length].name)) F.q.ah[r.length].name (L.map (jf sn)) d).1/\((fK rec (mw sn F.q.ah[r.length] (eO sn F.q.ah r F.q.ah[r.length].name)) F.q.ah[r.length].name (L.map (jf sn)) d).2=true->(fK rec (mw sn F.q.ah[r.length] (eO sn F.q.ah r F.q.ah[r.length].name)) F.q.ah[r.length].name (L.map (jf sn)) d).1.left<0)
 | [],st,d,_,h=>⟨h,fun e=>by cases e⟩
 | a::L,st,d,hL,h=>by
  have ha:=hL a (by simp);have l:∀b∈L,b<sn.length:=fun b k=>hL b (by simp[k]);have g:=Pj u p s j ha;rw[L2,xd];rcases h with ⟨h1,w,y,B,z⟩|⟨h1,w⟩
  ·cases c:mw sn F.q.ah[r.length] (eO sn F.q.ah r F.q.ah[r.length].name) (jf sn a) with
   | true=>
    rw[c] at g;have e:eE F (kI F n) r st a=st:=by
     unfold eE;rw[bk (fun h=>by rw[g] at h;exact absurd h.1 (by simp))]
    unfold fK;rw[e,a8 c];exact uy u p s j ih L st d l (ad ⟨h1,w,y,B,z⟩)
   | false=>
    rw[c] at g;have e:eE F (kI F n) r st a=kI F n (r++[a]) (st.1+1,st.2):=by
     unfold eE;rw[a8 ⟨g,h1⟩]
    have x:=Ns p s g;have o:fI d.f F.q.ah[r.length].name (some (jf sn a))=eO sn F.q.ah (r++[a])/\((eO sn F.q.ah r F.q.ah[r.length].name).isSome=true->eO sn F.q.ah (r++[a])=eO sn F.q.ah r)/\∀v,fI (eO sn F.q.ah (r++[a])) F.q.ah[r.length].name v=fI (eO sn F.q.ah r) F.q.ah[r.length].name v:=by
     rw[y];cases k:eO sn F.q.ah r F.q.ah[r.length].name with
     | none=>
      rw[NQ p k];exact⟨rfl,fun e=>absurd e (by simp),fun v=>CT _ _ _ _⟩
     | some m=>
      have hm:m=jf sn a:=by
       unfold mw at c;rw[k] at c;simp only[B1,Bool.true_and,xp,L5,bne_eq_false_iff_eq] at c;exact c.1.symm
      rw[hm] at k;have t:=ML p k;rw[t.1];exact⟨t.2,fun _=>rfl,fun _=>rfl⟩
    unfold fK;rw[e,bk (by simp[c])];by_cases A:0<=d.left - 1
    ·rw[a8 A];refine uy u p s j ih L _ _ l ?_;rw[o.1];rcases ih a (st.1+1,st.2) ⟨d.left - 1,eO sn F.q.ah (r++[a]),d.rows⟩ ha x (ad ⟨by simp only;omega,by simp only;omega,rfl,z⟩) with ⟨g1,g2,g3,g4⟩|⟨g1,g2⟩
     ·exact ad ⟨g1,g2,fun v=>by rw[g3];exact o.2.2 v,fun k=>by rw[g3];exact o.2.1 k,g4⟩
     ·exact a6 ⟨g1,g2⟩
    ·rw[bk A];have t:F.bud<(kI F n (r++[a]) (st.1+1,st.2)).1:=zl n _ _ (by simp only;omega);rw[oC _ _ _ _ t];exact⟨a6 ⟨t,by simp only;omega⟩,fun _=>by simp only;omega⟩
  ·have e:eE F (kI F n) r st a=st:=by
    unfold eE;rw[bk (fun h=>absurd h.2 (by omega))]
   rw[e];unfold fK;split
   ·exact uy u p s j ih L st d l (a6 ⟨h1,w⟩)
   ·rw[bk (by omega),oC _ _ _ _ h1];exact⟨a6 ⟨h1,by simp only;omega⟩,fun _=>by simp only;omega⟩
theorem GL(a:List aH):(List.range a.length).map (jf a)=a.map fun x=>x.num:=by
 refine LX (by simp) fun i h1 h2=>?_;rw[DG,DG,List.getElem_range,qV (by simpa using h2)]
theorem Na(w:nO F.sm sn)(j:∀c∈F.q.aq,lj F.q.ah c.a.name/\lj F.q.ah c.b.name)(g:∀s,F.q.ah[0]?=some s->s.type.toList.isEmpty=true):∀(n:Nat) (r:List Nat) (prev:ByteArray) (st:Int × List (List Nat)) (d:mO),r.length+n=F.q.ah.length->Qk F.q.ah r->(∀i∈r,i<sn.length)->(0<r.length->∀(k:r.length - 1<F.q.ah.length),prev=F.q.ah[r.length - 1].name)->AM F sn (eO sn F.q.ah r) st d->AM F sn (eO sn F.q.ah r) (kI F n r st) (bZ sn [] F.q.aq (F.q.ah.drop r.length) prev d)
 | 0,r,prev,st,d,hl,hc,hin,hp,h=>by
  rcases h with ⟨h1,k,h3,h4⟩|⟨h1,k⟩
  ·rw[BS (by omega)];unfold kI bZ;have he:F.q.aq.all (mE F.sm F.q.ah r)=F.q.aq.all (kS sn d.f):=by
    rw[h3,Ft,List.all_eq_true,List.all_eq_true];exact⟨fun h c hcm=>by rw[<-Im w (by omega) hin (j c hcm).1 (j c hcm).2];exact h c hcm,fun h c hcm=>by rw[Im w (by omega) hin (j c hcm).1 (j c hcm).2];exact h c hcm⟩
   rw[he];split
   ·refine ad ⟨h1,k,h3,?_⟩;simp only[vb,xd,Cf];rw[h4,h3]
   ·exact ad ⟨h1,k,h3,h4⟩
  ·exact a6 ⟨zl 0 r st h1,wj _ _ _ _ k⟩
 | n+1,r,prev,st,d,hl,hc,hin,hp,h=>by
  rcases h with ⟨h1,k,h3,h4⟩|⟨h1,k⟩
  ·have m:r.length<F.q.ah.length:=by omega
   have ih:∀a st d,a<sn.length->Qk F.q.ah (r++[a])->AM F sn (eO sn F.q.ah (r++[a])) st d->AM F sn (eO sn F.q.ah (r++[a])) (kI F n (r++[a]) st) (bZ sn [] F.q.aq (F.q.ah.drop (r.length+1)) F.q.ah[r.length].name d):=fun a st d ha hca u=>by
    have:=Na w j g n (r++[a]) F.q.ah[r.length].name st d (by rw[r7,x6];omega) hca (fun i hi=>by
     rcases List.mem_append.1 hi with hi|hi
     ·exact hin i hi
     ·rw[List.mem_singleton.1 hi];exact ha) (fun _ k=>by simp) u
    rwa [r7,x6] at this
   have u:Lq F sn F.q.ah[r.length].name (eO sn F.q.ah r) st ⟨d.left,d.f,d.rows⟩:=ad ⟨h1,k,fun v=>by rw[h3],fun _=>h3,h4⟩
   -- the ends on both sides
   have o:∃L:List Nat,(∀a∈L,a<sn.length)/\kI F (n+1) r st=L.foldl (eE F (kI F n) r) st/\fT sn [] F.q.ah[r.length] ((d.f prev).getD 0) d.left=(L.map (jf sn),d.left):=by
    unfold kI;rw[r6 m];simp only[A5];unfold fT;by_cases z:F.q.ah[r.length].type.toList.isEmpty=true
    ·refine⟨List.range sn.length,fun a ha=>List.mem_range.1 ha,by rw[a8 z,w.len],?_⟩;rw[a8 z,GL]
    ·rw[bk z,bk z,JU _ _ _ _ _ _ (by omega)];have C:0<r.length:=Nat.pos_of_ne_zero fun e=>z (g _ (by rw[<-e];exact r6 m));have p:r.getLast?.getD 0=r[r.length - 1]:=by rw[List.getLast?_eq_getElem?,r6 (by omega)];rfl
     have E:(d.f prev).getD 0=jf sn r[r.length - 1]:=by
      rw[h3,hp C (by omega),CK sn (show r.length - 1<r.length by omega) (show r.length - 1<F.q.ah.length by omega) hc rfl]
      rfl
     rw[E,p];by_cases hle:F.q.ah[r.length].least<=0
     ·refine⟨[r[r.length - 1]],fun a ha=>?_,by rw[a8 hle];rfl,by rw[a8 (show F.q.ah[r.length].least<=((0:Nat):Int) from hle)];rfl⟩;rw[List.mem_singleton.1 ha];exact hin _ (sT (by omega))
     ·exact⟨[],fun a ha=>(by cases ha),by rw[bk hle];rfl,by rw[bk (show ¬F.q.ah[r.length].least<=((0:Nat):Int) from hle)];rfl⟩
   obtain⟨L,D,G,he⟩:=o;rw[G,xi m];unfold bZ;simp only;rw[he];have l:=uy w m hc hin ih L st ⟨d.left,d.f,d.rows⟩ D u;rw[<-h3] at l;simp only;rw[h3] at l⊢;generalize fK (fun t=>bZ sn [] F.q.aq (F.q.ah.drop (r.length+1)) F.q.ah[r.length].name t) (mw sn F.q.ah[r.length] (eO sn F.q.ah r F.q.ah[r.length].name)) F.q.ah[r.length].name (L.map (jf sn)) ⟨d.left,eO sn F.q.ah r,d.rows⟩=x at l⊢;obtain⟨B,y⟩:=l;rcases B with ⟨g1,g2,g3,g4,g5⟩|⟨g1,g2⟩
   ·have H:¬x.2=true:=fun e=>by have:=y e;omega
    rw[bk H];split
    ·rename_i A;exact ad ⟨g1,g2,g4 A,g5⟩
    ·rename_i A;refine ad ⟨g1,g2,?_,g5⟩;simp only;rw[g3 none,GZ (by simpa using A)]
   ·split
    ·exact a6 ⟨g1,g2⟩
    ·split
     ·exact a6 ⟨g1,g2⟩
     ·exact a6 ⟨g1,g2⟩
  ·exact a6 ⟨zl (n+1) r st h1,wj _ _ _ _ k⟩
theorem Kz(m:nO F.sm sn)(l:0<=F.bud)(f:∀c∈F.q.aq,lj F.q.ah c.a.name/\lj F.q.ah c.b.name)(d:∀s,F.q.ah[0]?=some s->s.type.toList.isEmpty=true):
  ((fk F).1<=F.bud/\0<=(fU sn [] F.q F.bud).left/\(fU sn [] F.q F.bud).rows=(fk F).2.map (eO sn F.q.ah))\/(F.bud<(fk F).1/\(fU sn [] F.q F.bud).left<0):=by
 have h:=Na m f d F.q.ah.length [] ⟨#[]⟩ (0,[]) ⟨F.bud,oU,[]⟩ (by simp) (fun i j h1=>absurd h1 (by simp)) (fun i hi=>by cases hi) (fun h=>absurd h (by simp)) (ad ⟨l,by simp,by rw[xv],rfl⟩);rw[yd,List.drop_zero] at h;rcases h with ⟨h1,g,_,k⟩|⟨h1,g⟩
 ·exact ad ⟨h1,by show 0<=(bZ sn [] F.q.aq F.q.ah ⟨#[]⟩ ⟨F.bud,oU,[]⟩).left;omega,k⟩
 ·exact a6 ⟨h1,g⟩
def nE(F:SF)(r:List Nat):Prop:=r.length=F.q.ah.length/\∀i∈r,i<F.sm.length
theorem Dr:∀(n:Nat) (r:List Nat) (st:Int × List (List Nat)),r.length+n=F.q.ah.length->(∀i∈r,i<F.sm.length)->(∀s,F.q.ah[0]?=some s->s.type.toList.isEmpty=true)->(∀x∈st.2,nE F x)->∀x∈(kI F n r st).2,nE F x
 | 0,r,st,hl,hin,_,h=>by
  unfold kI;split
  ·intro x hx;rcases List.mem_append.1 hx with hx|hx
   ·exact h x hx
   ·rw[List.mem_singleton.1 hx];exact⟨by omega,hin⟩
  ·exact h
 | n+1,r,st,hl,hin,hfirst,h=>by
  have htk:∀st a,a<F.sm.length->(∀x∈st.2,nE F x)->∀x∈(eE F (kI F n) r st a).2,nE F x:=fun st a ha h=>by
   unfold eE;split
   ·exact Dr n (r++[a]) (st.1+1,st.2) (by rw[r7,x6];omega) (fun i hi=>by
     rcases List.mem_append.1 hi with hi|hi
     ·exact hin i hi
     ·rw[List.mem_singleton.1 hi];exact ha) hfirst h
   ·exact h
  have d:∀(L:List Nat) (st:Int × List (List Nat)),(∀a∈L,a<F.sm.length)->(∀x∈st.2,nE F x)->∀x∈(L.foldl (eE F (kI F n) r) st).2,nE F x:=fun L=>by
   induction L with
   | nil=>intro st _ h;exact h
   | cons a L ihL=>
    intro st f h;rw[L2];exact ihL _ (fun b hb=>f b (by simp[hb])) (htk st a (f a (by simp)) h)
  have c:r.length<F.q.ah.length:=by omega
  unfold kI;rw[r6 c];simp only[A5];split
  ·exact d _ st (fun a ha=>List.mem_range.1 ha) h
  ·rename_i g;split
   ·have j:0<r.length:=Nat.pos_of_ne_zero fun e=>g (hfirst _ (by rw[<-e];exact r6 c));refine htk st _ ?_ h;rw[List.getLast?_eq_getElem?,r6 (by omega)];exact hin _ (sT (by omega))
   ·exact h
theorem wx(a:∀s,F.q.ah[0]?=some s->s.type.toList.isEmpty=true):∀x∈(fk F).2,nE F x:=Dr F.q.ah.length [] (0,[]) (by simp) (fun i hi=>by cases hi) a (fun x hx=>by cases hx)
end
section
open Go.RowKit Go.Maps
def jP{α β:Type}(R:α->β->Prop):List α->List β->Prop
 | [],[]=>True
 | a::l,b::m=>R a b/\jP R l m
 | _,_=>False
theorem jP.cons{R:α->β->Prop}{l:List α}{m:List β}{a:α}{b:β}(h:R a b)(t:jP R l m):jP R (a::l) (b::m):=And.intro h t
theorem jP.ind{α β:Type}{R:α->β->Prop}{P:List α->List β->Prop}(c:P [] [])(d:∀a b l m,R a b->P l m->P (a::l) (b::m)):∀l m,jP R l m->P l m
 | [],[],_=>c
 | [],_::_,h=>h.elim
 | _::_,[],h=>h.elim
 | a::l,b::m,h=>d a b l m h.1 (jP.ind c d l m h.2)
theorem jP.len{R:α->β->Prop}{l:List α}{m:List β}(h:jP R l m):l.length=m.length:=
 jP.ind (R:=R) (P:=fun l m=>l.length=m.length) rfl (fun _ _ _ _ _ ih=>by simp[ih]) l m h
theorem jP.get{R:α->β->Prop}{l:List α}{m:List β}(h:jP R l m):∀(i:Nat) (h1:i<l.length) (c:i<m.length),R l[i] m[i]:=
 jP.ind (P:=fun l m=>∀(i:Nat) (h1:i<l.length) (c:i<m.length),R l[i] m[i]) (fun i h1=>absurd h1 (by simp)) (fun a b l m hr ih i h1 c=>by
  match i with
  | 0=>exact hr
  | i+1=>exact ih i (by simpa using h1) (by simpa using c)) l m h
theorem jP.snoc{R:α->β->Prop}{l:List α}{m:List β}{a:α}{b:β}(h:jP R l m)(c:R a b):jP R (l++[a]) (m++[b]):=
 jP.ind (P:=fun l m=>jP R (l++[a]) (m++[b])) (jP.cons (l:=[]) (m:=[]) c trivial) (fun _ _ _ _ hr' ih=>jP.cons hr' ih) l m h
theorem jP.mem{R:α->β->Prop}{l:List α}{m:List β}(h:jP R l m){b:β}(c:b∈m):∃a∈l,R a b:=by
 obtain⟨i,hi,rfl⟩:=zc c;have d:=h.len;exact⟨l[i]'(by omega),sT _,h.get i _ hi⟩
structure qE(a:mz)(b:aH):Prop where
 num:a.num=b.num
 ai:a.ai=b.ai
 bf:∀k,fs a.aj k=b.bf k
theorem zz(A:ByteArray->Bool)(k:ByteArray):∀l:List bm,fs (l.filter fun p=>A p.key) k=if A k then fs l k else none
 | []=>by unfold fs;simp
 | p::l=>by
  have ih:=zz A k l;unfold fs at ih⊢;rw[List.filter_cons];by_cases hk:p.key=k
  ·subst hk;by_cases a:A p.key=true
   ·rw[a8 a,a8 a];simp
   ·rw[bk a,ih,bk a,bk a]
  ·have b:decide (p.key=k)=false:=by simpa using hk
   rw[List.find?_cons_of_neg (by simp[b])];split
   ·rw[List.find?_cons_of_neg (by simp[b])];exact ih
   ·exact ih
theorem MM{a:kj}{S:bF->Bool}(b:mq a (nm,S)){l:List mz}{m:List aH}(h:jP qE l m):jP qE (me a.2 l) (oO S m):=by
 have c:∀t,S (1,t,⟨#[]⟩)=jo a.2 (Aa,t,⟨#[]⟩):=fun t=>by rw[<-b.2 Aa t ⟨#[]⟩ (ad rfl),tU.1]
 have d:∀t k,S (3,t,k)=jo a.2 (qJ,t,k):=fun t k=>by rw[<-b.2 qJ t k (a6 (ad rfl)),tU.2.1]
 refine jP.ind (P:=fun l m=>jP qE (me a.2 l) (oO S m)) trivial (fun x y l m hxy ih=>?_) l m h;unfold me oO gU at ih⊢;rw[List.filter_cons,List.filter_cons];have f:za S y=jo a.2 (Aa,x.ai,⟨#[]⟩):=by unfold za;rw[<-hxy.ai];exact c _
 rw[f];split
 ·refine jP.cons ⟨hxy.num,hxy.ai,fun k=>?_⟩ ih;show fs (iN a.2 x.ai x.aj) k=if S (3,y.ai,k) then y.bf k else none
  unfold iN;rw[zz (fun k=>jo a.2 (qJ,x.ai,k)) k x.aj,hxy.bf,<-hxy.ai,d]
 ·exact ih
theorem KH{S:bF->Bool}{m:List aH}(h:m.Pairwise fun a b=>a.num<b.num):(oO S m).Pairwise fun a b=>a.num<b.num:=by
 unfold oO gU;rw[F6];exact List.pairwise_map.2 ((h.sublist List.filter_sublist).imp fun {a b} hab=>hab)
theorem Gi{m:List aH}(h:m.Pairwise fun a b=>a.num<b.num):∀(i j:Nat) (hi:i<m.length) (d:j<m.length),m[i].num=m[j].num->i=j:=fun i j hi d e=>by
 have h1:=List.pairwise_iff_getElem.1 h;rcases Nat.lt_trichotomy i j with c|c|c
 ·have:=h1 i j hi d c;omega
 ·exact c
 ·have:=h1 j i d hi c;omega
theorem Qs{m:List aH}(h:jP qE (sm.map NM.er) m)(d:m.Pairwise fun a b=>a.num<b.num):nO sm m:=by
 have c:sm.length=m.length:=by have:=h.len;simpa using this
 refine⟨c,fun i h1 h2=>?_,Gi d⟩;have:=h.get i (by simpa using h1) h2;rw[DG] at this;exact⟨this.num,this.ai,this.bf⟩
def su(l:List bm):Prop:=l.Pairwise fun a b=>a.key≠b.key
theorem oY{l:List bm}(h:su l){p:bm}(hp:p∈l):fs l p.key=some p.val:=by
 induction l with
 | nil=>cases hp
 | cons a l ih=>
  have b:=List.pairwise_cons.1 h;unfold fs;rcases List.mem_cons.1 hp with rfl|hp
  ·rw[List.find?_cons_of_pos (by simp)]
   rfl
  ·rw[List.find?_cons_of_neg (by simpa using b.1 p hp)];exact ih b.2 hp
theorem ph{l:List bm}{k:ByteArray}{v:Int}(h:fs l k=some v):∃p∈l,p.key=k/\p.val=v:=by
 unfold fs at h;obtain⟨p,hp,a⟩:=Option.map_eq_some_iff.1 h;exact⟨p,Ms hp,by simpa using List.find?_some hp,a⟩
theorem FY{l m:List bm}(hp:l.Perm m)(d:su l)(k:ByteArray):fs l k=fs m k:=by
 have hm:su m:=(hp.pairwise_iff (fun {a b} h=>Ne.symm h)).1 d;cases h1:fs l k with
 | some v=>
  obtain⟨p,c,rfl,rfl⟩:=ph h1;exact(oY hm (hp.mem_iff.1 c)).symm
 | none=>
  cases f:fs m k with
  | none=>rfl
  | some v=>
   obtain⟨p,c,rfl,rfl⟩:=ph f;rw[oY d (hp.mem_iff.2 c)] at h1;cases h1
theorem CU(l:List bm)(p:bm):jS (l++[p])=fI (jS l) p.key (some p.val):=by
 unfold jS;rw[L3]
 rfl
theorem Hn{l:List bm}{p:bm}(h:su (l++[p]))(k:ByteArray):fs (l++[p]) k=if k=p.key then some p.val else fs l k:=by
 split
 ·rename_i e;rw[e];exact oY h (by simp)
 ·rename_i e;unfold fs;rw[List.find?_append];cases l.find? (fun p=>decide (p.key=k)) with
  | some x=>rfl
  | none=>
   rw[List.find?_cons_of_neg (by simpa using fun h=>e h.symm)]
   rfl
theorem tN:∀(n:Nat) (l:List bm),l.length=n->su l->∀k,jS l k=fs l k
 | 0,l,hl,_,k=>by
  rw[RA hl]
  rfl
 | n+1,l,hl,h,k=>by
  have hne:l≠[]:=fun e=>by rw[e] at hl;cases hl
  obtain⟨a,p,rfl⟩:∃a p,l=a++[p]:=⟨l.dropLast,l.getLast hne,(List.dropLast_concat_getLast hne).symm⟩;rw[CU,Hn h];unfold fI;split
  ·rfl
  ·exact tN n a (by simpa using hl) (List.pairwise_append.1 h).1 k
theorem yq:∀(l pre:List bm),eF pre l=false->su l/\∀p∈l,∀q∈pre,q.key≠p.key
 | [],pre,_=>⟨List.Pairwise.nil,fun p hp=>by cases hp⟩
 | x::r,pre,h=>by
  unfold eF at h;rw[L5] at h;obtain⟨h1,h2⟩:=yq r (pre++[x]) h.2;have a:∀q∈pre,q.key≠x.key:=fun q hq e=>by
   have:=List.any_eq_false.1 h.1 q hq;unfold jb at this;rw[e] at this;simp at this
  refine⟨List.pairwise_cons.2 ⟨fun p hp=>h2 p hp x (by simp),h1⟩,fun p hp q hq=>?_⟩;rcases List.mem_cons.1 hp with rfl|hp
  ·exact a q hq
  ·exact h2 p hp q (by simp[hq])
def Am(l:List bm):Prop:=l.Pairwise fun a b=>a.key.data.toList<b.key.data.toList
theorem Gm{l:List bm}(h:su l):Am (jg l l.length):=by
 have d:∀a b:bm,Sa a b=decide (a.key.data.toList<b.key.data.toList):=fun a b=>by
  unfold Sa;rw[bytesLess_eq,ByteArray.toList_eq,ByteArray.toList_eq]
 have i:=ur (lt:=Sa) (fun a b c h1 f=>by
  rw[d,decide_eq_false_iff_not] at h1 f⊢;exact fun h3=>f (by
   rcases List.le_iff_lt_or_eq.1 (List.not_lt.1 h1) with g|g
   ·exact List.lt_trans h3 g
   ·rw[<-g];exact h3)) (fun a b h=>by
  rw[d,decide_eq_true_eq] at h;rw[d,decide_eq_false_iff_not];exact fun f=>List.lt_irrefl _ (List.lt_trans h f)) l
 rw[<-CD] at i;have j:su (jg l l.length):=((tg l).pairwise_iff (fun {a b} h=>Ne.symm h)).2 h;refine(i.and j).imp fun {a b} hab=>?_;have h1:=hab.1;rw[d,decide_eq_false_iff_not] at h1;rcases List.le_iff_lt_or_eq.1 (List.not_lt.1 h1) with f|f
 ·exact f
 ·exact absurd (ByteArray.ext (Array.ext' f)) hab.2
theorem Am.differ{l:List bm}(h:Am l):su l:=by
 refine List.Pairwise.imp (fun {a b} hab (e:a.key=b.key)=>?_) h;rw[e] at hab;exact List.lt_irrefl _ hab
def kQ(x:mz):Nat->ByteArray
 | 0=>bP x.num++⟨#[32]⟩++x.ai
 | n+1=>kQ x n++⟨#[32]⟩++((x.aj[n]?).elim ⟨#[]⟩ fun p=>p.key)++⟨#[61]⟩++bP ((x.aj[n]?).elim 0 fun p=>p.val)
def kU(x:mz):ByteArray:=kQ x x.aj.length
theorem AY{x:mz}:∀n,n<=x.aj.length->(kQ x n).data.toList=Lib.join (([bP x.num,x.ai]++(x.aj.take n).map fun p=>p.key++⟨#[61]⟩++bP p.val).map (fun t=>t.data.toList)) [32]
 | 0,_=>by
  unfold kQ;simp[Lib.join,List.intercalate,ByteArray.data_append]
 | n+1,h=>by
  have ih:=AY (x:=x) n (by omega);have a:x.aj[n]?=some (x.aj[n]'(by omega)):=r6 (by omega);have b:([bP x.num,x.ai]++(x.aj.take (n+1)).map fun p=>p.key++⟨#[61]⟩++bP p.val).map (fun t=>t.data.toList)=(([bP x.num,x.ai]++(x.aj.take n).map fun p=>p.key++⟨#[61]⟩++bP p.val).map (fun t=>t.data.toList))++[(x.aj[n].key++⟨#[61]⟩++bP x.aj[n].val).data.toList]:=by
   rw[tt,a,F2];simp only[vb,wh,xd,Cf]
  rw[b,vO,bk (by simp),<-ih]
  conv=>lhs;unfold kQ
  rw[a];simp[ByteArray.data_append]
theorem KC{a:mz}{b:aH}{t:ByteArray}(g:qE a b)(hk:Am a.aj)(q:∀p∈a.aj,p.key.size<=maxLen)(h:Nh b t):t=kU a:=by
 obtain⟨⟨l,o,rfl⟩,_⟩:=h;have k:=hk.differ;have i:uR b.bf (a.aj.map fun p=>p.key.data.toList):=by
  have f:(a.aj.map fun p=>p.key.data.toList).Pairwise (·<·):=List.pairwise_map.2 (hk.imp fun {x y} h=>h);refine⟨List.Pairwise.imp (fun {x y} (h:x<y) (e:x=y)=>List.lt_irrefl y (by rw[e] at h;exact h)) f,fun x=>?_,?_⟩
  ·rw[List.mem_map];constructor
   ·rintro ⟨p,hp,rfl⟩;refine⟨by have:=q p hp;rw[A4];exact this,?_⟩;show (b.bf p.key).isSome=true;rw[<-g.bf,oY k hp]
    rfl
   ·rintro ⟨_,d⟩;rw[<-g.bf,Option.isSome_iff_exists] at d;obtain⟨v,r⟩:=d;obtain⟨p,hp,he,_⟩:=ph r;exact⟨p,hp,by rw[he]⟩
  ·have s:∀a b c:List UInt8,leB a b=true->leB b c=true->leB a c=true:=fun a b c h1 d=>by simp only[leB,decide_eq_true_eq] at *;exact List.le_trans h1 d
   have j:∀a b:List UInt8,(leB a b || leB b a)=true:=fun a b=>by simp only[leB,zd,decide_eq_true_eq];exact List.le_total a b
   refine List.Perm.eq_of_pairwise (le:=fun a b=>leB a b=true) (fun a b _ _ h1 d=>?_) (f.imp fun {x y} h=>?_) (List.pairwise_mergeSort s j _) (List.mergeSort_perm _ leB).symm
   ·simp only[leB,decide_eq_true_eq] at h1 d;exact List.le_antisymm h1 d
   ·simp only[leB,decide_eq_true_eq];exact List.le_of_lt h
 obtain rfl:=o.one i;have m:=AY (x:=a) a.aj.length (rm _);rw[yt] at m;have e:([bP b.num,b.ai]++(a.aj.map fun p=>p.key.data.toList).map (sQ b.bf))=[bP a.num,a.ai]++a.aj.map fun p=>p.key++⟨#[61]⟩++bP p.val:=by
  rw[g.num,g.ai,F6]
  congr 1
  refine P4 fun p hp=>?_;show sQ b.bf p.key.data.toList=_;unfold sQ;have n:(⟨p.key.data.toList.toArray⟩:ByteArray)=p.key:=rfl;rw[n,<-g.bf,oY k hp]
  rfl
 unfold ye kU;rw[e,<-m]
theorem Od{l:List mz}{m:List aH}{L:List ByteArray}(h:jP qE l m)(hk:∀x∈l,Am x.aj/\∀p∈x.aj,p.key.size<=maxLen)(c:Mf m [] L):L=l.map kU:=by
 obtain⟨g,j,f,rfl⟩:=c;rw[Cf,x8];have d:=h.len;refine LX (by rw[tB];omega) fun i h1 h2=>?_;rw[DG];have hi:i<l.length:=by simpa using h2
 have a:i<m.length:=by omega
 have b:=hk l[i] (sT hi);exact KC (h.get i hi a) b.1 b.2 (f i m[i] g[i] (r6 a) (r6 h1))
theorem LD{q:aI}{n:Int}(hk:su q.aj):qE ⟨n,q.ai,jg q.aj q.aj.length⟩ ⟨n,q.ai,0,jS q.aj⟩:=
 ⟨rfl,rfl,fun k=>by
  show fs (jg q.aj q.aj.length) k=jS q.aj k;rw[tN _ _ rfl hk,FY (tg q.aj).symm hk]⟩
end
end Go.Proofs.YtbfmmmjkjhjleaaGreatDoor
