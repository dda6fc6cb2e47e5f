/- Mine. -/
import Derived.Test.YtbfmmmjkjhjleaaGreatDoorC26
import Derived.Test.YtbfmmmjkjhjleaaGreatDoorC25
set_option maxRecDepth 100000
set_option maxHeartbeats 0
namespace Go.Proofs.YtbfmmmjkjhjleaaGreatDoor
open Go.Proofs.Tryz
variable {F:SF} {n S a j:Nat} {r:List Nat} {yv rv:Value} {cost:Int} {W w:World}
section
open Go.RowKit
def kE(r:List Nat):List Value:=r.map fun (i:Nat)=>.int .i64 (i:Int)
def tm:List aK->List Nat->ByteArray->Nat
 | s::ss,i::r,nm=>if s.name=nm then i else tm ss r nm
 | _,_,_=>0
theorem M4:∀{ss:List aK} {r:List Nat} {nm:ByteArray} {k:Nat} (hk:k<ss.length) (a:k<r.length),(∀j (h:j<ss.length),j<k->¬ss[j].name=nm)->ss[k].name=nm->tm ss r nm=r[k]
 | s::ss,i::r,nm,0,_,_,_,he=>by
  unfold tm;rw[a8 (show s.name=nm from he)]
  rfl
 | s::ss,i::r,nm,k+1,hk,a,hn,he=>by
  unfold tm;rw[bk (show ¬s.name=nm from hn 0 (by simp) (by omega))];exact M4 (k:=k) (by simpa using hk) (by simpa using a) (fun j h hj=>hn (j+1) (by simpa using h) (by omega)) he
theorem Ev:∀{ss:List aK} {r:List Nat} {nm:ByteArray},(∀j (h:j<ss.length),¬ss[j].name=nm)->tm ss r nm=0
 | [],_,_,_=>by unfold tm;rfl
 | s::ss,[],nm,_=>by unfold tm;rfl
 | s::ss,i::r,nm,hn=>by
  unfold tm;rw[bk (show ¬s.name=nm from hn 0 (by simp))];exact Ev fun j h=>hn (j+1) (by simpa using h)
theorem yS{n:Nat}(a:0<n):∀{ss:List aK} {r:List Nat} {nm:ByteArray},(∀i∈r,i<n)->tm ss r nm<n
 | [],_,_,_=>by unfold tm;exact a
 | s::ss,[],nm,_=>by unfold tm;exact a
 | s::ss,i::r,nm,h=>by
  unfold tm;split
  ·exact h i (by simp)
  ·exact yS a fun j hj=>h j (by simp[hj])
theorem CM{ao:Option Addr}{cp:Nat}(h:dj w 1 (.slice ao r.length cp) r.length (kE r)){k:Nat}(hk:k<r.length):∃g o,ao=some ⟨g,o,none⟩/\w.cell? ⟨g,o+k,none⟩=some (.int .i64 (r[k]:Int)):=by
 obtain⟨_,a2,c2,e,_,c⟩:=h;injection e with a f b
 subst a b;obtain⟨g,o,rfl,d⟩:=c (by omega);refine⟨g,o,rfl,d k _ ?_⟩;unfold kE;rw[F0,r6 hk]
 rfl
theorem Sn{nm:ByteArray}(C:Loc W S (sC F cost rv) 199)(n:wE F W)(v:dj W 1 yv r.length (kE r))(m:r.length=F.q.ah.length):
  Calls prog 111 #[.pointer (some ⟨S,0,none⟩),yv,.string nm] W fun e W'=>e=.returned (.int .i64 (tm F.q.ah r nm:Int))/\W'=W:=by
 obtain⟨sa,sc,d,-⟩:=bi n.rs;have b:=n.rs;rw[d] at b;have s1:W.cell? ⟨S,1,none⟩=some (.slice sa F.q.ah.length sc):=(C.cell 1).trans (by rw[<-d];rfl);obtain⟨K,L,rfl,-⟩:=bi v;have I:=n.small.1;have t:=p9 b;have s:=p9 m;have E:=p9 v;clear C n d b v m;generalize F.q.ah=ss at*;go_enter func111,ntmps111
 go_wp2_with fail;go_loopg [7] ss.length (fun c iv w=>∃k:Nat,iv=.int .i64 (k:Int)/\k+c=ss.length/\(∀j (h:j<ss.length),j<k->¬ss[j].name=nm)/\w=W)
 case atStart=>exact⟨0,rfl,by omega,fun _ _ h=>absurd h (by omega),rfl⟩
 case round=>
  obtain⟨k,rfl,hk,D,rfl⟩:=hrel;have p:=p9 D;clear D;by_cases a:k<ss.length
  ·have u:(k:Int)<(ss.length:Int):=by omega
   obtain⟨g,o,rfl,A⟩:=bC (l:=ss) nG (fun _=>rfl) t.o a;have i:k<r.length:=by rw[s.o];exact a
   have B:(k:Int)<(r.length:Int):=by omega
   obtain⟨M,N,rfl,H⟩:=CM E.o i;obtain⟨x,y⟩:∃x,ss[k].name=x:=⟨_,rfl⟩;have z:=p9 y;have J:wr.cell? ⟨g,o+k*5,none⟩=some (.string x):=by rw[<-y];exact A 0 (by omega)
   clear A y;by_cases he:x=nm
   ·subst he;have f:=p9 (M4 (r:=r) a i p.o z.o);go_wp2_with fail;go_ret;exact⟨by rw[f.o];rfl,rfl⟩
   ·have G:=iQ he;have f:=p9 he;clear he;go_wp2_with fail;go_roundg (gk - 1)
    case rel=>
     refine⟨k+1,by simp,by omega,fun j h hj=>?_,rfl⟩;rcases ua j k with h1|h1
     ·exact p.o j h h1
     ·obtain rfl:j=k:=by omega
      rw[z.o];exact f.o
    case measure=>omega
  ·have u:¬(k:Int)<(ss.length:Int):=by omega
   have f:=p9 (Ev (r:=r) (nm:=nm) fun j h=>p.o j h (by omega));go_wp2_with fail;go_ret;exact⟨by rw[f.o];rfl,rfl⟩
def nM(sm:List NM)(ss:List aK)(r:List Nat)(t:gP):Option Int:=if t.name.toList.isEmpty then some t.val else (sm[tm ss r t.name]?).elim none fun n=>fs n.aj t.key
theorem Mk{t:gP}(K:Loc W S (sC F cost rv) 199)(J:wE F W)(M:dj W 1 yv r.length (kE r))(B:r.length=F.q.ah.length)(A:∀i∈r,i<F.sm.length)(N:0<F.sm.length):
  Calls prog 210 #[.pointer (some ⟨S,0,none⟩),yv,.agg #[.string t.name,.string t.key,.int .i64 t.val]] W fun e W'=>e=.returned (.agg (PJ (nM F.sm F.q.ah r t)))/\Below W.heap.size W W':=by
 obtain⟨nm,key,val⟩:=t;have h:=(r5 W.heap.size W).alloc (rm _) (.cells #[.string nm,.string key,.int .i64 val] 46);have n:=p9 (((Loc.new W #[.string nm,.string key,.int .i64 val] 46)).alloc (.cells #[.int .i64 0,.bool false] 209));have j:=p9 (Loc.new (W.alloc (.cells #[.string nm,.string key,.int .i64 val] 46)) #[.int .i64 0,.bool false] 209);have k:=p9 (h.alloc h.size (.cells #[.int .i64 0,.bool false] 209));have c:qv (W.heap.size<=(W.alloc (.cells #[.string nm,.string key,.int .i64 val] 46)).heap.size):=p9 h.size;have G:=p9 (K.grown (ag k.o none) (by simp));have E:=p9 (J.below k.o);have H:=p9 (M.below k.o);have f:=p9 (yS N (ss:=F.q.ah) (nm:=nm) A);clear K J M h;go_enter func210,ntmps210
 go_upto_region 1 with fail;obtain⟨X,v⟩:∃X,X=(W.alloc (.cells #[.string nm,.string key,.int .i64 val] 46)).heap.size:=⟨_,rfl⟩;rw[<-v] at j c;rw[size_alloc] at v;obtain⟨Y,I⟩:∃Y,Y=W.heap.size:=⟨_,rfl⟩;rw[<-I] at n v⊢;subst v;clear I;generalize (W.alloc (.cells #[.string nm,.string key,.int .i64 val] 46)).alloc (.cells #[.int .i64 0,.bool false] 209)=a at n j k G E H⊢;have t0:=n.o.at_ 0 (.string nm) rfl;have t2:=n.o.at_ 2 (.int .i64 val) rfl;have x0:a.cell? ⟨Y+1,0,none⟩=some (.int .i64 0):=(j.o.cell 0).trans rfl;have x1:a.cell? ⟨Y+1,1,none⟩=some (.bool false):=(j.o.cell 1).trans rfl;have f0:=j.o.free 0;have f1:=j.o.free 1;cases he:nm.toList.isEmpty with
 | true=>
  have u:qv (nM F.sm F.q.ah r ⟨nm,key,val⟩=some val):=p9 (by unfold nM;rw[a8 he]);go_wp2_with fail;have s:=(j.o.set 0 (.int .i64 val)).set 1 (.bool true);refine bodyPost_ret (CP (o:=some val) rfl rfl ((s.cell 0).trans rfl) ((s.cell 1).trans rfl)) rfl ⟨by rw[u.o],?_⟩;exact(k.o.setCell (p:=⟨Y+1,0,none⟩) c.o _).setCell (p:=⟨Y+1,1,none⟩) c.o _
 | false=>
  have u:qv (nM F.sm F.q.ah r ⟨nm,key,val⟩=fs (F.sm[tm F.q.ah r nm]'f.o).aj key):=p9 (by
   unfold nM;rw[bk (by simp[he])];show (F.sm[tm F.q.ah r nm]?).elim none _=_;rw[r6 f.o]
   rfl)
  go_upto_region 3 with fail;have z:=below_drewN (r5 a.heap.size a) 1;have m:qv (Loc a.drew S (sC F cost rv) 199):=p9 G.o;have l:qv (wE F a.drew):=p9 (E.o.below z);have x:qv (dj a.drew 1 yv r.length (kE r)):=p9 (H.o.below z);have y:qv (Loc a.drew (Y+1) #[.int .i64 0,.bool false] 209):=p9 j.o;have O:a.drew.cell? ⟨Y,0,none⟩=some (.string nm):=t0;have P:a.drew.cell? ⟨Y,1,none⟩=some (.string key):=(n.o.cell 1).trans rfl;have g:=Mu (key:=key) m.o l.o f.o;obtain⟨o,L⟩:∃o,fs (F.sm[tm F.q.ah r nm]'f.o).aj key=o:=⟨_,rfl⟩;rw[L] at u g;have g:qv (Calls prog 109 #[.pointer (some ⟨S,0,none⟩),.int .i64 (tm F.q.ah r nm:Int),.string key] a.drew fun e W'=>e=.returned (.agg #[.int .i64 (o.getD 0),.bool o.isSome])/\Below a.drew.heap.size a.drew W'):=p9 g;clear z t2 L;go_region_with (first
   | (go_at_call 111;refine(Sn (nm:=nm) m.o l.o x.o B).mono ?_;rintro e Q ⟨rfl,C⟩;obtain rfl:=C)
   | (go_at_call 109;refine g.o.mono ?_;rintro e D ⟨rfl,d⟩;have b:=p9 (y.o.grown (ag d none) (by simp));have w:=p9 d;have z0:D.cell? ⟨Y+1,0,none⟩=some (.int .i64 0):=(b.o.cell 0).trans rfl;have R:D.cell? ⟨Y+1,1,none⟩=some (.bool false):=(b.o.cell 1).trans rfl;have z2:=b.o.free 0;have z3:=b.o.free 1;clear d))
  all_goals
   go_wp2_with fail;have s:=(b.o.set 0 (.int .i64 (o.getD 0))).set 1 (.bool o.isSome);refine bodyPost_ret (CP (o:=o) rfl rfl ((s.cell 0).trans rfl) ((s.cell 1).trans rfl)) rfl ⟨by rw[u.o],?_⟩;have d:Below W.heap.size W D:=k.o.trans (((below_drewN (r5 a.heap.size a) 1).trans w.o).mono k.o.size);exact(d.setCell (p:=⟨Y+1,0,none⟩) c.o _).setCell (p:=⟨Y+1,1,none⟩) c.o _
def Tk(op a b:Int):Bool:=if op=1 then a==b else if op=2 then a != b else if op=3 then decide (a<b) else if op=4 then decide (a<=b) else if op=5 then decide (b<a) else decide (b<=a)
def RE(op:Int):Option Int->Option Int->Bool
 | some x,some y=>Tk op x y
 | _,_=>false
def EG(op:Int)(a b:Option Int):Bool:=if op=7\/op=8 then a.isSome==(op==8) else RE op a b
def mE(sm:List NM)(ss:List aK)(r:List Nat)(c:bW):Bool:=EG c.op (nM sm ss r c.a) (nM sm ss r c.b)
theorem Oj{c:bW}(hl:Loc W S (sC F cost rv) 199)(hf:wE F W)(hr:dj W 1 yv r.length (kE r))(U:r.length=F.q.ah.length)(T:∀i∈r,i<F.sm.length)(h0:0<F.sm.length):
  Calls prog 148 #[.pointer (some ⟨S,0,none⟩),yv,.agg #[.int .i64 c.op,.string c.a.name,.string c.a.key,.int .i64 c.a.val,.string c.b.name,.string c.b.key,.int .i64 c.b.val]] W fun e W'=>e=.returned (.bool (mE F.sm F.q.ah r c))/\Below W.heap.size W W':=by
 obtain⟨op,⟨v,u,v1⟩,⟨m,l,v2⟩⟩:=c;have B:=(r5 W.heap.size W).alloc (rm _) (.cells #[.int .i64 op,.string v,.string u,.int .i64 v1,.string m,.string l,.int .i64 v2] 125);have I:=p9 (Loc.new W #[.int .i64 op,.string v,.string u,.int .i64 v1,.string m,.string l,.int .i64 v2] 125);have Z:=p9 (hl.grown (ag B none) (by simp));have Y:=p9 (hf.below B);have HR:=p9 (hr.below B);have X:=p9 B;have R:qv (mE F.sm F.q.ah r ⟨op,⟨v,u,v1⟩,⟨m,l,v2⟩⟩=EG op (nM F.sm F.q.ah r ⟨v,u,v1⟩) (nM F.sm F.q.ah r ⟨m,l,v2⟩)):=p9 rfl;clear hl hf hr B;go_enter func148,ntmps148
 go_upto_region 1 with fail;obtain⟨C,hC⟩:∃C,C=W.heap.size:=⟨_,rfl⟩;rw[<-hC] at I⊢;clear hC;generalize W.alloc (.cells #[.int .i64 op,.string v,.string u,.int .i64 v1,.string m,.string l,.int .i64 v2] 125)=W1 at I Z Y HR X⊢;have c1:=I.o.at_ 1 (.string v) rfl;have c2:=I.o.at_ 2 (.string u) rfl;have c3:=I.o.at_ 3 (.int .i64 v1) rfl;have d:=Mk (t:=⟨v,u,v1⟩) Z.o Y.o HR.o U T h0;obtain⟨a,ha⟩:∃a,nM F.sm F.q.ah r ⟨v,u,v1⟩=a:=⟨_,rfl⟩;rw[ha] at d R;have d:qv (Calls prog 210 #[.pointer (some ⟨S,0,none⟩),yv,.agg #[.string v,.string u,.int .i64 v1]] W1 fun e W'=>e=.returned (.agg #[.int .i64 (a.getD 0),.bool a.isSome])/\Below W1.heap.size W1 W'):=p9 d;clear ha;go_wp2_with fail;refine d.o.mono ?_;rintro e W2 ⟨rfl,s⟩;have f:=s.alloc s.size (.cells #[.int .i64 (a.getD 0),.bool a.isSome] 209);have P:=p9 (Loc.new W2 #[.int .i64 (a.getD 0),.bool a.isSome] 209);have n:=p9 (I.o.grown (ag f none) (by simp));have K:=p9 (Z.o.grown (ag f none) (by simp));have J:=p9 (Y.o.below f);have L:=p9 (HR.o.below f);have w:=p9 (X.o.trans (f.mono X.o.size));clear s f c1 c2 c3 d I Z Y HR X;go_upto_region 2 with fail;obtain⟨A,hA⟩:∃A,A=W2.heap.size:=⟨_,rfl⟩;rw[<-hA] at P⊢;clear hA;generalize W2.alloc (.cells #[.int .i64 (a.getD 0),.bool a.isSome] 209)=W3 at P n K J L w⊢;have c0:=n.o.at_ 0 (.int .i64 op) rfl;have M:=P.o.at_ 1 (.bool a.isSome) rfl;by_cases h7:op=7
 ·subst h7;have z:qv (mE F.sm F.q.ah r ⟨7,⟨v,u,v1⟩,⟨m,l,v2⟩⟩=(a.isSome==false)):=p9 (by rw[R.o];rfl);cases hs:a.isSome
  all_goals
   rw[hs] at M z;go_wp2_with fail;go_ret;exact⟨by rw[z.o];rfl,w.o⟩
 by_cases h8:op=8
 ·subst h8;have z:qv (mE F.sm F.q.ah r ⟨8,⟨v,u,v1⟩,⟨m,l,v2⟩⟩=(a.isSome==true)):=p9 (by rw[R.o];rfl);cases hs:a.isSome
  all_goals
   rw[hs] at M z;go_wp2_with fail;go_ret;exact⟨by rw[z.o];rfl,w.o⟩
 have e7:(op==7)=false:=by simpa using h7
 have e8:(op==8)=false:=by simpa using h8
 have p:=p9 (show mE F.sm F.q.ah r ⟨op,⟨v,u,v1⟩,⟨m,l,v2⟩⟩=RE op a (nM F.sm F.q.ah r ⟨m,l,v2⟩) by rw[R.o];unfold EG;rw[bk (by rintro (h|h);exact h7 h;exact h8 h)]);clear h7 h8 R;have c4:=n.o.at_ 4 (.string m) rfl;have c5:=n.o.at_ 5 (.string l) rfl;have c6:=n.o.at_ 6 (.int .i64 v2) rfl;have d:=Mk (t:=⟨m,l,v2⟩) K.o J.o L.o U T h0;obtain⟨b,hb⟩:∃b,nM F.sm F.q.ah r ⟨m,l,v2⟩=b:=⟨_,rfl⟩;rw[hb] at d p;have d:qv (Calls prog 210 #[.pointer (some ⟨S,0,none⟩),yv,.agg #[.string m,.string l,.int .i64 v2]] W3 fun e W'=>e=.returned (.agg #[.int .i64 (b.getD 0),.bool b.isSome])/\Below W3.heap.size W3 W'):=p9 d;clear hb;go_wp2_with fail;refine d.o.mono ?_;rintro e W4 ⟨rfl,s⟩;have f:=s.alloc s.size (.cells #[.int .i64 (b.getD 0),.bool b.isSome] 209);have E:=p9 (Loc.new W4 #[.int .i64 (b.getD 0),.bool b.isSome] 209);have Q:=p9 (n.o.grown (ag f none) (by simp));have H:=p9 (P.o.grown (ag f none) (by simp));have j:=p9 (w.o.trans (f.mono w.o.size));clear s f c0 M c4 c5 c6 d n K J L w P;go_upto_region 5 with fail;obtain⟨D,hD⟩:∃D,D=W4.heap.size:=⟨_,rfl⟩;rw[<-hD] at E⊢;clear hD;generalize W4.alloc (.cells #[.int .i64 (b.getD 0),.bool b.isSome] 209)=W5 at E Q H j⊢;have c0:=Q.o.at_ 0 (.int .i64 op) rfl;have a0:=H.o.at_ 0 (.int .i64 (a.getD 0)) rfl;have M:=H.o.at_ 1 (.bool a.isSome) rfl;have b0:=E.o.at_ 0 (.int .i64 (b.getD 0)) rfl;have b1:=E.o.at_ 1 (.bool b.isSome) rfl;cases a with
 | none=>
  have g:qv (mE F.sm F.q.ah r ⟨op,⟨v,u,v1⟩,⟨m,l,v2⟩⟩=false):=p9 (by rw[p.o];rfl);clear p;simp only[F1,F8] at a0 M;go_wp2_with fail;go_ret;exact⟨by rw[g.o];rfl,j.o⟩
 | some x=>
  cases b with
  | none=>
   have g:qv (mE F.sm F.q.ah r ⟨op,⟨v,u,v1⟩,⟨m,l,v2⟩⟩=false):=p9 (by rw[p.o];rfl);clear p;simp only[F1,F8,B1,xp] at a0 M b0 b1;go_wp2_with fail;go_ret;exact⟨by rw[g.o];rfl,j.o⟩
  | some y=>
   have g:qv (mE F.sm F.q.ah r ⟨op,⟨v,u,v1⟩,⟨m,l,v2⟩⟩=Tk op x y):=p9 (by rw[p.o];rfl);clear p;simp only[B1,xp] at a0 M b0 b1;have k:qv (Tk op x y=if op=1 then x==y else if op=2 then x != y else if op=3 then decide (x<y) else if op=4 then decide (x<=y) else if op=5 then decide (y<x) else decide (y<=x)):=p9 rfl;by_cases G:op=1
   ·subst G;rw[a8 rfl] at k;go_wp2_with fail;go_ret;exact⟨by rw[g.o,k.o];rfl,j.o⟩
   rw[bk G] at k;have t1:(op==1)=false:=by simpa using G
   by_cases N:op=2
   ·subst N;rw[a8 rfl] at k;clear G t1 e7 e8;go_wp2_with fail;go_ret;exact⟨by rw[g.o,k.o];rfl,j.o⟩
   rw[bk N] at k;have t2:(op==2)=false:=by simpa using N
   by_cases O:op=3
   ·subst O;rw[a8 rfl] at k;clear G t1 N t2 e7 e8;go_wp2_with fail;go_ret;exact⟨by rw[g.o,k.o];rfl,j.o⟩
   rw[bk O] at k;have t3:(op==3)=false:=by simpa using O
   by_cases V:op=4
   ·subst V;rw[a8 rfl] at k;clear G t1 N t2 O t3 e7 e8;go_wp2_with fail;go_ret;exact⟨by rw[g.o,k.o];rfl,j.o⟩
   rw[bk V] at k;have t4:(op==4)=false:=by simpa using V
   by_cases o5:op=5
   ·subst o5;rw[a8 rfl] at k;clear G t1 N t2 O t3 V t4 e7 e8;go_wp2_with fail;go_ret;exact⟨by rw[g.o,k.o];rfl,j.o⟩
   rw[bk o5] at k;have t5:(op==5)=false:=by simpa using o5
   clear G N O V o5;go_wp2_with fail;go_ret;exact⟨by rw[g.o,k.o];rfl,j.o⟩
def N1(sm:List NM)(x:aK)(a:Nat):Bool:=x.ai.toList.isEmpty || (sm[a]?).elim false fun n=>decide (n.ai=x.ai)
def qa(nm:ByteArray)(a:Nat):List aK->List Nat->Bool
 | s::ss,i::r=>(!decide (s.name=nm) || decide (i=a))&&qa nm a ss r
 | _,_=>true
def qD(sm:List NM)(ss:List aK)(r:List Nat)(a:Nat):Bool:=(ss[r.length]?).elim false fun x=>N1 sm x a&&qa x.name a ss r
theorem oX{nm:ByteArray}{a:Nat}:∀{ss:List aK} {r:List Nat},r.length<=ss.length->(qa nm a ss r=true↔∀j (h:j<r.length) (b:j<ss.length),ss[j].name=nm->r[j]=a)
 | [],[],_=>by simp[qa]
 | [],_::_,h=>by simp at h
 | s::ss,[],_=>by simp[qa]
 | s::ss,i::r,h=>by
  unfold qa;rw[wa,oX (by simpa using h)];constructor
  ·rintro ⟨h1,b⟩ j hj hj2 e;cases j with
   | zero=>simp only[r9] at e⊢;simpa [e] using h1
   | succ j=>exact b j (by simpa using hj) (by simpa using hj2) e
  ·intro h1;refine⟨?_,fun j hj hj2 e=>h1 (j+1) (by simpa using hj) (by simpa using hj2) e⟩;have:=h1 0 (by simp) (by simp);simp only[r9] at this;by_cases e:s.name=nm
   ·simp[this e]
   ·simp[e]
theorem QR(hl:Loc W S (sC F cost rv) 199)(D:wE F W)(hr:dj W 1 yv r.length (kE r))(Z:r.length<F.q.ah.length)(ha:a<F.sm.length):
  Calls prog 211 #[.pointer (some ⟨S,0,none⟩),yv,.int .i64 (a:Int)] W fun e W'=>e=.returned (.bool (qD F.sm F.q.ah r a))/\Below W.heap.size W W':=by
 obtain⟨sa,sc,H,-⟩:=bi D.rs;have s:=D.rs;rw[H] at s;obtain⟨na,nc,G,-⟩:=bi D.nr;have E:=D.nr;rw[G] at E;have s1:W.cell? ⟨S,1,none⟩=some (.slice sa F.q.ah.length sc):=(hl.cell 1).trans (by rw[<-H];rfl);obtain⟨ya,yc,rfl,-⟩:=bi hr;have h6:=D.small.1;have A5:=D.small.2.2.2.1;obtain⟨v,z,rfl,p⟩:=bC (l:=F.q.ah) nG (fun _=>rfl) s Z;obtain⟨ng,no,rfl,C⟩:=bC (l:=F.sm) Fi (fun _=>rfl) E ha;obtain⟨⟨d,g,A,x3,x4⟩,I⟩:∃x,F.q.ah[r.length]=x:=⟨_,rfl⟩;obtain⟨n,K⟩:∃n,F.sm[a]=n:=⟨_,rfl⟩;rw[I] at p;rw[K] at C;have N:qv (qD F.sm F.q.ah r a=((g.toList.isEmpty || decide (n.ai=g))&&qa d a F.q.ah r)):=p9 (by
  unfold qD;rw[r6 Z,I];show (N1 F.sm ⟨d,g,A,x3,x4⟩ a&&_)=_;unfold N1;rw[r6 ha,K]
  rfl)
 have p0:W.cell? ⟨v,z+r.length*5,none⟩=some (.string d):=p 0 (by omega);have p1:W.cell? ⟨v,z+r.length*5+1,none⟩=some (.string g):=p 1 (by omega);have p2:W.cell? ⟨v,z+r.length*5+2,none⟩=some (.string A):=p 2 (by omega);have p3:W.cell? ⟨v,z+r.length*5+3,none⟩=some (.int .i64 x3):=p 3 (by omega);have p4:W.cell? ⟨v,z+r.length*5+4,none⟩=some (.int .i64 x4):=p 4 (by omega);have A8:(r.length:Int)<(F.q.ah.length:Int):=by omega
 have A6:(a:Int)<(F.sm.length:Int):=by omega
 have n1:W.cell? ⟨ng,no+a*3+1,none⟩=some (.string n.ai):=C 1 (by omega);have J:W.cell? ⟨S,17,none⟩=some (.slice (some ⟨ng,no,none⟩) F.sm.length nc):=(hl.cell 17).trans (by rw[<-G];rfl);have P:=p9 s;have HR:=p9 hr;have Q:qv (qa d a F.q.ah r=true↔∀j (h:j<r.length) (h2:j<F.q.ah.length),F.q.ah[j].name=d->r[j]=a):=p9 (oX (by omega));clear hl D H G s E hr p C I K;generalize n.ai=L at N n1⊢;generalize F.q.ah=ss at*;go_enter func211,ntmps211
 go_upto_region 2 with fail;have m:=(r5 W.heap.size W).alloc (rm _) (.cells #[.string d,.string g,.string A,.int .i64 x3,.int .i64 x4] 191);have HX:=p9 (Loc.new W #[.string d,.string g,.string A,.int .i64 x3,.int .i64 x4] 191);have t:=p9 (P.o.below m);have O:=p9 (HR.o.below m);have B:=p9 m;have q1:(W.alloc (.cells #[.string d,.string g,.string A,.int .i64 x3,.int .i64 x4] 191)).cell? ⟨S,1,none⟩=some (.slice (some ⟨v,z,none⟩) ss.length sc):=(m.cell (block_lt_of_cell s1)).trans s1;have A4:(W.alloc (.cells #[.string d,.string g,.string A,.int .i64 x3,.int .i64 x4] 191)).cell? ⟨S,17,none⟩=some (.slice (some ⟨ng,no,none⟩) F.sm.length nc):=(m.cell (block_lt_of_cell J)).trans J;have m1:(W.alloc (.cells #[.string d,.string g,.string A,.int .i64 x3,.int .i64 x4] 191)).cell? ⟨ng,no+a*3+1,none⟩=some (.string L):=(m.cell (block_lt_of_cell n1)).trans n1;obtain⟨X,hX⟩:∃X,X=W.heap.size:=⟨_,rfl⟩;rw[<-hX] at HX⊢;clear hX m p0 p1 p2 p3 p4 n1 J s1 P HR;generalize W.alloc (.cells #[.string d,.string g,.string A,.int .i64 x3,.int .i64 x4] 191)=W1 at HX t O B q1 A4 m1⊢;have x0:=HX.o.at_ 0 (.string d) rfl;have x1:=HX.o.at_ 1 (.string g) rfl;have HK:qv (qD F.sm ss r a=(!(!g.toList.isEmpty&&!(L.toList==g.toList))&&qa d a ss r)):=p9 (by
  rw[N.o]
  congr 1
  by_cases h:L=g
  ·rw[h];simp
  ·rw[iQ h];simp[h])
 go_cut [33] (fun b w=>b=.bool (!g.toList.isEmpty&&!(L.toList==g.toList))/\Below W1.heap.size W1 w)
 case first=>
  cases he:g.toList.isEmpty with
  | true=>
   go_quiet (fail)
   go_wp2_with fail;go_meet
   case rel=>exact⟨by simp[he],Joins.below_draws _ _ _⟩
  | false=>
   cases hq:(L.toList==g.toList)
   all_goals
    go_quiet (fail)
    go_wp2_with fail;go_meet
    case rel=>exact⟨by simp[he,hq],Joins.below_draws _ _ _⟩
 case rest=>
  obtain⟨rfl,V⟩:=hcut;have M:=p9 V;clear V;generalize (!g.toList.isEmpty&&!(L.toList==g.toList))=bl at HK⊢;cases bl with
  | true=>
   go_wp2_with fail;go_ret;exact⟨by rw[HK.o];rfl,B.o.trans (M.o.mono B.o.size)⟩
  | false=>
   go_wp2_with fail;go_loopg [8] r.length (fun c iv w=>∃k:Nat,iv=.int .i64 (k:Int)/\k+c=r.length/\(∀j (h:j<r.length) (h2:j<ss.length),j<k->ss[j].name=d->r[j]=a)/\Below W1.heap.size W1 w)
   case atStart=>exact⟨0,rfl,by omega,fun _ _ _ h=>absurd h (by omega),M.o⟩
   case round=>
    obtain⟨k,rfl,hk,K,m⟩:=hrel;have HN:=p9 K;have f:=p9 m;clear K m;have x0:wr.cell? ⟨X,0,none⟩=some (.string d):=(f.o.cell (block_lt_of_cell x0)).trans x0;have q1:wr.cell? ⟨S,1,none⟩=some (.slice (some ⟨v,z,none⟩) ss.length sc):=(f.o.cell (block_lt_of_cell q1)).trans q1;by_cases Y:k<r.length
    ·have A2:(k:Int)<(r.length:Int):=by omega
     have A7:(k:Int)<(ss.length:Int):=by omega
     have u:k<ss.length:=by omega
     obtain⟨g5,o5,U,p⟩:=bC (l:=ss) nG (fun _=>rfl) (t.o.below f.o) u;injection U with U
     injection U with U A1
     subst U A1;obtain⟨yg,yo,rfl,cy⟩:=CM (O.o.below f.o) Y;have p0:=p 0 (by omega);obtain⟨x,I⟩:∃x,ss[k].name=x:=⟨_,rfl⟩;obtain⟨y,hy⟩:∃y,r[k]=y:=⟨_,rfl⟩;have p0:wr.cell? ⟨v,z+k*5,none⟩=some (.string x):=by rw[<-I];exact p0
     rw[hy] at cy;have R:=p9 I;have T:=p9 hy;clear p I hy;go_upto_region 7 with fail;by_cases he:x=d
     ·have het:(x.toList==d.toList)=true:=by rw[he];simp
      have HE:=p9 he;clear he;by_cases i:y=a
      ·have A3:((y:Int) != (a:Int))=false:=by rw[i];simp
       have A0:=p9 i;clear i;go_quiet (fail)
       go_wp2_with fail;go_roundg (gk - 1)
       case measure=>omega
       case rel=>
        refine⟨k+1,by simp,by omega,fun j h h2 hj e=>?_,f.o.trans (Joins.below_draws _ wr nq)⟩;rcases ua j k with h1|h1
        ·exact HN.o j h h2 h1 e
        ·obtain rfl:j=k:=by omega
         rw[T.o,A0.o]
      ·have A3:((y:Int) != (a:Int))=true:=by simpa using fun e=>i (by omega)
       have HS:qv (qa d a ss r=false):=p9 (by
        cases e:qa d a ss r
        ·rfl
        ·exact absurd (Q.o.1 e k Y u (by rw[R.o,HE.o])) (by rw[T.o];exact i))
       clear i;go_quiet (fail)
       go_wp2_with fail;go_ret;exact⟨by rw[HK.o,HS.o];rfl,B.o.trans ((f.o.trans (Joins.below_draws _ wr nq)).mono B.o.size)⟩
     ·have het:=iQ he;have HE:=p9 he;clear he;go_quiet (fail)
      go_wp2_with fail;go_roundg (gk - 1)
      case measure=>omega
      case rel=>
       refine⟨k+1,by simp,by omega,fun j h h2 hj e=>?_,f.o.trans (Joins.below_draws _ wr nq)⟩;rcases ua j k with h1|h1
       ·exact HN.o j h h2 h1 e
       ·obtain rfl:j=k:=by omega
        exact absurd (R.o.symm.trans e) HE.o
    ·have A2:¬(k:Int)<(r.length:Int):=by omega
     have HS:qv (qa d a ss r=true):=p9 (Q.o.2 fun j h h2 e=>HN.o j h h2 (by omega) e);go_wp2_with fail;go_ret;exact⟨by rw[HK.o,HS.o];rfl,B.o.trans (f.o.mono B.o.size)⟩
abbrev VL:=List (Option Int)
def kF(F:SF)(r:List Nat)(x:aZ):Option Int:=if x.name.toList.isEmpty then some 1 else if x.key.toList.isEmpty then some ((F.sm[tm F.q.ah r x.name]?).elim 0 fun n=>n.num) else (F.sm[tm F.q.ah r x.name]?).elim none fun n=>fs n.aj x.key
def ir(F:SF)(r:List Nat):VL:=F.q.af.map (kF F r)
def ik(af:List aZ)(k:Nat):Bool:=(af[k]?).elim false fi
def kY(af:List aZ):Nat->Nat
 | 0=>0
 | k+1=>kY af k+if ik af k then 1 else 0
def oH(af:List aZ)(a b:VL):Nat->Bool
 | 0=>true
 | k+1=>oH af a b k&&(ik af k || decide ((a[k]?).getD none=(b[k]?).getD none))
def nD(af:List aZ)(a b:VL):Bool:=oH af a b af.length
def oT(af:List aZ)(a:VL):Nat->VL
 | 0=>a
 | k+1=>if ik af k then (oT af a k).set k (some ((((oT af a k)[k]?).getD none).getD 0+1)) else oT af a k
def zZ(af:List aZ)(a:VL):VL:=oT af a af.length
def o9(af:List aZ)(outs:List VL)(l:VL):List VL:=if 0<kY af af.length then (outs.findIdx? (nD af l)).elim (outs++[l]) fun j=>outs.set j (zZ af ((outs[j]?).getD [])) else outs++[l]
def iP(F:SF)(rows:List (List Nat)):List VL:=rows.foldl (fun o r=>o9 F.q.af o (ir F r)) []
def vP(af:List aZ)(outs:List VL):List VL:=if outs=[]/\kY af af.length=af.length then [List.replicate af.length (some 0)] else outs
def iI(F:SF)(rows:List (List Nat)):List VL:=vP F.q.af (iP F rows)
theorem pO(F:SF)(rows:List (List Nat))(r:List Nat):iP F (rows++[r])=o9 F.q.af (iP F rows) (ir F r):=by
 unfold iP;rw[L3]
 rfl
theorem BD(af:List aZ):∀k,kY af k<=k
 | 0=>rm _
 | k+1=>by
  unfold kY;have:=BD af k;split<;>omega
theorem qI(af:List aZ)(a:VL):∀k,(oT af a k).length=a.length
 | 0=>rfl
 | k+1=>by
  unfold oT;split
  ·rw[zp,qI af a k]
  ·exact qI af a k
theorem uu(af:List aZ)(a:VL):∀k j,(oT af a k)[j]?=if j<k/\ik af j=true then (a[j]?).map (fun o=>some (o.getD 0+1)) else a[j]?
 | 0,j=>by rw[bk (fun h=>absurd h.1 (by omega))];rfl
 | k+1,j=>by
  have ih:=uu af a k;unfold oT;split
  ·rename_i d;rw[List.getElem?_set,qI];by_cases c:k=j
   ·subst c;rw[a8 rfl,ih k,bk (show ¬(k<k/\ik af k=true) from fun h=>absurd h.1 (by omega)),a8 (show k<k+1/\ik af k=true from ⟨by omega,d⟩)];by_cases f:k<a.length
    ·rw[a8 f,r6 f]
     rfl
    ·rw[bk f,x7 (by omega)]
     rfl
   ·rw[bk c,ih j];by_cases b:j<k/\ik af j=true
    ·rw[a8 b,a8 ⟨by omega,b.2⟩]
    ·rw[bk b,bk (fun h=>b ⟨by omega,h.2⟩)]
  ·rename_i d;rw[ih j];by_cases b:j<k/\ik af j=true
   ·rw[a8 b,a8 ⟨by omega,b.2⟩]
   ·rw[bk b,bk (fun h=>b ⟨(ua j k).elim id fun h1=>absurd (by rw[<-(show j=k by omega)];exact h.2) d,h.2⟩)]
def pD(af:List aZ)(n:Nat)(l:VL):Prop:=l.length=af.length/\(∀m,some m∈l->nY m)/\∀k,ik af k=true->∃c:Nat,l[k]?=some (some (c:Int))/\c<=n
def Iu(af:List aZ)(n:Nat)(outs:List VL):Prop:=∀l∈outs,pD af n l
theorem pD.mono{af:List aZ}{m:Nat}{l:VL}(h:pD af n l)(hm:n<=m):pD af m l:=⟨h.1,h.2.1,fun k hk=>by
 obtain⟨c,a,b⟩:=h.2.2 k hk;exact⟨c,a,r8 b hm⟩⟩
theorem IZ{af:List aZ}{l:VL}(h:pD af n l)(g:n<=100000)(k:Nat):pD af (n+1) (oT af l k):=by
 refine⟨by rw[qI];exact h.1,fun m hm=>?_,fun j a=>?_⟩
 ·obtain⟨j,a⟩:=List.getElem?_of_mem hm;rw[uu] at a;split at a
  ·rename_i b;obtain⟨c,d,f⟩:=h.2.2 j b.2;rw[d] at a;simp only[Option.map_some,xp,Option.some.injEq] at a;rw[<-a];unfold nY;omega
  ·exact h.2.1 m (zs a)
 ·obtain⟨c,b,f⟩:=h.2.2 j a;rw[uu];split
  ·exact⟨c+1,by rw[b];simp,by omega⟩
  ·exact⟨c,b,by omega⟩
theorem PW{af:List aZ}{outs:List VL}{l:VL}(h:Iu af n outs)(f:pD af 1 l)(g:n<=100000):Iu af (n+1) (o9 af outs l):=by
 have b:Iu af (n+1) (outs++[l]):=fun x a=>by
  rcases List.mem_append.1 a with a|a
  ·exact(h x a).mono (by omega)
  ·rw[List.mem_singleton.1 a];exact f.mono (by omega)
 unfold o9;split
 ·cases d:outs.findIdx? (nD af l) with
  | none=>exact b
  | some j=>
   intro x a;have c:=(List.findIdx?_eq_some_iff_getElem.1 d).1;simp only[A5] at a;rw[r6 c] at a;rcases RN a with a|a
   ·exact(h x a).mono (by omega)
   ·rw[a];exact IZ (h _ (sT c)) g _
 ·exact b
def qp(F:SF):Prop:=∀x∈F.sm,nY x.num/\∀p∈x.aj,nY p.val
theorem M5(h:qp F)(r:List Nat)(x:aZ)(m:Int)(he:kF F r x=some m):nY m:=by
 unfold kF at he;split at he
 ·injection he with he
  rw[<-he];unfold nY;omega
 ·cases a:F.sm[tm F.q.ah r x.name]? with
  | none=>
   rw[a] at he;split at he
   ·injection he with he
    simp only[Option.elim_none] at he;rw[<-he];unfold nY;omega
   ·cases he
  | some y=>
   rw[a] at he;have b:=h y (zs a);split at he
   ·injection he with he
    simp only[A5] at he;rw[<-he];exact b.1
   ·simp only[A5] at he;unfold fs at he;obtain⟨p,hp,rfl⟩:=Option.map_eq_some_iff.1 he;exact b.2 p (Ms hp)
theorem C9(h:qp F)(r:List Nat):pD F.q.af 1 (ir F r):=by
 refine⟨by unfold ir;rw[tB],fun m hm=>?_,fun k hk=>⟨1,?_,rm _⟩⟩
 ·obtain⟨x,_,a⟩:=List.mem_map.1 hm;exact M5 h r x m a
 ·unfold ik at hk;unfold ir;rw[F0];cases a:F.q.af[k]? with
  | none=>rw[a] at hk;cases hk
  | some x=>
   rw[a] at hk;have hk:x.name.toList.isEmpty=true:=hk;simp[kF,hk]
theorem xm{F:SF}(h:qp F)(rows:List (List Nat)):∀n,n<=rows.length->n<=100000->Iu F.q.af n (iP F (rows.take n))
 | 0,_,_=>fun l hl=>by rw[List.take_zero] at hl;cases hl
 | n+1,h1,h2=>by
  rw[tt,r6 (by omega),F2,pO];exact PW (xm h rows n (by omega) (by omega)) (C9 h _) (by omega)
theorem Mb(af:List aZ)(outs:List VL)(l:VL):(o9 af outs l).length<=outs.length+1:=by
 unfold o9;split
 ·cases outs.findIdx? (nD af l) with
  | none=>simp
  | some j=>simp
 ·simp
theorem rQ(F:SF)(rows:List (List Nat)):∀n,n<=rows.length->(iP F (rows.take n)).length<=n
 | 0,_=>by rw[List.take_zero];exact rm _
 | n+1,h=>by
  rw[tt,r6 (by omega),F2,pO];have:=rQ F rows n (by omega);have:=Mb F.q.af (iP F (rows.take n)) (ir F rows[n]);omega
theorem Hv{af:List aZ}{outs:List VL}{l:VL}(b:0<kY af af.length)(a:j<outs.length)(f:nD af l outs[j]=true)(d:∀i (h:i<outs.length),i<j->nD af l outs[i]=false):o9 af outs l=outs.set j (zZ af outs[j]):=by
 have c:outs.findIdx? (nD af l)=some j:=List.findIdx?_eq_some_iff_getElem.2 ⟨a,f,fun i hi=>by simp[d i (by omega) hi]⟩;unfold o9;rw[a8 b,c,A5,r6 a]
 rfl
theorem Dj{af:List aZ}{outs:List VL}{l:VL}(c:0<kY af af.length->∀i (h:i<outs.length),nD af l outs[i]=false):o9 af outs l=outs++[l]:=by
 unfold o9;split
 ·rename_i a;have b:outs.findIdx? (nD af l)=none:=List.findIdx?_eq_none_iff.2 fun x hx=>by
   obtain⟨i,hi,rfl⟩:=zc hx;exact c a i hi
  rw[b]
  rfl
 ·rfl
theorem Tryz.Nf:(prog.info? 206).map (fun i=>(i.zero,i.size,i.bytes))=some (some (.slice none 0 0),1,24):=by kernel_rfl
def eE(F:SF)(rec:List Nat->Int × List (List Nat)->Int × List (List Nat))(r:List Nat)(st:Int × List (List Nat))(a:Nat):Int × List (List Nat):=
 if qD F.sm F.q.ah r a=true/\st.1<=F.bud then rec (r++[a]) (st.1+1,st.2) else st
def kI(F:SF):Nat->List Nat->Int × List (List Nat)->Int × List (List Nat)
 | 0,r,st=>if F.q.aq.all (mE F.sm F.q.ah r) then (st.1,st.2++[r]) else st
 | n+1,r,st=>(F.q.ah[r.length]?).elim st fun x=>if x.type.toList.isEmpty then (List.range F.sm.length).foldl (eE F (kI F n) r) st else if x.least<=0 then eE F (kI F n) r st (r.getLast?.getD 0) else st
def BV(F:SF)(n:Nat)(st:Int × List (List Nat)):Prop:=((st.2.length:Nat):Int)+(if n=0 then 1 else 0)<=st.1/\st.1<=F.bud+1
theorem tT{F:SF}(ih:∀r st,BV F n st->BV F 1 (kI F n r st)){st:Int × List (List Nat)}(h:BV F 1 st)(a:Nat):BV F 1 (eE F (kI F n) r st a):=by
 unfold eE;split
 ·rename_i b;refine ih _ _ ⟨?_,?_⟩
  ·have:=h.1;simp only[Nat.one_ne_zero,if_false] at this;simp only;split<;>omega
  ·simp only;omega
 ·exact h
theorem B7{F:SF}{f:Int × List (List Nat)->Nat->Int × List (List Nat)}(b:∀st a,BV F 1 st->BV F 1 (f st a)):∀(l:List Nat) (st:Int × List (List Nat)),BV F 1 st->BV F 1 (l.foldl f st)
 | [],_,h=>h
 | a::l,st,h=>B7 b l _ (b st a h)
theorem zC{F:SF}:∀(n:Nat) (r:List Nat) (st:Int × List (List Nat)),BV F n st->BV F 1 (kI F n r st)
 | 0,r,st,h=>by
  have h1:=h.1;have c:=h.2;simp only[if_true] at h1;unfold kI;split
  ·refine⟨?_,c⟩;simp only[r7,x6,Nat.one_ne_zero,if_false];omega
  ·refine⟨?_,c⟩;simp only[Nat.one_ne_zero,if_false];omega
 | n+1,r,st,h=>by
  have b:BV F 1 st:=⟨by have:=h.1;simpa using this,h.2⟩;unfold kI;cases F.q.ah[r.length]? with
  | none=>exact b
  | some x=>
   simp only[A5];split
   ·exact B7 (fun st a hb=>tT (fun r st hb=>zC n r st hb) hb a) _ _ b
   ·split
    ·exact tT (fun r st hb=>zC n r st hb) b _
    ·exact b
structure kM(S:Nat)(F:SF)(W0:World)(cost:Int)(rv:Value)(vals:List Value)(rows:List (List Nat))(w:World):Prop where
 bJ:Loc w S (sC F cost rv) 199
 fix:wE F W0
 low:Below W0.heap.size W0 w
 bS:W0.heap.size<=S
 row:w.ownsRow W0.heap.size 206 1 rv rows.length vals
 each:∀(i:Nat) (h:i<rows.length),∃v,vals[i]?=some v/\w.ownsRow W0.heap.size 3 1 v rows[i].length (kE rows[i])
variable {S:Nat} {F:SF} {W0:World} {cost:Int} {rv:Value} {vals:List Value} {rows:List (List Nat)} {w w2:World}
theorem kM.fx(h:kM S F W0 cost rv vals rows w):wE F w:=h.fix.below h.low
theorem kM.below(h:kM S F W0 cost rv vals rows w)(a:Below w.heap.size w w2):kM S F W0 cost rv vals rows w2:=
 ⟨h.bJ.grown (ag a none) (by simp),h.fix,h.low.trans (a.mono h.low.size),h.bS,h.row.kept (ag a none) (by cases rv.ownBlock<;>simp),fun i hi=>by
  obtain⟨v,c,b⟩:=h.each i hi;exact⟨v,c,b.kept (ag a none) (by cases v.ownBlock<;>simp)⟩⟩
theorem kM.T2(h:kM S F W0 cost rv vals rows w):kM S F W0 (cost+1) rv vals rows (w.setCell ⟨S,19,none⟩ (.int .i64 (cost+1))):=by
 have g2:=aE w S 19 (.int .i64 (cost+1));exact⟨h.bJ.set 19 _,h.fix,h.low.setCell (p:=⟨S,19,none⟩) h.bS _,h.bS,h.row.kept g2 (a6 fun e=>aR h.row h.bJ (by decide) e),fun i hi=>by
  obtain⟨v,b,a⟩:=h.each i hi;exact⟨v,b,a.kept g2 (a6 fun e=>aR a h.bJ (by decide) e)⟩⟩
theorem kM.add{a:Value}(h:kM S F W0 cost rv vals rows w)(l:w.ownsRow W0.heap.size 3 1 yv r.length (kE r))(d:w.grownBy w2 rv.ownBlock)(j:w2.ownsRow W0.heap.size 206 1 a (rows.length+1) (vals++[yv])):kM S F W0 cost a (vals++[yv]) (rows++[r]) (w2.setCell ⟨S,21,none⟩ a):=by
 have g2:=aE w2 S 21 a;have f:=h.bJ.dY h.row d (by decide);have hlen:vals.length=rows.length:=by have:=h.row.1;omega
 have hk:∀{v:Value} {x:List Nat},w.ownsRow W0.heap.size 3 1 v x.length (kE x)->(w2.setCell ⟨S,21,none⟩ a).ownsRow W0.heap.size 3 1 v x.length (kE x):=fun c=>by
  have h1:=c.kept d (bT c h.row (by decide));exact h1.kept g2 (a6 fun e=>aR h1 f (by decide) e)
 refine⟨f.set 21 _,h.fix,(h.low.grown d h.low.size fun b hb=>(h.row.lt b hb).1).setCell (p:=⟨S,21,none⟩) h.bS _,h.bS,?_,fun i hi=>?_⟩
 ·have k:(rows++[r]).length=rows.length+1:=by simp
  rw[k];exact j.kept g2 (a6 fun e=>aR j f (by decide) e)
 ·rcases ua i rows.length with h1|h1
  ·obtain⟨v,c,g⟩:=h.each i h1;refine⟨v,by rw[Mc (by omega)];exact c,?_⟩;rw[F5 h1];exact hk g
  ·obtain rfl:i=rows.length:=by simp at hi;omega
   refine⟨yv,by rw[F7 (by omega),hlen];simp,?_⟩;rw[GX (rm _)];simp only[F3,r9];exact hk l
def ym(S:Nat)(rv:Value)(b:Nat):Prop:=b=S\/rv.ownBlock=some b
def mA(S:Nat)(F:SF)(W0:World)(rv:Value)(st:Int × List (List Nat))(w w':World):Prop:=∃rv' vals',kM S F W0 st.1 rv' vals' st.2 w'/\Kept (ym S rv) w w'/\wI w rv rv'
theorem mA.step{st:Int × List (List Nat)}{f c:Value}{w m n:World}(hk:Kept (ym S f) w m)(l:wI w f c)(h:mA S F W0 c st m n):mA S F W0 f st w n:=by
 obtain⟨j,d,g,a,i⟩:=h;have hm:∀b,b<w.heap.size->ym S c b->ym S f b:=fun b hb hs=>hs.elim ad fun e=>(l b e).elim a6 fun e=>by omega
 refine⟨j,d,g,⟨a.os.trans hk.os,a.tape.trans hk.tape,a.output.trans hk.output,r8 hk.size a.size,fun k hk0 hd=>?_⟩,fun b hb=>?_⟩
 ·rw[a.block k (vH hk0 hk.size) (fun e=>hd (hm k hk0 e)),hk.block k hk0 hd]
 ·rcases i b hb with e|e
  ·exact l b e
  ·exact a6 (r8 hk.size e)
theorem mA.below{st:Int × List (List Nat)}(h:kM S F W0 st.1 rv vals st.2 w)(a:Below w.heap.size w w2):mA S F W0 rv st w w2:=⟨rv,vals,h.below a,(Kept.refl _ _).below a,fun _ a=>ad a⟩
def vt(S:Nat)(F:SF)(W0:World)(n:Nat):Prop:=∀(r:List Nat) (yv:Value) (cost:Int) (rv:Value) (vals:List Value) (rows:List (List Nat)) (w:World),kM S F W0 cost rv vals rows w->w.ownsRow W0.heap.size 3 1 yv r.length (kE r)->(r=[]->yv=.slice none 0 0)->r.length+n=F.q.ah.length->(∀i∈r,i<F.sm.length)->BV F n (cost,rows)->
 Calls prog 104 #[.pointer (some ⟨S,0,none⟩),yv] w fun e w'=>e=.returned (.tuple #[])/\mA S F W0 rv (kI F n r (cost,rows)) w w'
end
section
open Go.RowKit
theorem Tryz.OV:(prog.info? 209).map (fun i=>(i.zero,i.size,i.bytes))=some (some (.agg #[.int .i64 0,.bool false]),2,16):=by kernel_rfl
theorem Tryz.Lp:(prog.info? 204).map (fun i=>(i.zero,i.size,i.bytes))=some (some (.slice none 0 0),1,24):=by kernel_rfl
theorem Tryz.IX(args:Array Value)(w:World):(callFunc 111 args).run prog w=.ok (.enter 111 args) w:=by go_simp
theorem Tryz.Ra(args:Array Value)(w:World):(callFunc 109 args).run prog w=.ok (.enter 109 args) w:=by go_simp
theorem B5(l:VL):(l.flatMap vC).length=l.length*2:=by
 induction l with
 | nil=>rfl
 | cons a t ih=>rw[vz,r7,ih];simp[vC];omega
theorem Ih:∀(l:VL) (k:Nat) (m x:Int),l[k]?=some (some x)->(l.flatMap vC).set (k*2) (.int .i64 m)=(l.set k (some m)).flatMap vC
 | [],k,m,x,h=>by simp at h
 | a::l,0,m,x,h=>by
  simp only[List.getElem?_cons_zero,Option.some.injEq] at h;subst h;simp[vC]
 | a::l,k+1,m,x,h=>by
  have ih:=Ih l k m x (by simpa using h);rw[ud,vz,vz,<-ih];have b:(k+1)*2=k*2+1+1:=by omega
  rw[b];simp[vC]
theorem IU:∀(l:VL) (k:Nat),l[k]?=some none->(l.flatMap vC).set (k*2+1) (.bool true)=(l.set k (some 0)).flatMap vC
 | [],k,h=>by simp at h
 | a::l,0,h=>by
  simp only[List.getElem?_cons_zero,Option.some.injEq] at h;subst h;simp[vC]
 | a::l,k+1,h=>by
  have ih:=IU l k (by simpa using h);rw[ud,vz,vz,<-ih];have b:(k+1)*2+1=k*2+1+1+1:=by omega
  rw[b];simp[vC]
theorem tZ{B g cap k:Nat}{l:VL}{w:World}(h:w.ownsRow B 209 2 (.slice (some ⟨g,0,none⟩) n cap) n (l.flatMap vC))(a:l.length=n)(hk:k<l.length):w.cell? ⟨g,k*2,none⟩=some (.int .i64 (l[k].getD 0))/\w.cell? ⟨g,k*2+1,none⟩=some (.bool l[k].isSome)/\w.frozen? ⟨g,k*2,none⟩=false/\w.frozen? ⟨g,k*2+1,none⟩=false:=by
 refine⟨?_,?_,h.frozenAt _,h.frozenAt _⟩
 ·rw[h.cellAt _ (by omega)];exact lF (k:=2) vC (fun _=>rfl) l k hk 0 (by omega)
 ·rw[h.cellAt _ (by omega)];exact lF (k:=2) vC (fun _=>rfl) l k hk 1 (by omega)
structure wG(B:Nat)(ov:Value)(vals:List Value)(outs:List VL)(w:World):Prop where
 row:w.ownsRow B 204 1 ov outs.length vals
 each:∀(i:Nat) (h:i<outs.length),∃v,vals[i]?=some v/\w.ownsRow B 209 2 v outs[i].length (outs[i].flatMap vC)
 apart:∀(i j k:Nat) (v u:Value),vals[i]?=some v->vals[j]?=some u->v.ownBlock=some k->u.ownBlock=some k->i=j
variable {B:Nat} {ov:Value} {vals:List Value} {outs:List VL} {w w2:World}
theorem wG.below(h:wG B ov vals outs w)(a:Below w.heap.size w w2):wG B ov vals outs w2:=
 ⟨h.row.kept (ag a none) (by cases ov.ownBlock<;>simp),fun i hi=>by
  obtain⟨v,c,b⟩:=h.each i hi;exact⟨v,c,b.kept (ag a none) (by cases v.ownBlock<;>simp)⟩,h.apart⟩
theorem wG.RP(h:wG B ov vals outs w):vals.length=outs.length:=by have:=h.row.1;omega
theorem wG.nil(B:Nat)(w:World):wG B (.slice none 0 0) [] [] w:=⟨tj _ _ _ _,fun i hi=>absurd hi (by simp),fun i j k v u h=>by simp at h⟩
theorem wG.fresh(h:wG B ov vals outs w):∀u∈vals,∀k,u.ownBlock=some k->k<w.heap.size:=fun u hu k hk=>by
 obtain⟨i,hi⟩:=List.getElem?_of_mem hu;have b:i<outs.length:=by have:=(List.getElem?_eq_some_iff.1 hi).1;rw[h.RP] at this;exact this
 obtain⟨v,a,c⟩:=h.each i b;rw[hi] at a;injection a with a
 subst a;exact(c.lt k hk).2
theorem wG.add{g:Nat}{v f:Value}{l:VL}(h:wG B ov vals outs w)(y:B<=g)(r:∀u∈vals,∀k,u.ownBlock=some k->k<g)(o:w.ownsRow g 209 2 v l.length (l.flatMap vC))(z:w.grownBy w2 ov.ownBlock)(A:w2.ownsRow B 204 1 f (outs.length+1) (vals++[v])):wG B f (vals++[v]) (outs++[l]) w2:=by
 have hk:∀{B' n:Nat} {u:Value} {x:List Value},w.ownsRow B' 209 2 u n x->w2.ownsRow B' 209 2 u n x:=fun hu=>hu.kept z (bT hu h.row (by decide));have q:=h.RP;refine⟨by rw[r7,x6];exact A,fun i hi=>?_,fun i j k a b ha hb2 hak hbk=>?_⟩
 ·rcases ua i outs.length with h1|h1
  ·obtain⟨u,hu,p⟩:=h.each i h1;refine⟨u,by rw[Mc (by omega)];exact hu,?_⟩;rw[F5 h1];exact hk p
  ·obtain rfl:i=outs.length:=by simp at hi;omega
   refine⟨v,by rw[F7 (by omega),q];simp,?_⟩;rw[GX (rm _)];simp only[F3,r9];exact fo (hk o) y
 ·have c:∀(m:Nat) (u:Value),(vals++[v])[m]?=some u->(vals[m]?=some u)\/(m=vals.length/\u=v):=fun m u hm=>by
   rcases ua m vals.length with h1|h1
   ·rw[Mc h1] at hm;exact ad hm
   ·have d:=(List.getElem?_eq_some_iff.1 hm).1;rw[r7,x6] at d;obtain rfl:m=vals.length:=by omega
    rw[F7 (rm _)] at hm;simp at hm;exact a6 ⟨rfl,hm.symm⟩
  rcases c i a ha with h1|⟨h1,rfl⟩
  ·rcases c j b hb2 with d|⟨d,rfl⟩
   ·exact h.apart i j k a b h1 d hak hbk
   ·have s:=r a (zs h1) k hak;have t:=(o.lt k hbk).1;omega
  ·rcases c j b hb2 with d|⟨d,rfl⟩
   ·have s:=r b (zs d) k hbk;have t:=(o.lt k hak).1;omega
   ·omega
theorem wG.putAt{g cap c:Nat}{u:Value}{y:VL}(h:wG B ov vals outs w)(m:j<outs.length)(k:vals[j]?=some (.slice (some ⟨g,0,none⟩) n cap))(o:outs[j].length=n)(p:(outs[j].flatMap vC).set c u=y.flatMap vC)(l:y.length=n):wG B ov vals (outs.set j y) (w.setCell ⟨g,c,none⟩ u):=by
 have g2:=aE w g c u;obtain⟨v,a,d⟩:=h.each j m;rw[k] at a;injection a with a
 subst a;rw[o] at d;refine⟨?_,fun i hi=>?_,h.apart⟩
 ·rw[zp];refine h.row.kept g2 ?_;have h1:=bT h.row d (by decide);exact h1
 ·rw[zp] at hi;by_cases b:j=i
  ·subst b;refine⟨_,k,?_⟩;rw[List.getElem_set_self,l];have:=(d.stored c u).1
   rwa [p] at this
  ·obtain⟨v,a,f⟩:=h.each i hi;refine⟨v,a,?_⟩;rw[List.getElem_set_ne b];exact f.kept g2 (a6 fun e=>b (h.apart j i g _ v k a rfl e))
theorem wG.at_(h:wG B ov vals outs w)(i:j<outs.length)(hp:0<outs[j].length):∃og oc g cap,ov=.slice (some ⟨og,0,none⟩) outs.length oc/\w.cell? ⟨og,j,none⟩=some (.slice (some ⟨g,0,none⟩) outs[j].length cap)/\vals[j]?=some (.slice (some ⟨g,0,none⟩) outs[j].length cap)/\w.ownsRow B 209 2 (.slice (some ⟨g,0,none⟩) outs[j].length cap) outs[j].length (outs[j].flatMap vC)/\w.frozen? ⟨og,j,none⟩=false:=by
 obtain⟨v,c,b⟩:=h.each j i;have a:=h.row;rcases b.2 with ⟨_,f⟩|⟨g,cap,k,rfl,_⟩
 ·omega
 ·rcases a.2 with ⟨_,f⟩|⟨og,oc,d,rfl,_⟩
  ·omega
  ·refine⟨og,oc,g,cap,rfl,?_,c,b,a.frozenAt _⟩;rw[a.cellAt j (by omega)];exact c
end
section
open Go.RowKit
variable {S:Nat} {F:SF} {W0:World} {cost:Int} {rv:Value} {vals:List Value} {rows:List (List Nat)} {w w2:World}
theorem I1(Q:vt S F W0 n)(h:kM S F W0 cost rv vals rows w)(hy:w.ownsRow W0.heap.size 3 1 yv r.length (kE r))(W:r=[]->yv=.slice none 0 0)(Ai:r.length+(n+1)=F.q.ah.length)(R:∀i∈r,i<F.sm.length)(ha:a<F.sm.length)(x:BV F 1 (cost,rows))(m:0<=F.bud/\F.bud<=5000):
  Calls prog 150 #[.pointer (some ⟨S,0,none⟩),yv,.int .i64 (a:Int)] w fun e w'=>e=.returned (.tuple #[])/\mA S F W0 rv (eE F (kI F n) r (cost,rows) a) w w':=by
 obtain⟨i1,hj,X,Y,Z⟩:=info_parts Tryz.Cm;have h6:=h.fix.small.1;have Ad:=h.fix.small.2.2.2.1;have Ae:=m.1;have Af:=m.2;have Ag:0<=cost:=by have:=x.1;simp at this;omega
 have Ah:cost<=5001:=by have:=x.2;simp only at this;omega
 have Aa:(kE r).length=r.length*1:=by simp[kE]
 have A:=p9 (QR (a:=a) h.bJ h.fx (aJ hy Aa) (by omega) ha);have f:qv (eE F (kI F n) r (cost,rows) a=if qD F.sm F.q.ah r a=true/\cost<=F.bud then kI F n (r++[a]) (cost+1,rows) else (cost,rows)):=p9 rfl;have H:=p9 h;have HY:=p9 hy;have A7:=p9 W;have A0:=p9 x;have A4:=p9 R;have A3:=p9 Q;clear h hy W x R Q m;generalize qD F.sm F.q.ah r a=ft at A f;go_enter func150,ntmps150
 go_wp2_with fail;refine A.o.mono ?_;rintro e W1 ⟨rfl,k⟩;have H1:=p9 (H.o.below k);have N:=p9 (HY.o.kept (ag k none) (by cases (Value.ownBlock _)<;>simp));have l:=p9 k;have E:=H1.o.bJ.at_ 19 (.int .i64 cost) rfl;have A8:=H1.o.bJ.at_ 20 (.int .i64 F.bud) rfl;clear k A;go_upto_region 1 with fail;cases ft with
 | false=>
  rw[bk (by simp)] at f;go_quiet (fail)
  go_wp2_with fail
  (try simp only[Exit.inBlock,Exit.then])
  refine bodyPost_ret (results_none rfl _ _ _) rfl ?_;exact⟨rfl,by rw[f.o];exact mA.below (st:=(cost,rows)) H.o (l.o.trans (Joins.below_draws _ _ nq))⟩
 | true=>
  by_cases O:cost<=F.bud
  ·rw[a8 ⟨rfl,O⟩] at f;have A9:¬F.bud<cost:=by omega
   go_quiet (fail)
   have t:Below W1.heap.size W1 (W1.drewN nq):=Joins.below_draws _ _ nq;have K:=p9 (H1.o.below t);have s:=p9 (N.o.kept (ag t none) (by cases (Value.ownBlock _)<;>simp));have y:=p9 (l.o.trans (t.mono l.o.size));clear H1 N l t E A8;generalize W1.drewN nq=W2 at K s y⊢;have E:=K.o.bJ.at_ 19 (.int .i64 cost) rfl;have f19:=K.o.bJ.free 19;go_upto_region 4 with fail;have H3:=p9 K.o.T2;have C:=p9 (s.o.kept (aE W2 S 19 (.int .i64 (cost+1))) (a6 fun e=>aR s.o K.o.bJ (by decide) e));have L:qv (Kept (ym S rv) w (W2.setCell ⟨S,19,none⟩ (.int .i64 (cost+1)))):=p9 (((Kept.refl _ w).below y.o).then (aE W2 S 19 _) (fun b k=>ad (ad (by injection k with k;exact k.symm))));clear K s y E f19;generalize W2.setCell ⟨S,19,none⟩ (.int .i64 (cost+1))=D at H3 C L⊢;go_cut [7] (fun v z=>z.ownsRow D.heap.size 3 1 v r.length (kE r)/\Below D.heap.size D z)
   case first=>
    cases r with
    | nil=>
     have:=A7.o rfl;subst this;go_wp2_with fail;go_meet
     case rel=>exact⟨tj _ _ _ _,r5 _ _⟩
    | cons r0 rs=>
     obtain⟨yg,yc,Ab⟩:∃yg yc,yv=.slice (some ⟨yg,0,none⟩) (r0::rs).length yc:=by
      rcases C.o.2 with ⟨_,h0⟩|⟨g,cap,fL,hv,_⟩
      ·simp at h0
      ·exact⟨g,cap,hv⟩
     subst Ab;go_wp2_with (at_builtin;go_must (refine wpList_append_own _ rfl _ _ 206 rfl D.heap.size 3 i1 (.int .i64 0) 1 8 underlying206 hj X Y Z rfl (by decide) (.slice none 0 0) 0 [] rfl (tj _ _ _ _) ⟨yg,0,none⟩ (r0::rs).length yc (kE (r0::rs)) rfl (by simp[kE]) (fun j u hu=>C.o.cells rfl j u hu) (by simp[kE,Value.oneCell']) (by unfold maxLen;omega) (by omega) (rm _) ?_);intro v' w5 d c _;have A5:=p9 d;have A1:=p9 c;clear d c)
     go_meet
     case rel=>exact⟨by simpa using A5.o,(r5 _ _).grown A1.o (rm _) (fun b k=>by cases k)⟩
   case rest=>
    obtain⟨V,p⟩:=hcut;have M:=p9 (V.alloc (.cells #[.int .i64 (a:Int)] 3));have B:=p9 (p.alloc p.size (.cells #[.int .i64 (a:Int)] 3));clear V p;go_wp2_with (at_builtin;go_must (refine wpList_append_own _ rfl _ _ 206 rfl D.heap.size 3 i1 (.int .i64 0) 1 8 underlying206 hj X Y Z rfl (by decide) _ _ _ rfl M.o ⟨wc.heap.size,0,none⟩ 1 1 [.int .i64 (a:Int)] rfl rfl (World.news_of_block (heap_alloc_new wc _)) (by simp[Value.oneCell']) (by unfold maxLen;omega) (by omega) B.o.size ?_);intro v' w6 d c U;have A6:=p9 d;have A2:=p9 c;clear d c U)
    have G:Below D.heap.size D w6:=B.o.grown A2.o B.o.size (fun b k=>(M.o.lt b k).1);refine(A3.o (r++[a]) v' (cost+1) rv vals rows w6 (H3.o.below G) ?_ (fun e=>by simp at e) (by simp;omega) (fun i hi=>?_) ⟨?_,by simp only;omega⟩).mono ?_
    ·have:=fo A6.o H3.o.low.size
     simpa [kE] using this
    ·rcases List.mem_append.1 hi with hi|hi
     ·exact A4.o i hi
     ·simp only[vA] at hi;subst hi;exact ha
    ·have:=A0.o.1;simp only[Nat.one_ne_zero,if_false] at this;simp only;split<;>omega
    ·rintro e w7 ⟨rfl,Ac,J,h7,T,P⟩;have I:=L.o.below G;have HP:qv (mA S F W0 rv (kI F n (r++[a]) (cost+1,rows)) w w7):=p9 ⟨Ac,J,h7,I.trans T,fun b k=>(P b k).imp id fun e=>r8 I.size e⟩;clear h7 T P I G;go_wp2_with fail;go_end0;exact⟨rfl,by rw[f.o];exact HP.o⟩
  ·rw[bk (by rintro ⟨_,e⟩;exact O e)] at f;have A9:F.bud<cost:=by omega
   go_quiet (fail)
   go_wp2_with fail
   (try simp only[Exit.inBlock,Exit.then])
   refine bodyPost_ret (results_none rfl _ _ _) rfl ?_;exact⟨rfl,by rw[f.o];exact mA.below (st:=(cost,rows)) H.o (l.o.trans (Joins.below_draws _ _ nq))⟩
end
end Go.Proofs.YtbfmmmjkjhjleaaGreatDoor
