/- Mine. -/
import Derived.Test.YtbfmmmjkjhjleaaGreatDoorC12
set_option maxRecDepth 100000
set_option maxHeartbeats 0
namespace Go.Proofs.YtbfmmmjkjhjleaaGreatDoor
open Go.Proofs.Tryz
variable {W w W0:World} {b n m Sb k o g B j:Nat} {T:TypeId} {vn ve v:Value} {S:Int->Bool} {f:ByteArray->Option Int} {cs:Array Value} {xs:List Value}
section
open Go.RowKit Go.Maps
theorem Om{ao:Option Addr}{cap:Nat}{l:List aH}{n:Int}(Z:l.length<=1000000)(P:l.Pairwise (fun a b=>a.num<b.num))(h:dj W 3 (.slice ao l.length cap) l.length (l.flatMap jO)):
  Calls prog 191 #[.slice ao l.length cap,.int .i64 n,.func (.func 192) #[] #[]] W fun e W'=>Below W.heap.size W W'/\∃i:Nat,i<=l.length/\(∀t (r:t<l.length),t<i->l[t].num<n)/\(∀t (r:t<l.length),i<=t->n<=l[t].num)/\e=.returned (.tuple #[.int .i64 i,.bool (l[i]?.any (fun x=>x.num==n))]):=by
 have N:=p9 h;have R:=p9 P;clear h P;go_enter func191,ntmps191
 go_wp2_with fail;go_loopg [9,10] l.length (fun m iv jv w=>∃i j:Nat,iv=.int .i64 (i:Int)/\jv=.int .i64 (j:Int)/\i<=j/\j<=l.length/\j - i=m/\(∀t (r:t<l.length),t<i->l[t].num<n)/\(∀t (r:t<l.length),j<=t->n<=l[t].num)/\Below W.heap.size W w)
 case atStart=>exact⟨0,l.length,rfl,rfl,by omega,rm _,by omega,fun t _ h=>absurd h (by omega),fun t r h=>absurd h (by omega),r5 _ _⟩
 case round=>
  obtain⟨i,j,rfl,rfl,T,Y,hm,h1,D,O⟩:=hrel;have H1:=p9 h1;have H:=p9 D;have A:=p9 O;clear h1 D O;by_cases X:i<j
  ·have E:(i:Int)<(j:Int):=by omega
   obtain⟨k,hk,U,V⟩:∃k:Nat,((i:Int)+(j:Int)) / 2=(k:Int)/\i<=k/\k<j:=⟨(i+j) / 2,by omega,by omega,by omega⟩;have B:k<l.length:=by omega
   go_upto_region 5 with fail;obtain⟨g,o,rfl,c⟩:=bC (l:=l) jO (fun _=>rfl) (N.o.below A.o) B;obtain⟨y,C⟩:∃y,l[k]=y:=⟨_,rfl⟩;have z:=p9 C;rw[C] at c;have K:wr.cell? ⟨g,o+k*3,none⟩=some (.int .i64 y.num):=c 0 (by decide);have L:wr.cell? ⟨g,o+k*3+1,none⟩=some (.string y.ai):=c 1 (by decide);have M:wr.cell? ⟨g,o+k*3+2,none⟩=some (.map (some y.bJ)):=c 2 (by decide);have G:(k:Int)<(l.length:Int):=by omega
   clear c C hk;go_wp2_with fail;refine(LH y n wr).mono ?_;rintro e S ⟨rfl,q⟩;have s:=p9 (A.o.trans (q.mono A.o.size));clear q K L M;have p:qv (∀t u (r:t<l.length) (hu:u<l.length),t<u->l[t].num<l[u].num):=p9 (fun t u r hu htu=>List.pairwise_iff_getElem.1 R.o t u r hu htu);by_cases d:y.num<n
   ·have I:Lib.compareInt y.num n=-1:=by unfold Lib.compareInt;rw[a8 d]
    rw[I];clear I;have f:=p9 d;clear d;go_wp2_with fail;go_roundg (j - (k+1))
    case rel=>
     refine⟨k+1,j,by simp,rfl,by omega,by omega,rfl,?_,H.o,s.o⟩;intro t r J;by_cases e:t=k
     ·subst e;rw[z.o];exact f.o
     ·have:=p.o t k r B (by omega);rw[z.o] at this;have:=f.o;omega
    case measure=>omega
   ·have I:¬Lib.compareInt y.num n<0:=by unfold Lib.compareInt;rw[bk d];split<;>omega
    have f:=p9 d;clear d;go_wp2_with fail;go_roundg (k - i)
    case rel=>
     refine⟨i,k,rfl,rfl,by omega,by omega,rfl,H1.o,?_,s.o⟩;intro t r J;by_cases e:t=k
     ·subst e;rw[z.o];have:=f.o;omega
     ·have:=p.o k t B r (by omega);rw[z.o] at this;have:=f.o;omega
    case measure=>omega
  ·have E:¬(i:Int)<(j:Int):=by omega
   obtain rfl:i=j:=by omega
   by_cases F:i<l.length
   ·obtain⟨g,o,rfl,c⟩:=bC (l:=l) jO (fun _=>rfl) (N.o.below A.o) F;obtain⟨y,C⟩:∃y,l[i]=y:=⟨_,rfl⟩;have z:qv (l[i]?=some y):=p9 (by rw[r6 F,C]);rw[C] at c;have K:wr.cell? ⟨g,o+i*3,none⟩=some (.int .i64 y.num):=c 0 (by decide);have L:wr.cell? ⟨g,o+i*3+1,none⟩=some (.string y.ai):=c 1 (by decide);have M:wr.cell? ⟨g,o+i*3+2,none⟩=some (.map (some y.bJ)):=c 2 (by decide);have G:(i:Int)<(l.length:Int):=by omega
    clear c C;go_wp2_with fail;refine(LH y n wr).mono ?_;rintro e S ⟨rfl,q⟩;have s:=p9 (A.o.trans (q.mono A.o.size));clear q K L M;have Q:qv ((Lib.compareInt y.num n==0)=(y.num==n)):=p9 (by
     unfold Lib.compareInt;by_cases h1:y.num<n
     ·rw[a8 h1];simp;omega
     ·rw[bk h1];by_cases D:y.num > n
      ·rw[a8 D];simp;omega
      ·rw[bk D];simp;omega)
    go_wp2_with fail;refine bodyPost_ret (v:=.tuple #[.int .i64 i,.bool (Lib.compareInt y.num n==0)]) ?_ rfl ⟨s.o,i,by omega,H1.o,H.o,by rw[z.o,Q.o];rfl⟩;simp[results,results191,go_sem]
   ·have G:¬(i:Int)<(l.length:Int):=by omega
    have z:qv (l[i]?=none):=p9 (by rw[x7 (by omega)]);go_wp2_with fail;refine bodyPost_ret (v:=.tuple #[.int .i64 i,.bool false]) ?_ rfl ⟨A.o,i,by omega,H1.o,H.o,by rw[z.o];rfl⟩;simp[results,results191,go_sem]
abbrev db:=ByteArray × Nat × (bF->Bool)
def nW(x:db):List Value:=[.string x.1,.map (some x.2.1)]
def kW(l:List db)(nm:ByteArray):Option db:=l.find? (fun x=>x.1.toList==nm.toList)
def EF:Option db->Value
 | some x=>.tuple #[.agg #[.string x.1,.map (some x.2.1)],.bool true]
 | none=>.tuple #[.agg #[.string ⟨#[]⟩,.map none],.bool false]
theorem Bg{α:Type}{l:List α}{p:α->Bool}(hk:k<l.length)(h:(l.take k).find? p=none):(l.take (k+1)).find? p=if p l[k] then some l[k] else none:=by
 rw[tt,List.find?_append,h,r6 hk];simp
theorem rB{α:Type}{l:List α}{p:α->Bool}(hk:k<l.length)(h:(l.take k).find? p=none)(hp:p l[k]=true):l.find? p=some l[k]:=by
 have h1:=Bg hk h;rw[a8 hp] at h1;have a:(l.take (k+1)++l.drop (k+1)).find? p=some l[k]:=by rw[List.find?_append,h1];rfl
 rwa [Mp] at a
theorem N0{ao:Option Addr}{cap:Nat}{l:List db}{nm:ByteArray}(N:l.length<=6)(h:dj W 2 (.slice ao l.length cap) l.length (l.flatMap nW)):
  Calls prog 34 #[.agg #[.slice ao l.length cap],.string nm] W fun e W'=>e=.returned (EF (kW l nm))/\Below W.heap.size W W':=by
 have K:=p9 h;have u:=p9 ((r5 W.heap.size W).alloc (rm _) (.cells #[.slice ao l.length cap] 58));have z:=p9 (Loc.new (W.alloc (.cells #[.slice ao l.length cap] 58)) #[.string ⟨#[]⟩,.map none] 104);have d:=p9 (u.o.alloc u.o.size (.cells #[.string ⟨#[]⟩,.map none] 104));have s:=p9 u.o.size;clear h u;go_enter func34,ntmps34
 go_wp2_with fail;obtain⟨X,D⟩:∃X,X=(W.alloc (.cells #[.slice ao l.length cap] 58)).heap.size:=⟨_,rfl⟩;have t:X=W.heap.size+1:=by rw[D];simp
 rw[<-D] at z s;rw[<-t];clear D t;generalize (W.alloc (.cells #[.slice ao l.length cap] 58)).alloc (.cells #[.string ⟨#[]⟩,.map none] 104)=M at z d⊢;go_loopg [11] l.length (fun n iv w=>∃k:Nat,iv=.int .i64 (k:Int)/\k+n=l.length/\(l.take k).find? (fun x=>x.1.toList==nm.toList)=none/\Loc w X #[.string ⟨#[]⟩,.map none] 104/\Below W.heap.size W w)
 case atStart=>exact⟨0,rfl,by omega,by simp,z.o,d.o⟩
 case round=>
  obtain⟨k,rfl,hk,H,J,G⟩:=hrel;have A:=p9 H;have a:=p9 J;have c:=p9 G;clear H J G z d;by_cases r:k<l.length
  ·obtain⟨g,o,rfl,b⟩:=bC (l:=l) nW (fun _=>rfl) (K.o.below c.o) r;obtain⟨y,F⟩:∃y,l[k]=y:=⟨_,rfl⟩;have C:=p9 F;rw[F] at b;have O:wr.cell? ⟨g,o+k*2,none⟩=some (.string y.1):=b 0 (by decide);have P:wr.cell? ⟨g,o+k*2+1,none⟩=some (.map (some y.2.1)):=b 1 (by decide);have E:(k:Int)<(l.length:Int):=by omega
   clear b F;cases I:(y.1.toList==nm.toList) with
   | true=>
    have f:=p9 (a.o.alloc (.cells #[.string y.1,.map (some y.2.1)] 104));have d:=p9 (c.o.alloc c.o.size (.cells #[.string y.1,.map (some y.2.1)] 104));have x0:(wr.alloc (.cells #[.string y.1,.map (some y.2.1)] 104)).cell? ⟨X,0,none⟩=some (.string ⟨#[]⟩):=(f.o.cell 0).trans rfl;have x1:(wr.alloc (.cells #[.string y.1,.map (some y.2.1)] 104)).cell? ⟨X,1,none⟩=some (.map none):=(f.o.cell 1).trans rfl;have m:=f.o.free 0;have q:=f.o.free 1;go_wp2_with fail;have i:=p9 ((f.o.set 0 (.string y.1)).set 1 (.map (some y.2.1)));have j:=p9 ((d.o.setCell (p:=⟨X,0,none⟩) s.o (.string y.1)).setCell (p:=⟨X,1,none⟩) s.o (.map (some y.2.1)));clear x0 x1 m q f d a c;generalize ((wr.alloc (.cells #[.string y.1,.map (some y.2.1)] 104)).setCell ⟨X,0,none⟩ (.string y.1)).setCell ⟨X,1,none⟩ (.map (some y.2.1))=L at i j⊢;have x0:=i.o.at_ 0 (.string y.1) rfl;have x1:=i.o.at_ 1 (.map (some y.2.1)) rfl;have B:qv (kW l nm=some y):=p9 (by unfold kW;rw[rB r A.o (by rw[C.o];exact I),C.o]);refine bodyPost_ret (v:=.tuple #[.agg #[.string y.1,.map (some y.2.1)],.bool true]) ?_ rfl ⟨by rw[B.o];rfl,j.o⟩;simp[results,results34,go_sem,x0,x1]
   | false=>
    have f:=p9 (a.o.alloc (.cells #[.string y.1,.map (some y.2.1)] 104));have d:=p9 (c.o.alloc c.o.size (.cells #[.string y.1,.map (some y.2.1)] 104));go_wp2_with fail;go_roundg (gk - 1)
    case rel=>
     refine⟨k+1,by simp,by omega,?_,f.o,d.o⟩;rw[Bg r A.o,C.o];simp only[I];rfl
    case measure=>omega
  ·have E:¬(k:Int)<(l.length:Int):=by omega
   have x0:=a.o.at_ 0 (.string ⟨#[]⟩) rfl;have x1:=a.o.at_ 1 (.map none) rfl;have m:=a.o.free 0;have q:=a.o.free 1;have B:qv (kW l nm=none):=p9 (by unfold kW;have:=A.o;rwa [uB (by omega)] at this);go_wp2_with fail;have i:=p9 ((a.o.set 0 (.string ⟨#[]⟩)).set 1 (.map none));have j:=p9 ((c.o.setCell (p:=⟨X,0,none⟩) s.o (.string ⟨#[]⟩)).setCell (p:=⟨X,1,none⟩) s.o (.map none));clear x0 x1 m q a c;generalize (wr.setCell ⟨X,0,none⟩ (.string ⟨#[]⟩)).setCell ⟨X,1,none⟩ (.map none)=L at i j⊢;have x0:=i.o.at_ 0 (.string ⟨#[]⟩) rfl;have x1:=i.o.at_ 1 (.map none) rfl;refine bodyPost_ret (v:=.tuple #[.agg #[.string ⟨#[]⟩,.map none],.bool false]) ?_ rfl ⟨by rw[B.o];rfl,j.o⟩;simp[results,results34,go_sem,x0,x1]
theorem rX:Keyed prog 9:=string_keyed underlying9
theorem uH{s:ByteArray}(h:s.size<=maxLen):keyOf prog 9 (.string s)=some (.string s.data.toList):=by
 simp[keyOf,mapKey,underlying9,h]
theorem pj(w:World):(zeroValue 3).run prog w=.ok (.int .i64 0) w:=by kernel_rfl
def cK(W:World)(b n:Nat)(f:ByteArray->Option Int):Prop:=∃D:DataW Unit,W.ownsMap prog 9 (plainElem prog 3) b n D/\
 ∀s:ByteArray,s.size<=maxLen->Maps.has D (.string s.data.toList)=(f s).isSome/\D.atKey (.string s.data.toList) (.lit (.int .i64 0))=.lit (.int .i64 ((f s).getD 0))
theorem cK.kept{W w:World}{b n:Nat}{f:ByteArray->Option Int}{row:Option Nat}(h:cK W b n f)(d:W.grownBy w row)(a:some b≠row):cK w b n f:=by
 obtain⟨D,g,c⟩:=h;exact⟨D,g.kept d a,c⟩
theorem cK.lt{W:World}{b n:Nat}{f:ByteArray->Option Int}(h:cK W b n f):b<W.heap.size:=by
 obtain⟨D,a,_⟩:=h;exact a.lt
structure jq(b o:Nat)(ns:List aH)(es:List bK)(m:Nat)(W:World):Prop where
 cn:∃ao cap,W.cell? ⟨b,o,none⟩=some (.slice ao ns.length cap)/\dj W 3 (.slice ao ns.length cap) ns.length (ns.flatMap jO)
 ce:∃ao cap,W.cell? ⟨b,o+1,none⟩=some (.slice ao es.length cap)/\dj W 3 (.slice ao es.length cap) es.length (es.flatMap MW)
 nk:ns.Pairwise (fun a b=>a.num<b.num)
 rY:ns.length<=1000000/\es.length<=1000000
 bf:∀x∈ns,cK W x.bJ m x.bf
theorem jq.below{b o m:Nat}{ns:List aH}{es:List bK}{W w:World}(h:jq b o ns es m W)(a:Below W.heap.size W w):jq b o ns es m w:=by
 obtain⟨d,g,c1,s1⟩:=h.cn;obtain⟨c,f,c2,s2⟩:=h.ce;exact⟨⟨d,g,(a.cell (block_lt_of_cell c1)).trans c1,s1.below a⟩,⟨c,f,(a.cell (block_lt_of_cell c2)).trans c2,s2.below a⟩,h.nk,h.rY,fun x hx=>(h.bf x hx).kept (ag a none) (by simp)⟩
def nodeAt(l:List aH)(n:Int):Option aH:=l.find? (fun x=>x.num==n)
def Iq:Option aH->Value
 | some x=>.tuple #[.agg #[.int .i64 x.num,.string x.ai,.map (some x.bJ)],.bool true]
 | none=>.tuple #[.agg #[.int .i64 0,.string ⟨#[]⟩,.map none],.bool false]
theorem J7{l:List aH}{n:Int}{i:Nat}(h1:∀t (d:t<l.length),t<i->l[t].num<n)(j:∀t (d:t<l.length),i<=t->n<=l[t].num)(k:l.Pairwise (fun a b=>a.num<b.num)):
  nodeAt l n=if l[i]?.any (fun x=>x.num==n) then l[i]? else none:=by
 unfold nodeAt;have c:(l.take i).find? (fun x=>x.num==n)=none:=by
  rw[List.find?_eq_none];intro x h;obtain⟨t,d,rfl⟩:=zc h;simp only[List.getElem_take,v8] at d⊢;have:=h1 t (by omega) (by omega);simp;omega
 by_cases hi:i<l.length
 ·rw[r6 hi];cases hp:(l[i].num==n) with
  | true=>rw[rB hi c hp];simp[hp]
  | false=>
   simp only[Option.any_some,hp,th,if_false];rw[List.find?_eq_none];intro x h;obtain⟨t,d,rfl⟩:=zc h;have f:l[i].num≠n:=by simpa using hp
   simp;by_cases g:t<i
   ·have:=h1 t d g;omega
   ·have:=j i hi (rm _);by_cases e:t=i
    ·subst e;exact f
    ·have:=List.pairwise_iff_getElem.1 k i t hi d (by omega);omega
 ·rw[x7 (by omega)];rw[uB (by omega)] at c
  simpa using c
theorem Qi{ns:List aH}{es:List bK}{n:Int}(h:jq b o ns es m W):
  Calls prog 137 #[.pointer (some ⟨b,o,none⟩),.int .i64 n] W fun e W'=>e=.returned (Iq (nodeAt ns n))/\Below W.heap.size W W':=by
 obtain⟨ao,cap,L,x⟩:=h.cn;have k:=p9 ((r5 W.heap.size W).alloc (rm _) (.cells #[.int .i64 0,.string ⟨#[]⟩,.map none] 138));have s:=p9 (Loc.new W #[.int .i64 0,.string ⟨#[]⟩,.map none] 138);have H:=p9 (h.below k.o);have F:=p9 (x.below k.o);have G:(W.alloc (.cells #[.int .i64 0,.string ⟨#[]⟩,.map none] 138)).cell? ⟨b,o,none⟩=some (.slice ao ns.length cap):=(k.o.cell (block_lt_of_cell L)).trans L;clear L x h;go_enter func137,ntmps137
 go_upto_region 1 with fail;obtain⟨X,K⟩:∃X,X=W.heap.size:=⟨_,rfl⟩;have r:=p9 (Nat.le_of_eq K.symm);rw[<-K] at s⊢;clear K;generalize W.alloc (.cells #[.int .i64 0,.string ⟨#[]⟩,.map none] 138)=S at k s H F G⊢;go_wp2_with fail;refine(Om H.o.rY.1 H.o.nk F.o).mono ?_;rintro e z ⟨D,i,hi,h1,P,rfl⟩;have q:=p9 (k.o.trans (D.mono k.o.size));have c:=p9 (s.o.grown (ag D none) (by simp));have u:=p9 (J7 h1 P H.o.nk);have c2:z.cell? ⟨b,o,none⟩=some (.slice ao ns.length cap):=(D.cell (block_lt_of_cell G)).trans G;have I:=p9 (F.o.below D);have Q:=H.o.rY.1;clear h1 P D k s F H G;have x0:=c.o.at_ 0 (.int .i64 0) rfl;have x1:=c.o.at_ 1 (.string ⟨#[]⟩) rfl;have x2:=c.o.at_ 2 (.map none) rfl;have A:=c.o.free 0;have B:=c.o.free 1;have C:=c.o.free 2;by_cases E:i<ns.length
 ·obtain⟨y,M⟩:∃y,ns[i]=y:=⟨_,rfl⟩;have t:ns[i]?=some y:=by rw[r6 E,M]
  rw[t] at u⊢;simp only[Option.any_some] at u⊢;obtain⟨g,N,rfl,d⟩:=bC (l:=ns) jO (fun _=>rfl) I.o E;rw[M] at d;have T:z.cell? ⟨g,N+i*3,none⟩=some (.int .i64 y.num):=d 0 (by decide);have U:z.cell? ⟨g,N+i*3+1,none⟩=some (.string y.ai):=d 1 (by decide);have V:z.cell? ⟨g,N+i*3+2,none⟩=some (.map (some y.bJ)):=d 2 (by decide);have R:(i:Int)<(ns.length:Int):=by omega
  clear d M t;obtain⟨J,w⟩:∃f,(y.num==n)=f:=⟨_,rfl⟩;simp only[w] at u⊢;clear w;cases J with
  | true=>
   go_wp2_with fail;have a:=p9 (((c.o.set 0 (.int .i64 y.num)).set 1 (.string y.ai)).set 2 (.map (some y.bJ)));have j:=p9 (((q.o.setCell (p:=⟨X,0,none⟩) r.o (.int .i64 y.num)).setCell (p:=⟨X,1,none⟩) r.o (.string y.ai)).setCell (p:=⟨X,2,none⟩) r.o (.map (some y.bJ)));clear x0 x1 x2 A B C c2 c q;generalize ((z.setCell ⟨X,0,none⟩ (.int .i64 y.num)).setCell ⟨X,1,none⟩ (.string y.ai)).setCell ⟨X,2,none⟩ (.map (some y.bJ))=O at a j⊢;have x0:=a.o.at_ 0 (.int .i64 y.num) rfl;have x1:=a.o.at_ 1 (.string y.ai) rfl;have x2:=a.o.at_ 2 (.map (some y.bJ)) rfl;refine bodyPost_ret (v:=.tuple #[.agg #[.int .i64 y.num,.string y.ai,.map (some y.bJ)],.bool true]) ?_ rfl ⟨by rw[u.o];rfl,j.o⟩;simp[results,results137,go_sem,x0,x1,x2]
  | false=>
   go_wp2_with fail;have a:=p9 (((c.o.set 0 (.int .i64 0)).set 1 (.string ⟨#[]⟩)).set 2 (.map none));have j:=p9 (((q.o.setCell (p:=⟨X,0,none⟩) r.o (.int .i64 0)).setCell (p:=⟨X,1,none⟩) r.o (.string ⟨#[]⟩)).setCell (p:=⟨X,2,none⟩) r.o (.map none));clear x0 x1 x2 A B C c2 c q;generalize ((z.setCell ⟨X,0,none⟩ (.int .i64 0)).setCell ⟨X,1,none⟩ (.string ⟨#[]⟩)).setCell ⟨X,2,none⟩ (.map none)=O at a j⊢;have x0:=a.o.at_ 0 (.int .i64 0) rfl;have x1:=a.o.at_ 1 (.string ⟨#[]⟩) rfl;have x2:=a.o.at_ 2 (.map none) rfl;refine bodyPost_ret (v:=.tuple #[.agg #[.int .i64 0,.string ⟨#[]⟩,.map none],.bool false]) ?_ rfl ⟨by rw[u.o];rfl,j.o⟩;simp[results,results137,go_sem,x0,x1,x2]
 ·have t:ns[i]?=none:=by rw[x7 (by omega)]
  rw[t] at u⊢;simp only[Option.any_none] at u⊢;go_wp2_with fail;have a:=p9 (((c.o.set 0 (.int .i64 0)).set 1 (.string ⟨#[]⟩)).set 2 (.map none));have j:=p9 (((q.o.setCell (p:=⟨X,0,none⟩) r.o (.int .i64 0)).setCell (p:=⟨X,1,none⟩) r.o (.string ⟨#[]⟩)).setCell (p:=⟨X,2,none⟩) r.o (.map none));clear x0 x1 x2 A B C c2 c q;generalize ((z.setCell ⟨X,0,none⟩ (.int .i64 0)).setCell ⟨X,1,none⟩ (.string ⟨#[]⟩)).setCell ⟨X,2,none⟩ (.map none)=O at a j⊢;have x0:=a.o.at_ 0 (.int .i64 0) rfl;have x1:=a.o.at_ 1 (.string ⟨#[]⟩) rfl;have x2:=a.o.at_ 2 (.map none) rfl;refine bodyPost_ret (v:=.tuple #[.agg #[.int .i64 0,.string ⟨#[]⟩,.map none],.bool false]) ?_ rfl ⟨by rw[u.o];rfl,j.o⟩;simp[results,results137,go_sem,x0,x1,x2]
def valueOf(ns:List aH)(n:Int)(k:ByteArray):Option Int:=(nodeAt ns n).bind (fun x=>x.bf k)
theorem FM{ns:List aH}{n:Int}{x:aH}(h:nodeAt ns n=some x):x∈ns:=Ms h
theorem ko(f:Option Int):eS f=#[.bool f.isSome,.int .i64 (f.getD 0)]:=by cases f<;>rfl
theorem Nl{ns:List aH}{es:List bK}{n:Int}{k:ByteArray}(h:jq b o ns es m W)(hk:k.size<=maxLen):
  Calls prog 129 #[.pointer (some ⟨b,o,none⟩),.int .i64 n,.string k] W fun e W'=>e=.returned (.agg (eS (valueOf ns n k)))/\Below W.heap.size W W':=by
 have j:=p9 ((r5 W.heap.size W).alloc (rm _) (.cells #[.bool false,.int .i64 0] 161));have q:=p9 (Loc.new W #[.bool false,.int .i64 0] 161);have H:=p9 (h.below j.o);have I:=p9 hk;clear h hk;go_enter func129,ntmps129
 go_upto_region 1 with fail;obtain⟨X,K⟩:∃X,X=W.heap.size:=⟨_,rfl⟩;have E:=p9 (Nat.le_of_eq K.symm);rw[<-K] at q⊢;clear K;generalize W.alloc (.cells #[.bool false,.int .i64 0] 161)=R at j q H⊢;go_wp2_with fail;refine(Qi (n:=n) H.o).mono ?_;rintro e y ⟨rfl,F⟩;have i:=p9 (j.o.trans (F.mono j.o.size));have r:=p9 (q.o.grown (ag F none) (by simp));have G:=p9 (H.o.below F);clear F j q H;cases C:nodeAt ns n with
 | none=>
  have J:qv (valueOf ns n k=none):=p9 (by unfold valueOf;rw[C];rfl);clear C;unfold Iq;have a:=p9 (r.o.alloc (.cells #[.int .i64 0,.string ⟨#[]⟩,.map none] 138));have f:=p9 (i.o.alloc i.o.size (.cells #[.int .i64 0,.string ⟨#[]⟩,.map none] 138));clear r i G;go_upto_region 2 with fail;obtain⟨Y,A⟩:∃Y,Y=y.heap.size:=⟨_,rfl⟩;have d:=p9 (Loc.new y #[.int .i64 0,.string ⟨#[]⟩,.map none] 138);rw[<-A] at d⊢;clear A;generalize y.alloc (.cells #[.int .i64 0,.string ⟨#[]⟩,.map none] 138)=z at a f d⊢;have P:=Maps.look_nil (w:=z) true rX underlying136 (pj z) (uH I.o);have L:=d.o.at_ 2 (.map none) rfl;have x0:=a.o.at_ 0 (.bool false) rfl;have x1:=a.o.at_ 1 (.int .i64 0) rfl;have t:=a.o.free 0;have u:=a.o.free 1;go_wp2_with fail;have g:=p9 ((a.o.set 0 (.bool false)).set 1 (.int .i64 0));have l:=p9 ((f.o.setCell (p:=⟨X,0,none⟩) E.o (.bool false)).setCell (p:=⟨X,1,none⟩) E.o (.int .i64 0));clear x0 x1 t u L a f d;generalize (z.setCell ⟨X,0,none⟩ (.bool false)).setCell ⟨X,1,none⟩ (.int .i64 0)=Q at g l⊢;have x0:=g.o.at_ 0 (.bool false) rfl;have x1:=g.o.at_ 1 (.int .i64 0) rfl;refine bodyPost_ret (v:=.agg #[.bool false,.int .i64 0]) ?_ rfl ⟨by rw[J.o];rfl,l.o⟩;simp[results,results129,go_sem,x0,x1]
 | some x=>
  obtain⟨D,s,O⟩:=G.o.bf x (FM C);have N:=p9 (s.alloc (.cells #[.int .i64 x.num,.string x.ai,.map (some x.bJ)] 138));have M:=p9 (O k I.o);have J:qv (valueOf ns n k=x.bf k):=p9 (by unfold valueOf;rw[C];rfl);clear C s O;unfold Iq;have a:=p9 (r.o.alloc (.cells #[.int .i64 x.num,.string x.ai,.map (some x.bJ)] 138));have f:=p9 (i.o.alloc i.o.size (.cells #[.int .i64 x.num,.string x.ai,.map (some x.bJ)] 138));clear r i G;go_upto_region 2 with fail;obtain⟨Y,A⟩:∃Y,Y=y.heap.size:=⟨_,rfl⟩;have d:=p9 (Loc.new y #[.int .i64 x.num,.string x.ai,.map (some x.bJ)] 138);rw[<-A] at d⊢;clear A;generalize y.alloc (.cells #[.int .i64 x.num,.string x.ai,.map (some x.bJ)] 138)=z at a f d N⊢;have L:=d.o.at_ 2 (.map (some x.bJ)) rfl;have x0:=a.o.at_ 0 (.bool false) rfl;have x1:=a.o.at_ 1 (.int .i64 0) rfl;have t:=a.o.free 0;have u:=a.o.free 1;go_wp2_with (at_lookup;refine wpList_lookup_own_ok_int _ rfl _ _ 136 rfl 9 3 .i64 rX underlying136 underlying3 (pj _) x.bJ m D rfl N.o _ _ rfl (uH I.o) ?_;intro c B _;obtain rfl:c=(x.bf k).getD 0:=by {have e:=B.symm.trans M.o.2;injection e with e;injection e};rw[M.o.1];clear B)
  have g:=p9 ((a.o.set 0 (.bool (x.bf k).isSome)).set 1 (.int .i64 ((x.bf k).getD 0)));have l:=p9 ((f.o.setCell (p:=⟨X,0,none⟩) E.o (.bool (x.bf k).isSome)).setCell (p:=⟨X,1,none⟩) E.o (.int .i64 ((x.bf k).getD 0)));clear x0 x1 t u L a f d;generalize (z.setCell ⟨X,0,none⟩ (.bool (x.bf k).isSome)).setCell ⟨X,1,none⟩ (.int .i64 ((x.bf k).getD 0))=Q at g l⊢;have x0:=g.o.at_ 0 (.bool (x.bf k).isSome) rfl;have x1:=g.o.at_ 1 (.int .i64 ((x.bf k).getD 0)) rfl;refine bodyPost_ret (v:=.agg #[.bool (x.bf k).isSome,.int .i64 ((x.bf k).getD 0)]) ?_ rfl ⟨by rw[J.o,ko],l.o⟩;simp[results,results129,go_sem,x0,x1]
def jj(ns:List aH)(t:gP)(n:Int):Option Int:=if t.name.toList.isEmpty then some t.val else valueOf ns n t.key
theorem Hy{ns:List aH}{es:List bK}{n:Int}{t:gP}(h:jq b o ns es m W)(hk:t.key.size<=maxLen):
  Calls prog 200 #[.pointer (some ⟨b,o,none⟩),.agg #[.string t.name,.string t.key,.int .i64 t.val],.int .i64 n] W fun e W'=>e=.returned (.agg (eS (jj ns t n)))/\Below W.heap.size W W':=by
 obtain⟨nm,key,g⟩:=t;have l:=p9 ((r5 W.heap.size W).alloc (rm _) (.cells #[.string nm,.string key,.int .i64 g] 46));have x:=p9 (Loc.new W #[.string nm,.string key,.int .i64 g] 46);have c:=p9 (l.o.alloc l.o.size (.cells #[.bool false,.int .i64 0] 161));have d:=p9 (x.o.alloc (.cells #[.bool false,.int .i64 0] 161));have i:=p9 (Loc.new (W.alloc (.cells #[.string nm,.string key,.int .i64 g] 46)) #[.bool false,.int .i64 0] 161);have H:=p9 ((h.below l.o).below ((r5 _ _).alloc (rm _) (.cells #[.bool false,.int .i64 0] 161)));have D:=p9 hk;clear h hk l x;go_enter func200,ntmps200
 go_upto_region 1 with fail;obtain⟨Y,B⟩:∃Y,Y=W.heap.size:=⟨_,rfl⟩;have C:(W.alloc (.cells #[.string nm,.string key,.int .i64 g] 46)).heap.size=Y+1:=by rw[B];simp
 rw[C] at i;have z:qv (W.heap.size<=Y+1):=p9 (by omega);rw[<-B] at d⊢;clear B C;generalize (W.alloc (.cells #[.string nm,.string key,.int .i64 g] 46)).alloc (.cells #[.bool false,.int .i64 0] 161)=E at c d i H⊢;have t0:=d.o.at_ 0 (.string nm) rfl;have t1:=d.o.at_ 1 (.string key) rfl;have t2:=d.o.at_ 2 (.int .i64 g) rfl;cases he:nm.toList.isEmpty with
 | true=>
  have A:qv (jj ns ⟨nm,key,g⟩ n=some g):=p9 (by unfold jj;rw[a8 he]);go_wp2_with fail;refine(Bz g E).mono ?_;rintro e q ⟨rfl,w⟩;have j:=p9 (c.o.trans (w.mono c.o.size));have a:=p9 (i.o.grown (ag w none) (by simp));clear w c i d H t0 t1 t2;unfold eS;have x0:q.cell? ⟨Y+1,0,none⟩=some (.bool false):=(a.o.cell 0).trans rfl;have x1:q.cell? ⟨Y+1,1,none⟩=some (.int .i64 0):=(a.o.cell 1).trans rfl;have s:=a.o.free 0;have u:=a.o.free 1;go_wp2_with fail;have f:=p9 ((a.o.set 0 (.bool true)).set 1 (.int .i64 g));have k:=p9 ((j.o.setCell (p:=⟨Y+1,0,none⟩) z.o (.bool true)).setCell (p:=⟨Y+1,1,none⟩) z.o (.int .i64 g));clear x0 x1 s u a j;generalize (q.setCell ⟨Y+1,0,none⟩ (.bool true)).setCell ⟨Y+1,1,none⟩ (.int .i64 g)=y at f k⊢;have x0:y.cell? ⟨Y+1,0,none⟩=some (.bool true):=(f.o.cell 0).trans rfl;have x1:y.cell? ⟨Y+1,1,none⟩=some (.int .i64 g):=(f.o.cell 1).trans rfl;refine bodyPost_ret (v:=.agg #[.bool true,.int .i64 g]) ?_ rfl ⟨by rw[A.o];rfl,k.o⟩;simp[results,results200,go_sem,x0,x1]
 | false=>
  have A:qv (jj ns ⟨nm,key,g⟩ n=valueOf ns n key):=p9 (by unfold jj;rw[bk (by simp[he])]);go_wp2_with fail;refine(Nl (n:=n) H.o D.o).mono ?_;rintro e q ⟨rfl,w⟩;have j:=p9 (c.o.trans (w.mono c.o.size));have a:=p9 (i.o.grown (ag w none) (by simp));clear w c i d H t0 t1 t2;rw[ko];generalize valueOf ns n key=r at A⊢;have x0:q.cell? ⟨Y+1,0,none⟩=some (.bool false):=(a.o.cell 0).trans rfl;have x1:q.cell? ⟨Y+1,1,none⟩=some (.int .i64 0):=(a.o.cell 1).trans rfl;have s:=a.o.free 0;have u:=a.o.free 1;go_wp2_with fail;have f:=p9 ((a.o.set 0 (.bool r.isSome)).set 1 (.int .i64 (r.getD 0)));have k:=p9 ((j.o.setCell (p:=⟨Y+1,0,none⟩) z.o (.bool r.isSome)).setCell (p:=⟨Y+1,1,none⟩) z.o (.int .i64 (r.getD 0)));clear x0 x1 s u a j;generalize (q.setCell ⟨Y+1,0,none⟩ (.bool r.isSome)).setCell ⟨Y+1,1,none⟩ (.int .i64 (r.getD 0))=y at f k⊢;have x0:y.cell? ⟨Y+1,0,none⟩=some (.bool r.isSome):=(f.o.cell 0).trans rfl;have x1:y.cell? ⟨Y+1,1,none⟩=some (.int .i64 (r.getD 0)):=(f.o.cell 1).trans rfl;refine bodyPost_ret (v:=.agg #[.bool r.isSome,.int .i64 (r.getD 0)]) ?_ rfl ⟨by rw[A.o,ko],k.o⟩;simp[results,results200,go_sem,x0,x1]
def nH(op:Int)(a b:Option Int):Bool:=
 if op==7 then !a.isSome else if op==8 then a.isSome else if !a.isSome || !b.isSome then false
 else if op==1 then eB a b==0 else if op==2 then eB a b != 0 else if op==3 then decide (eB a b<0)
 else if op==4 then decide (eB a b<=0) else if op==5 then decide (eB a b > 0) else decide (eB a b≥0)
theorem RK(op:Int)(a b:Option Int)(W:World):
  Calls prog 271 #[.int .i64 op,.agg (eS a),.agg (eS b)] W fun e W'=>e=.returned (.bool (nH op a b))/\Below W.heap.size W W':=by
 have d:=p9 ((r5 W.heap.size W).alloc (rm _) (.cells (eS a) 161));have c:=p9 (d.o.alloc d.o.size (.cells (eS b) 161));cases a with
 | none=>
  cases b<;>unfold eS at c⊢
  all_goals
   go_enter func271,ntmps271
   go_wp2_with fail
   all_goals (go_ret;exact⟨by simp[nH, *],c.o⟩)
 | some x=>
  cases b with
  | none=>
   unfold eS at c⊢;go_enter func271,ntmps271
   go_wp2_with fail
   all_goals (go_ret;exact⟨by simp[nH, *],c.o⟩)
  | some y=>
   unfold eS at c⊢;go_enter func271,ntmps271
   go_wp2_with (go_at_call 134;refine(Nc (some x) (some y) _).mono ?_;rintro e h ⟨rfl,g⟩;have f:=p9 (c.o.trans (g.mono c.o.size));clear g)
   all_goals (go_ret;first|exact⟨by simp[nH, *],f.o⟩|exact⟨by simp[nH, *],c.o⟩)
def Lh(x:aH):Int × ByteArray × (ByteArray->Option Int):=(x.num,x.ai,x.bf)
def Qb(S:bF->Bool)(x:aH):Int × ByteArray × (ByteArray->Option Int):=(x.num,x.ai,fun s=>if S (3,x.ai,s) then x.bf s else none)
def za(S:bF->Bool)(x:aH):Bool:=S (1,x.ai,⟨#[]⟩)
def gU(S:bF->Bool)(ns:List aH):List (Int × ByteArray × (ByteArray->Option Int)):=(ns.filter (za S)).map (Qb S)
structure iU(W0:World)(Sb:Nat)(vn ve:Value)(sn:List aH)(se:List bK)(m:Nat)(W:World):Prop where
 ls:Loc W Sb #[vn,ve,.int .i64 0] 64
 on:W.ownsRow W0.heap.size 138 3 vn sn.length (sn.flatMap jO)
 oe:W.ownsRow W0.heap.size 141 3 ve se.length (se.flatMap MW)
 bf:∀x∈sn,cK W x.bJ m x.bf
 ns:W0.heap.size<=Sb
 below:Below W0.heap.size W0 W
 new:∀x∈sn,W0.heap.size<=x.bJ
theorem iU.later{c:List aH}{b:List bK}(h:iU W0 Sb vn ve c b m W)(a:Below W.heap.size W w):iU W0 Sb vn ve c b m w:=
 ⟨h.ls.grown (ag a none) (by simp),h.on.kept (ag a none) (by cases vn.ownBlock<;>simp),h.oe.kept (ag a none) (by cases ve.ownBlock<;>simp),fun x hx=>(h.bf x hx).kept (ag a none) (by simp),h.ns,h.below.trans (a.mono h.below.size),h.new⟩
theorem iU.drew{W0 W:World}{a m:Nat}{f d:Value}{c:List aH}{b:List bK}(h:iU W0 a f d c b m W):iU W0 a f d c b m W.drew:=
 ⟨h.ls,h.on,h.oe,h.bf,h.ns,h.below.drew,h.new⟩
theorem cK.isMap(h:cK W b n f):∃es c,W.heap[b]?=some (.map es c):=by
 obtain⟨D,⟨es,c,a,_⟩,_⟩:=h;exact⟨es,c,a⟩
theorem cK.cJ(h:cK W b n f){z:Nat × Nat}(a:W.heap[g]?=some (.cells cs T z)):b≠g:=by
 obtain⟨es,c,d⟩:=h.isMap;intro e;subst e;rw[d] at a;cases a
theorem cK.j6(h:cK W b n f)(c:W.ownsRow B T k v m xs):some b≠v.ownBlock:=by
 rcases c.2 with ⟨rfl,_⟩|⟨g,cap,d,rfl,_,a,_⟩
 ·simp[Value.ownBlock]
 ·intro e;injection e with e
  exact h.cJ a e
theorem iU.LW{d:Value}{c:List aH}{n:List bK}{x:aH}(h:iU W0 Sb vn ve c n m W)(hp:cK W x.bJ m x.bf)(g:W0.heap.size<=x.bJ)(f:W.grownBy w vn.ownBlock)
  (l:w.ownsRow W0.heap.size 138 3 d (c.length+1) (c.flatMap jO++jO x)):iU W0 Sb d ve (c++[x]) n m (w.setCell ⟨Sb,0,none⟩ d):=by
 have j:=h.ls.dY h.on f (by decide);have b:=aE w Sb 0 d;have hk:∀{y:aH},cK W y.bJ m y.bf->cK (w.setCell ⟨Sb,0,none⟩ d) y.bJ m y.bf:=fun {y} a=>by
  have i:=a.kept f (a.j6 h.on);exact i.kept b (by intro e;injection e with e;exact i.cJ j e)
 refine⟨j.set 0 d,?_,?_,?_,h.ns,(h.below.grown f h.below.size (fun k hk=>(h.on.lt k hk).1)).setCell (p:=⟨Sb,0,none⟩) h.ns d,fun y a=>(List.mem_append.1 a).elim (h.new y) (fun a=>by rw[List.mem_singleton.1 a];exact g)⟩
 ·have e:(c++[x]).length=c.length+1:=by simp
  have o:(c++[x]).flatMap jO=c.flatMap jO++jO x:=by simp
  rw[e,o];exact l.kept b (a6 (fun e=>aR l j (by decide) e))
 ·exact(h.oe.kept f (bT h.oe h.on (by decide))).kept b (a6 (fun e=>aR (h.oe.kept f (bT h.oe h.on (by decide))) j (by decide) e))
 ·intro y a;rcases List.mem_append.1 a with a|a
  ·exact hk (h.bf y a)
  ·simp only[vA] at a;subst a;exact hk hp
theorem iU.aside{Z:Nat}{u:Value}{b:List aH}{a:List bK}(h:iU W0 Sb vn ve b a m W)(g:Loc W Z cs T)(f:Z≠Sb)(h1:vn.ownBlock≠some Z)(c:ve.ownBlock≠some Z)(d:W0.heap.size<=Z):iU W0 Sb vn ve b a m (W.setCell ⟨Z,j,none⟩ u):=
 ⟨h.ls.aY (Ne.symm f) j u,h.on.kept (aE W Z j u) (a6 h1),h.oe.kept (aE W Z j u) (a6 c),fun x hx=>(h.bf x hx).kept (aE W Z j u) (by intro e;injection e with e;exact(h.bf x hx).cJ g e),h.ns,h.below.setCell (p:=⟨Z,j,none⟩) d u,h.new⟩
theorem CQ{S:bF->Bool}{ns c:List aH}(h:c.map Lh=gU S ns)(d:ns.Pairwise (fun a b=>a.num<b.num)):c.Pairwise (fun a b=>a.num<b.num):=by
 have h1:(c.map Lh).Pairwise (fun a b=>a.1<b.1):=by
  rw[h];unfold gU;rw[List.pairwise_map];exact(d.filter _)
 rwa [List.pairwise_map] at h1
theorem C3{S:bF->Bool}{ns a:List aH}(h:a.map Lh=gU S ns):a.length<=ns.length:=by
 have:=congrArg List.length h;unfold gU at this;rw[tB,tB] at this;rw[this];exact NK _ _
theorem iU.Jm{c:List aH}{d:List bK}(h:iU W0 Sb vn ve c d m W)(i:c.Pairwise (fun a b=>a.num<b.num))(g:c.length<=1000000/\d.length<=1000000):jq Sb 0 c d m W:=by
 have s1:=aJ h.on h.on.1;have s2:=aJ h.oe h.oe.1;obtain⟨f,c1,rfl,_⟩:=bi s1;obtain⟨a2,c2,rfl,_⟩:=bi s2;exact⟨⟨f,c1,(h.ls.cell 0).trans rfl,s1⟩,⟨a2,c2,(h.ls.cell 1).trans rfl,s2⟩,i,g,h.bf⟩
theorem iU.by{W0 W w:World}{f m:Nat}{q p:Value}{i:List aH}{j:List bK}(h:iU W0 f q p i j m W)(A:i.Pairwise (fun a b=>a.num<b.num))(z:i.length<=1000000/\j.length<=1000000)(he:∀k,W0.heap.size<=k->k<W.heap.size->w.heap[k]?=W.heap[k]?):jq f 0 i j m w:=by
 have row:∀{T:TypeId} {n:Nat} {v:Value} {xs:List Value},W.ownsRow W0.heap.size T 3 v n xs->w.ownsRow W0.heap.size T 3 v n xs:=fun {T n v xs} hr=>by
  refine⟨hr.1,?_⟩;rcases hr.2 with u|⟨g,cap,t,rfl,d,l,r⟩
  ·exact ad u
  ·exact a6 ⟨g,cap,t,rfl,d,(he g d (lt_of_block l)).trans l,r⟩
 have o:Loc w f #[q,p,.int .i64 0] 64:=(he f h.ns h.ls.lt).trans h.ls;have s1:=aJ (row h.on) h.on.1;have s2:=aJ (row h.oe) h.oe.1;obtain⟨s,c1,rfl,_⟩:=bi s1;obtain⟨a2,c2,rfl,_⟩:=bi s2;refine⟨⟨s,c1,(o.cell 0).trans rfl,s1⟩,⟨a2,c2,(o.cell 1).trans rfl,s2⟩,A,z,fun x hx=>?_⟩;obtain⟨D,⟨es,c,d,r⟩,y⟩:=h.bf x hx;exact⟨D,⟨es,c,(he x.bJ (h.new x hx) (lt_of_block d)).trans d,r⟩,y⟩
theorem dl.kept{W w:World}{b n:Nat}{S:bF->Bool}{row:Option Nat}(h:dl W b n S)(d:W.grownBy w row)(a:some b≠row):dl w b n S:=by
 obtain⟨D,f,c⟩:=h;exact⟨D,f.kept d a,c⟩
theorem dl.more{S:bF->Bool}(h:dl W b n S)(c:n<=m):dl W b m S:=by
 obtain⟨D,d,a⟩:=h;exact⟨D,d.mono c,a⟩
theorem dl.lt{W:World}{b n:Nat}{S:bF->Bool}(h:dl W b n S):b<W.heap.size:=by
 obtain⟨D,a,c⟩:=h;exact a.lt
theorem dl.isMap{S:bF->Bool}(h:dl W b n S):∃es c,W.heap[b]?=some (.map es c):=by
 obtain⟨D,⟨es,c,a,_⟩,_⟩:=h;exact⟨es,c,a⟩
theorem dl.made(W:World)(n:Nat):dl (W.alloc (.map #[] 0)) W.heap.size n (fun _=>false):=
 ⟨.map [],(World.ownsMap_made W _ _ _).mono (tJ _),fun _ _=>rfl⟩
theorem dl.cJ{S:bF->Bool}(h:dl W b n S){f:Nat × Nat}(a:W.heap[g]?=some (.cells cs T f)):b≠g:=by
 obtain⟨es,c,d⟩:=h.isMap;intro e;subst e;rw[d] at a;cases a
theorem dl.j6{S:bF->Bool}(h:dl W b n S)(c:W.ownsRow B T k v m xs):some b≠v.ownBlock:=by
 rcases c.2 with ⟨rfl,_⟩|⟨g,cap,d,rfl,_,a,_⟩
 ·simp[Value.ownBlock]
 ·intro e;injection e with e
  exact h.cJ a e
structure gX(W0:World)(X:Nat)(l:List db)(m:Nat)(W:World):Prop where
 list:∃v,Loc W X #[v] 58/\W.ownsRow W0.heap.size 104 2 v l.length (l.flatMap nW)
 right:∀x∈l,dl W x.2.1 m x.2.2
 apart:(l.map (·.2.1)).Nodup
 low:∀x∈l,W0.heap.size<=x.2.1
 frame:W0.grownBy W (some X)
theorem mY{a b c:World}{r d:Option Nat}(h:a.grownBy b r)(k:b.grownBy c d)(f:∀j,d=some j->a.heap.size<=j):a.grownBy c r:=
 ⟨k.os.trans h.os,k.tape.trans h.tape,k.output.trans h.output,r8 h.size k.size,fun j hj hjr=>(k.block j (vH hj h.size) (fun e=>absurd (f j e.symm) (by omega))).trans (h.block j hj hjr)⟩
theorem gX.later{X:Nat}{l:List db}(h:gX W0 X l m W)(a:Below W.heap.size W w):gX W0 X l m w:=by
 obtain⟨v,c,b⟩:=h.list;have g:=ag a none;exact⟨⟨v,c.grown g (by simp),b.kept g (by cases v.ownBlock<;>simp)⟩,fun x hxl=>(h.right x hxl).kept g (by simp),h.apart,h.low,mY h.frame g (by simp)⟩
structure gh where
 e0:Int
 e1:Int
 e2:Int
 e3:Int
 gI:Nat
 at_:Int
def Ge(x:gh):List Value:=[.int .i64 x.e0,.int .i64 x.e1,.int .i64 x.e2,.int .i64 x.e3,.int .i64 x.gI,.int .i64 x.at_]
structure nX(cs:Array Value)(fix:Nat->Option Value)(left:Int)(use:Value)(B T:Nat)(ev:Nat->Value)(wv:Value):Prop where
 sz:cs.size=29
 fx:∀j,j<18->cs[j]?=fix j
 l:cs[18]?=some (.int .i64 left)
 u:cs[19]?=some use
 b:cs[20]?=some (.map (some B))
 e:∀i,i<6->cs[21+i]?=some (ev i)
 w:cs[27]?=some wv
 t:cs[28]?=some (.map (some T))
variable {cs:Array Value} {fix:Nat->Option Value} {left:Int} {use:Value} {B T:Nat} {ev:Nat->Value} {wv:Value}
theorem nX.CG(h:nX cs fix left use B T ev wv)(x:Int):nX (cs.setIfInBounds 18 (.int .i64 x)) fix x use B T ev wv:=by
 have a:=h.sz;refine⟨by simp[a],fun j hj=>?_,?_,?_,?_,fun i hi=>?_,?_,?_⟩
 ·rw[uc,bk (by omega)];exact h.fx j hj
 ·rw[uc];simp[a]
 ·rw[uc,bk (by omega)];exact h.u
 ·rw[uc,bk (by omega)];exact h.b
 ·rw[uc,bk (by omega)];exact h.e i hi
 ·rw[uc,bk (by omega)];exact h.w
 ·rw[uc,bk (by omega)];exact h.t
theorem nX.O6(h:nX cs fix left use B T ev wv)(x:Value):nX (cs.setIfInBounds 27 x) fix left use B T ev x:=by
 have a:=h.sz;refine⟨by simp[a],fun j hj=>?_,?_,?_,?_,fun i hi=>?_,?_,?_⟩
 ·rw[uc,bk (by omega)];exact h.fx j hj
 ·rw[uc,bk (by omega)];exact h.l
 ·rw[uc,bk (by omega)];exact h.u
 ·rw[uc,bk (by omega)];exact h.b
 ·rw[uc,bk (by omega)];exact h.e i hi
 ·rw[uc];simp[a]
 ·rw[uc,bk (by omega)];exact h.t
def sZ(ev:Nat->Value)(i:Nat)(x:Value):Nat->Value:=fun j=>if j=i then x else ev j
theorem nX.Mj(h:nX cs fix left use B T ev wv){i:Nat}(hi:i<6)(x:Value):nX (cs.setIfInBounds (21+i) x) fix left use B T (sZ ev i x) wv:=by
 have a:=h.sz;refine⟨by simp[a],fun j hj=>?_,?_,?_,?_,fun j hj=>?_,?_,?_⟩
 ·rw[uc,bk (by omega)];exact h.fx j hj
 ·rw[uc,bk (by omega)];exact h.l
 ·rw[uc,bk (by omega)];exact h.u
 ·rw[uc,bk (by omega)];exact h.b
 ·unfold sZ;by_cases e:j=i
  ·subst e;rw[uc];simp[a];omega
  ·rw[uc,bk (by omega),bk e];exact h.e j hj
 ·rw[uc,bk (by omega)];exact h.w
 ·rw[uc,bk (by omega)];exact h.t
structure Kept(D:Nat->Prop)(W w:World):Prop where
 os:w.os=W.os
 tape:w.tape=W.tape
 output:w.output=W.output
 size:W.heap.size<=w.heap.size
 block:∀k,k<W.heap.size->¬D k->w.heap[k]?=W.heap[k]?
theorem Kept.refl(D:Nat->Prop)(W:World):Kept D W W:=⟨rfl,rfl,rfl,rm _,fun _ _ _=>rfl⟩
def Tu(D:Nat->Prop)(W:World)(k:Nat):Prop:=D k\/W.heap.size<=k
theorem Kept.then{D:Nat->Prop}{W w a:World}{row:Option Nat}(h:Kept D W w)(g:w.grownBy a row)(b:∀k,row=some k->Tu D W k):Kept D W a:=
 ⟨g.os.trans h.os,g.tape.trans h.tape,g.output.trans h.output,r8 h.size g.size,fun k hk hd=>(g.block k (vH hk h.size) (fun e=>(b k e.symm).elim hd (fun h1=>by omega))).trans (h.block k hk hd)⟩
theorem Kept.below{D:Nat->Prop}{W w a:World}(h:Kept D W w)(b:Below w.heap.size w a):Kept D W a:=h.then (ag b none) (by simp)
def Jn(n:Int):Lit:=.int .i64 n
theorem S7:Keyed prog 3:=int_keyed underlying3
def kO(W:World)(b n:Nat)(S:Int->Bool):Prop:=∃D:DataW Unit,W.ownsMap prog 3 unitElem b n D/\∀i:Int,(Lit.int .i64 i).wf=true->Maps.has D (Jn i)=S i
theorem kO.kept{W w:World}{b n:Nat}{S:Int->Bool}{row:Option Nat}(h:kO W b n S)(d:W.grownBy w row)(a:some b≠row):kO w b n S:=by
 obtain⟨D,f,c⟩:=h;exact⟨D,f.kept d a,c⟩
theorem kO.cJ{W:World}(h:kO W b n S){cs:Array Value}{T:TypeId}{z:Nat × Nat}(a:W.heap[g]?=some (.cells cs T z)):b≠g:=by
 obtain⟨D,⟨es,c,d,_⟩,_⟩:=h;intro e;subst e;rw[d] at a;cases a
theorem kO.j6{W:World}(h:kO W b n S){B:Nat}{T:TypeId}(c:W.ownsRow B T k v m xs):some b≠v.ownBlock:=by
 rcases c.2 with ⟨rfl,_⟩|⟨g,cap,d,rfl,_,a,_⟩
 ·simp[Value.ownBlock]
 ·intro e;injection e with e
  exact h.cJ a e
structure km(own:Nat->Prop)(F B T:Nat)(fix:Nat->Option Value)(left:Int)(use:Value)(f:ByteArray->Option Int)(mb:Nat)(ev:Nat->Value)(en:Nat->List Int)(wv:Value)(ws:List gh)(W:World):Prop where
 cell:∃cs,Loc W F cs 228/\nX cs fix left use B T ev wv
 iF:cK W B mb f
 taken:∃tn S,kO W T tn S/\tn<=4
 re:∀i,i<6->W.ownsRow 0 3 1 (ev i) (en i).length ((en i).map (Value.int .i64))
 rw:W.ownsRow 0 311 6 wv ws.length (ws.flatMap Ge)
 apart:∀i,i<6->∀j,j<6->i≠j->(ev i).ownBlock=none\/(ev i).ownBlock≠(ev j).ownBlock
 gC:own F/\own B/\own T/\(∀i,i<6->∀b,(ev i).ownBlock=some b->own b)/\∀b,wv.ownBlock=some b->own b
 bt:B≠T
variable {own:Nat->Prop} {F:Nat} {f:ByteArray->Option Int} {mb:Nat} {en:Nat->List Int} {ws:List gh} {W w:World}
theorem km.later(h:km own F B T fix left use f mb ev en wv ws W)(a:Below W.heap.size W w):km own F B T fix left use f mb ev en wv ws w:=by
 obtain⟨cs,c,b⟩:=h.cell;obtain⟨k,S,j,d⟩:=h.taken;have g:=ag a none;exact⟨⟨cs,c.grown g (by simp),b⟩,h.iF.kept g (by simp),⟨k,S,j.kept g (by simp),d⟩,fun i hi=>(h.re i hi).kept g (by cases (ev i).ownBlock<;>simp),h.rw.kept g (by cases wv.ownBlock<;>simp),h.apart,h.gC,h.bt⟩
theorem km.set(h:km own F B T fix left use f mb ev en wv ws W){c:Int}{a:Nat->Value}{k:Nat->List Int}{d:Value}{l:List gh}{j:Nat}{u:Value}(q:∀cs,nX cs fix left use B T ev wv->nX (cs.setIfInBounds j u) fix c use B T a d)
  (he:∀i,i<6->W.ownsRow 0 3 1 (a i) (k i).length ((k i).map (Value.int .i64))) (hw:W.ownsRow 0 311 6 d l.length (l.flatMap Ge)) (p:∀i,i<6->∀j,j<6->i≠j->(a i).ownBlock=none\/(a i).ownBlock≠(a j).ownBlock)
  (hm:(∀i,i<6->∀b,(a i).ownBlock=some b->own b)/\∀b,d.ownBlock=some b->own b):km own F B T fix c use f mb a k d l (W.setCell ⟨F,j,none⟩ u):=by
 obtain⟨cs,m,n⟩:=h.cell;obtain⟨s,S,o,r⟩:=h.taken;have g:=aE W F j u;exact⟨⟨_,m.set j u,q cs n⟩,h.iF.kept g (by intro e;injection e with e;exact h.iF.cJ m e),⟨s,S,o.kept g (by intro e;injection e with e;exact o.cJ m e),r⟩,fun i hi=>(he i hi).kept g (a6 (fun e=>aR (he i hi) m (by decide) e)),hw.kept g (a6 (fun e=>aR hw m (by decide) e)),p,⟨h.gC.1,h.gC.2.1,h.gC.2.2.1,hm⟩,h.bt⟩
theorem km.CG(h:km own F B T fix left use f mb ev en wv ws W)(x:Int):km own F B T fix x use f mb ev en wv ws (W.setCell ⟨F,18,none⟩ (.int .i64 x)):=
 h.set (fun _ hc=>hc.CG x) h.re h.rw h.apart ⟨h.gC.2.2.2.1,h.gC.2.2.2.2⟩
end
section
open Go.RowKit Go.Maps
def qR(ns:List aH)(S:bF->Bool)(x:bK):Bool:=(nodeAt ns x.src).isSome&&(nodeAt ns x.dst).isSome&&S (2,x.type,⟨#[]⟩)
theorem CR{v:Int}{t:ByteArray}(b:0<=v)(h1:v<=10)(a:t.size<=maxLen):N9 (v,t,⟨#[]⟩):=⟨WalkArith.wf_i64 (by simp only;omega),a,tJ _⟩
variable {fix:Nat->Option Value} {left:Int} {use:Value} {B T F:Nat} {ev:Nat->Value} {wv:Value} {own:Nat->Prop} {f:ByteArray->Option Int} {mb:Nat} {en:Nat->List Int} {ws:List gh} {W:World}
def DS(x:gh):Array Value:=#[.int .i64 x.e0,.int .i64 x.e1,.int .i64 x.e2,.int .i64 x.e3,.int .i64 x.gI,.int .i64 x.at_]
def xN(x:gh)(j:Nat):Int:=if j=0 then x.e0 else if j=1 then x.e1 else if j=2 then x.e2 else x.e3
def sX(x:gh)(k:Nat)(p:Int):Bool:=(List.range k).any (fun j=>xN x j==p)
def AJ(x:gh)(p n:Int):gh:=
 if x.gI=0 then ⟨p,x.e1,x.e2,x.e3,1,n⟩ else if x.gI=1 then ⟨x.e0,p,x.e2,x.e3,2,n⟩ else if x.gI=2 then ⟨x.e0,x.e1,p,x.e3,3,n⟩ else ⟨x.e0,x.e1,x.e2,p,4,n⟩
def S9(x:gh)(kind:ByteArray)(p:Nat)(e:bK):Bool:=!(sX x x.gI p)&&(e.src==x.at_)&&(e.type.toList==kind.toList)
def qe(x:gh)(kind:ByteArray):Nat->List bK->Int->List gh × Int
 | _,[],left=>([],left)
 | p,e::r,left=>
  if S9 x kind p e then
   if 0<=left - 1 then (AJ x p e.dst::(qe x kind (p+1) r (left - 1)).1,(qe x kind (p+1) r (left - 1)).2) else ([],left - 1)
  else qe x kind (p+1) r left
theorem OK(x:gh)(a:j<4):(DS x)[j]?=some (.int .i64 (xN x j)):=by
 unfold DS xN
 match j,a with
 | 0,_=>rfl
 | 1,_=>rfl
 | 2,_=>rfl
 | 3,_=>rfl
theorem Hj(x:gh)(p n:Int)(h:x.gI<4):(AJ x p n).gI=x.gI+1:=by
 unfold AJ;split
 ·simp only;omega
 ·split
  ·simp only;omega
  ·split<;>simp only<;>omega
theorem kO.clear(h:kO W b n S):∃w,(∀ty,(Builtin.clear_ #[224] ty #[.map (some b)]).run prog W=.ok (.tuple #[]) w)/\kO w b 0 (fun _=>false)/\W.mapTurned w b:=by
 obtain⟨D,⟨es,c,a,F,f,rfl⟩,d⟩:=h;refine⟨Go.ChangeMaps.setBlock W b (.map #[] c),fun ty=>?_,?_,⟨es,c,#[],c,a,rfl⟩⟩
 ·simp[Builtin.clear_,run_underlying underlying224,MapKept.run_getObj_map a,MapKept.run_setObj_map _ a,Result.andThen,Go.ChangeMaps.setBlock]
 ·refine⟨.map [],⟨#[],c,?_,⟨by simp,?_,by simp⟩,by simp,rfl⟩,fun i _=>rfl⟩
  ·exact Go.ChangeMaps.heap_setBlock_same a _
  ·exact MapKept.stamped_empty c
theorem kO.put{w:World}{b n:Nat}{D:DataW Unit}{S:Int->Bool}{x:Int}(c:IsMap D)(d:∀i:Int,(Lit.int .i64 i).wf=true->Maps.has D (Jn i)=S i)(g:(Lit.int .i64 x).wf=true)(f:w.ownsMap prog 3 unitElem b n (D.put (Jn x) (.agg []))):kO w b n (fun i=>S i || (x==i)):=by
 refine⟨_,f,fun r hr=>?_⟩;by_cases e:r=x
 ·subst e;have:=has_put_same (k:=Jn r) c (S7.key (keyOf_int_mk underlying3 g)) (.agg []);rw[this];simp
 ·have a:Jn r≠Jn x:=fun h=>e (by injection h);rw[has_put_other a,d r hr];have:(x==r)=false:=by simpa using fun h=>e h.symm
  simp[this]
theorem km.SJ(h:km own F B T fix left use f mb ev en wv ws W)(a:W.grownBy w (some T))(g:kO w T n S)(hle:n<=4):km own F B T fix left use f mb ev en wv ws w:=by
 obtain⟨cs,c,d⟩:=h.cell;obtain⟨k,j,b,_⟩:=h.taken;exact⟨⟨cs,c.grown a (by intro e;injection e with e;exact b.cJ c e.symm),d⟩,h.iF.kept a (by intro e;injection e with e;exact h.bt e),⟨n,S,g,hle⟩,fun i hi=>(h.re i hi).kept a (a6 (fun e=>b.j6 (h.re i hi) e.symm)),h.rw.kept a (a6 (fun e=>b.j6 h.rw e.symm)),h.apart,h.gC,h.bt⟩
theorem Sj(h:km own F B T fix left use f mb ev en wv ws W)(d:-1000000000<=left/\left<=1000000000):
  Calls prog 179 #[.pointer (some ⟨F,0,none⟩)] W fun e W'=>e=.returned (.bool (decide (0<=left - 1)))/\km own F B T fix (left - 1) use f mb ev en wv ws W'/\W.grownBy W' (some F):=by
 obtain⟨cs,c,g⟩:=h.cell;have H1:=p9 (h.CG (left - 1));have k:W.cell? ⟨F,18,none⟩=some (.int .i64 left):=(c.cell 18).trans g.l;have f0:=c.free 18;obtain⟨j,a,b⟩:=H1.o.cell;have c1:(W.setCell ⟨F,18,none⟩ (.int .i64 (left - 1))).cell? ⟨F,18,none⟩=some (.int .i64 (left - 1)):=(a.cell 18).trans b.l;have i:=p9 (aE W F 18 (.int .i64 (left - 1)));have h1:=d.1;have m:=d.2;clear h c g a b d;go_enter func179,ntmps179
 go_wp2_with fail
 all_goals
  go_ret;exact⟨by simp;try omega,H1.o,i.o⟩
def nF(ns:List aH)(n:Int)(l:ByteArray):Bool:=l.toList.isEmpty || (l.toList==((nodeAt ns n).elim ⟨#[]⟩ (fun x=>x.ai)).toList)
theorem Dp(r:Option aH):∃a mp,Iq r=.tuple #[.agg #[.int .i64 a,.string (r.elim ⟨#[]⟩ (fun x=>x.ai)),.map mp],.bool r.isSome]:=by
 cases r with
 | none=>exact⟨_,_,rfl⟩
 | some x=>exact⟨_,_,rfl⟩
theorem JV{gb go:Nat}{ns:List aH}{es:List bK}{n:Int}{l:ByteArray}(h:km own F B T fix left use f mb ev en wv ws W)(q:fix 0=some (.pointer (some ⟨gb,go,none⟩)))(r:jq gb go ns es m W):
  Calls prog 178 #[.pointer (some ⟨F,0,none⟩),.int .i64 n,.string l] W fun e W'=>e=.returned (.bool (nF ns n l))/\Below W.heap.size W W':=by
 obtain⟨cs,k,p⟩:=h.cell;have u:W.cell? ⟨F,0,none⟩=some (.pointer (some ⟨gb,go,none⟩)):=(k.cell 0).trans ((p.fx 0 (by decide)).trans q);have t:=p9 r;clear h k p q r;go_enter func178,ntmps178
 go_wp2_with fail;refine(Qi (n:=n) t.o).mono ?_;rintro e d ⟨rfl,i⟩;obtain⟨g,m1,s⟩:=Dp (nodeAt ns n);rw[s];have c:qv (nF ns n l=(l.toList.isEmpty || (l.toList==((nodeAt ns n).elim ⟨#[]⟩ (fun x=>x.ai)).toList))):=p9 rfl;generalize (nodeAt ns n).elim ⟨#[]⟩ (fun x=>x.ai)=s1 at c⊢;generalize (nodeAt ns n).isSome=w;have a:=p9 (i.alloc i.size (.cells #[.int .i64 g,.string s1,.map m1] 138));have b:=p9 (Loc.new d #[.int .i64 g,.string s1,.map m1] 138);clear i s u;go_upto_region 2 with fail;obtain⟨Z,j⟩:∃Z,Z=d.heap.size:=⟨_,rfl⟩;rw[<-j] at b⊢;clear j;generalize d.alloc (.cells #[.int .i64 g,.string s1,.map m1] 138)=v at a b⊢;have y:=b.o.at_ 1 (.string s1) rfl;cases he:l.toList.isEmpty with
 | true=>
  go_wp2_with fail;go_ret;exact⟨by rw[c.o,he];rfl,a.o⟩
 | false=>
  go_wp2_with fail;go_ret;exact⟨by rw[c.o,he];rfl,a.o⟩
end
end Go.Proofs.YtbfmmmjkjhjleaaGreatDoor
