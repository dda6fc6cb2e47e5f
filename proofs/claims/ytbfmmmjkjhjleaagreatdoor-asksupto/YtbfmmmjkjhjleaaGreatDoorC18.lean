/- Mine. -/
import Derived.Test.YtbfmmmjkjhjleaaGreatDoorC08
import Derived.Test.YtbfmmmjkjhjleaaGreatDoorC12
import Derived.Laws.CopyOwn
import Derived.Lib.ReplaceLaws
set_option maxRecDepth 100000
set_option maxHeartbeats 0
namespace Go.Proofs.YtbfmmmjkjhjleaaGreatDoor
open Go.Proofs.Tryz
variable {w W:World} {k B gb cap:Nat} {v rv:Value} {nm s:ByteArray} {a b:List (Option Int)}
section
open Go.RowKit
abbrev eT:=ByteArray × Value × List dX
def Eb(x:eT):List Value:=[.string x.1,x.2.1]
def DU(r:dX):List Value:=[.string r.1,.string r.2.1,.string r.2.2]
def wK{α:Type}(l:List α)(p:α->Prop)(r:Int):Prop:=(r=-1/\∀x∈l,¬p x)\/∃(k:Nat) (h:k<l.length),r=(k:Int)/\p l[k]/\∀(j:Nat) (h2:j<l.length),j<k->¬p l[j]
theorem wK.neg{α:Type}{l:List α}{p:α->Prop}{r:Int}(h:wK l p r):0<=r↔∃x∈l,p x:=by
 rcases h with ⟨rfl,h⟩|⟨k,hk,rfl,h,_⟩
 ·exact⟨fun e=>by omega,fun ⟨x,hx,hp⟩=>absurd hp (h x hx)⟩
 ·exact⟨fun _=>⟨_,sT hk,h⟩,fun _=>by omega⟩
theorem iQ{a b:ByteArray}(h:a≠b):(a.toList==b.toList)=false:=by
 cases he:(a.toList==b.toList)
 ·rfl
 ·have h1:a.toList=b.toList:=by simpa using he
  rw[ByteArray.toList_eq,ByteArray.toList_eq] at h1;exact absurd (ByteArray.ext (Array.ext' h1)) h
theorem Lo{cs:Array Value}{l:List eT}(s:Loc W gb cs 73)(n:cs[0]?=some rv)(i:dj W 2 rv l.length (l.flatMap Eb))(f:l.length<=1000):
  Calls prog 16 #[.pointer (some ⟨gb,0,none⟩),.string nm] W fun e W'=>(∃r,e=.returned (.int .i64 r)/\wK l (fun x=>x.1=nm) r)/\W'=W:=by
 obtain⟨ao,cap,rfl,-⟩:=bi i;have y:W.cell? ⟨gb,0,none⟩=some (.slice ao l.length cap):=(s.cell 0).trans n;have u:=p9 i;clear i s n;go_enter func16,ntmps16
 go_wp2_with fail;go_loopg [5] l.length (fun g iv w=>∃k:Nat,iv=.int .i64 (k:Int)/\k+g=l.length/\(∀j (h:j<l.length),j<k->¬l[j].1=nm)/\w=W)
 case atStart=>exact⟨0,rfl,by omega,fun _ _ h=>absurd h (by omega),rfl⟩
 case round=>
  obtain⟨k,rfl,hk,f,rfl⟩:=hrel;have c:=p9 f;clear f;by_cases a:k<l.length
  ·have d:(k:Int)<(l.length:Int):=by omega
   obtain⟨g,o,rfl,p⟩:=bC (l:=l) Eb (fun _=>rfl) u.o a;have c1:=p 0 (by omega);obtain⟨x,b⟩:∃x,l[k].1=x:=⟨_,rfl⟩;have m:=p9 b;have c1:wr.cell? ⟨g,o+k*2,none⟩=some (.string x):=by rw[<-b];exact c1
   clear p b;by_cases he:x=nm
   ·subst he;go_wp2_with fail;go_ret;exact⟨⟨_,rfl,a6 ⟨k,a,rfl,m.o,c.o⟩⟩,rfl⟩
   ·have v:=iQ he;have t:=p9 he;clear he;go_wp2_with fail;go_roundg (gk - 1)
    case rel=>
     refine⟨k+1,by simp,by omega,fun j h q=>?_,rfl⟩;rcases ua j k with h1|h1
     ·exact c.o j h h1
     ·obtain rfl:j=k:=by omega
      rw[m.o];exact t.o
    case measure=>omega
  ·have d:¬(k:Int)<(l.length:Int):=by omega
   go_wp2_with fail;go_ret;refine⟨⟨_,rfl,ad ⟨rfl,fun x b=>?_⟩⟩,rfl⟩;obtain⟨j,q,rfl⟩:=zc b;exact c.o j q (by omega)
def jo(l:List dX)(r:dX):Bool:=l.any fun x=>decide (x=r)
theorem DX{l:List dX}{r:dX}:jo l r=true↔r∈l:=by
 unfold jo;rw[List.any_eq_true];exact⟨fun ⟨x,hx,he⟩=>of_decide_eq_true he▸hx,fun h=>⟨r,h,decide_eq_true rfl⟩⟩
theorem O5{l:List dX}{r:dX}(h:¬r∈l):jo l r=false:=by
 cases e:jo l r
 ·rfl
 ·exact absurd (DX.1 e) h
theorem Hz{wd ti ky:ByteArray}{l:List dX}(t:dj W 3 rv l.length (l.flatMap DU))(s:l.length<=1000000):
  Calls prog 101 #[.agg #[.string nm,rv],.string wd,.string ti,.string ky] W fun e W'=>e=.returned (.bool (jo l (wd,ti,ky)))/\Below W.heap.size W W':=by
 obtain⟨ao,cap,rfl,-⟩:=bi t;have i:=p9 ((r5 W.heap.size W).alloc (rm _) (.cells #[.string nm,.slice ao l.length cap] 81));have n:=p9 (Loc.new W #[.string nm,.slice ao l.length cap] 81);have v:=p9 (t.below i.o);clear t;go_enter func101,ntmps101
 go_upto_region 1 with fail;obtain⟨X,y⟩:∃X,X=W.heap.size:=⟨_,rfl⟩;rw[<-y] at n⊢;clear y;generalize W.alloc (.cells #[.string nm,.slice ao l.length cap] 81)=A at i n v⊢;have c1:=n.o.at_ 1 (.slice ao l.length cap) rfl;go_wp2_with fail;go_loopg [9] l.length (fun g iv w=>∃k:Nat,iv=.int .i64 (k:Int)/\k+g=l.length/\¬(wd,ti,ky)∈l.take k/\w=A)
 case atStart=>exact⟨0,rfl,by omega,by simp,rfl⟩
 case round=>
  obtain⟨k,rfl,hk,s,rfl⟩:=hrel;have u:=p9 s;clear s;by_cases f:k<l.length
  ·have r:(k:Int)<(l.length:Int):=by omega
   obtain⟨g,o,rfl,h⟩:=bC (l:=l) DU (fun _=>rfl) v.o f;have c:qv (l.take (k+1)=l.take k++[l[k]]):=p9 (by rw[tt,r6 f];rfl);have b:qv (l[k]∈l):=p9 (sT f);obtain⟨⟨x1,x2,x3⟩,z⟩:∃x,l[k]=x:=⟨_,rfl⟩;rw[z] at h c b;have d0:wr.cell? ⟨g,o+k*3,none⟩=some (.string x1):=h 0 (by omega);have d1:wr.cell? ⟨g,o+k*3+1,none⟩=some (.string x2):=h 1 (by omega);have d2:wr.cell? ⟨g,o+k*3+2,none⟩=some (.string x3):=h 2 (by omega);clear h z;by_cases he:(wd,ti,ky)=(x1,x2,x3)
   ·injection he with B p
    injection p with p C
    subst B p C;go_wp2_with fail;go_ret;exact⟨by rw[DX.2 b.o];rfl,i.o⟩
   ·have j:=p9 he;have a:¬(wd,ti,ky)∈l.take (k+1):=by
     rw[c.o,Is,vA];exact fun e=>e.elim u.o j.o
    have m:=p9 a;clear a;have d:x1≠wd\/(x1=wd/\x2≠ti)\/(x1=wd/\x2=ti/\x3≠ky):=by
     by_cases h1:x1=wd
     ·by_cases q:x2=ti
      ·exact a6 (a6 ⟨h1,q,fun h3=>he (by rw[h1,q,h3])⟩)
      ·exact a6 (ad ⟨h1,q⟩)
     ·exact ad h1
    clear he c b;rcases d with h1|⟨rfl,h1⟩|⟨rfl,rfl,h1⟩
    all_goals
     have D:=iQ h1;clear h1;go_wp2_with fail;go_roundg (gk - 1)
     case rel=>exact⟨k+1,by simp,by omega,m.o,rfl⟩
     case measure=>omega
  ·have r:¬(k:Int)<(l.length:Int):=by omega
   have j:qv (jo l (wd,ti,ky)=false):=p9 (O5 (by have:=u.o;rwa [uB (by omega)] at this));go_wp2_with fail;go_ret;exact⟨by rw[j.o];rfl,i.o⟩
def ee(s:ByteArray):Nat->Nat->Nat->List ByteArray
 | 0,_,f=>if f<s.size then [s.extract f s.size] else []
 | n+1,i,f=>if bt s i=10 then s.extract f i::ee s n (i+1) (i+1) else ee s n (i+1) f
theorem o7(s:ByteArray):∀n i f,(ee s n i f).length<=n+1
 | 0,i,f=>by unfold ee;split<;>simp
 | n+1,i,f=>by
  unfold ee;split
  ·have:=o7 s n (i+1) (i+1);simp;omega
  ·have:=o7 s n (i+1) f;omega
theorem qG(s:ByteArray):∀n i f,∀x∈ee s n i f,x.size<=s.size
 | 0,i,f,x,hx=>by
  unfold ee at hx;split at hx
  ·simp at hx;subst hx;rw[Mi];omega
  ·cases hx
 | n+1,i,f,x,hx=>by
  unfold ee at hx;split at hx
  ·rcases List.mem_cons.1 hx with rfl|hx
   ·rw[Mi];omega
   ·exact qG s n _ _ x hx
  ·exact qG s n _ _ x hx
theorem Oe(s:ByteArray)(W:World)(I:s.size<=2000):
  Calls prog 13 #[.string s] W fun e W'=>(∃v,e=.returned v/\W'.ownsRow W.heap.size 9 1 v (ee s s.size 0 0).length (strs (ee s s.size 0 0)))/\Below W.heap.size W W':=by
 obtain⟨C,A,r,t,u⟩:=info_parts Tryz.gV;go_enter func13,ntmps13
 go_wp2_with fail;go_loopg [3,4,5] s.size (fun g lv fv iv w=>∃(k f:Nat) (out:List ByteArray),fv=.int .i64 (f:Int)/\iv=.int .i64 (k:Int)/\k+g=s.size/\f<=k/\out.length<=k/\out++ee s g k f=ee s s.size 0 0/\w.ownsRow W.heap.size 9 1 lv out.length (strs out)/\Below W.heap.size W w)
 case atStart=>exact⟨0,0,[],rfl,rfl,by omega,by omega,by simp,rfl,tj _ _ _ _,r5 _ _⟩
 case round=>
  obtain⟨k,f,out,rfl,rfl,hk,G,H,hp,B,p⟩:=hrel;have m:=p9 hp;have n:=p9 B;have h:=p9 p;clear hp B p;have D:(f:Int)<=(k:Int):=by omega
  by_cases i:k<s.size
  ·have z:(k:Int)<(s.size:Int):=by omega
   obtain⟨g1,rfl⟩:∃g1,gk=g1+1:=⟨gk - 1,by omega⟩;by_cases he:bt s k=10
   ·have d:qv ((out++[s.extract f k])++ee s g1 (k+1) (k+1)=ee s s.size 0 0):=p9 (by rw[<-m.o];(conv=>rhs;unfold ee;rw[a8 he]);simp);rw[<-bX i] at he;have x:(((s[k]'i).toNat:Int)==10)=true:=by rw[he];rfl
    clear he m;go_wp2_with (at_builtin;go_must (refine wpList_append_own _ rfl _ _ 34 rfl W.heap.size 9 C (.string ⟨#[]⟩) 1 16 underlying34 A r t u rfl (by decide) _ _ _ rfl (n.o.alloc _) ⟨wr.heap.size,0,none⟩ 1 1 [.string (s.extract f k)] rfl rfl (World.news_of_block (heap_alloc_new wr _)) (by simp[Value.oneCell']) (by unfold maxLen;omega) (by omega) (by have:=h.o.size;simp;omega) ?_);intro E F c a _;have l:=p9 c;have j:=p9 a;clear c a)
    go_roundg g1
    case rel=>
     refine⟨k+1,k+1,out++[s.extract f k],by simp,by simp,by omega,by omega,by simp;omega,d.o,by simpa [strs] using l.o,?_⟩;exact(h.o.alloc h.o.size _).grown j.o (by have:=h.o.size;simp;omega) (fun b p=>((n.o.alloc (.cells #[.string (s.extract f k)] 9)).lt b p).1)
    case measure=>omega
   ·have d:qv (out++ee s g1 (k+1) f=ee s s.size 0 0):=p9 (by rw[<-m.o];conv=>rhs;unfold ee;rw[bk he]);rw[<-bX i] at he;have x:(((s[k]'i).toNat:Int)==10)=false:=by simpa using he
    clear he m;go_wp2_with fail;go_roundg g1
    case rel=>exact⟨k+1,f,out,rfl,by simp,by omega,by omega,by omega,d.o,n.o,h.o⟩
    case measure=>omega
  ·have z:¬(k:Int)<(s.size:Int):=by omega
   obtain rfl:gk=0:=by omega
   by_cases q:f<s.size
   ·have y:(f:Int)<(s.size:Int):=by omega
    have d:qv (out++[s.extract f s.size]=ee s s.size 0 0):=p9 (by rw[<-m.o];conv=>rhs;unfold ee;rw[a8 q]);clear m;go_wp2_with (at_builtin;go_must (refine wpList_append_own _ rfl _ _ 34 rfl W.heap.size 9 C (.string ⟨#[]⟩) 1 16 underlying34 A r t u rfl (by decide) _ _ _ rfl (n.o.alloc _) ⟨wr.heap.size,0,none⟩ 1 1 [.string (s.extract f s.size)] rfl rfl (World.news_of_block (heap_alloc_new wr _)) (by simp[Value.oneCell']) (by unfold maxLen;omega) (by omega) (by have:=h.o.size;simp;omega) ?_);intro E F c a _;have l:=p9 c;have j:=p9 a;clear c a)
    go_ret;rw[<-d.o];exact⟨⟨_,rfl,by simpa [strs] using l.o⟩,(h.o.alloc h.o.size _).grown j.o (by have:=h.o.size;simp;omega) (fun b p=>((n.o.alloc (.cells #[.string (s.extract f s.size)] 9)).lt b p).1)⟩
   ·have y:¬(f:Int)<(s.size:Int):=by omega
    have d:qv (out=ee s s.size 0 0):=p9 (by rw[<-m.o];(conv=>rhs;unfold ee;rw[bk q]);simp);go_wp2_with fail;go_ret;rw[<-d.o];exact⟨⟨_,rfl,n.o⟩,h.o⟩
theorem Tryz.K8:(prog.info? 81).map (fun i=>(i.zero,i.size,i.bytes))=some (some (.agg #[.string ⟨#[]⟩,.slice none 0 0]),2,40):=by kernel_rfl
theorem Tryz.Fc:(prog.info? 83).map (fun i=>(i.zero,i.size,i.bytes))=some (some (.agg #[.string ⟨#[]⟩,.string ⟨#[]⟩,.string ⟨#[]⟩]),3,48):=by kernel_rfl
abbrev kj:=ByteArray × List dX
def zE(x:eT):kj:=(x.1,x.2.2)
def Ke(l:List kj)(r:dX):List kj:=match l.getLast? with
 | some x=>l.dropLast++[(x.1,x.2++[r])]
 | none=>[]
def lT(l:List kj)(s:ByteArray):Option (List kj):=
 if (cA s 32).toList==[114,111,108,101] then (if bB (cZ s 32)=true/\(∀x∈l,¬x.1=cZ s 32)/\¬l.length=6 then some (l++[(cZ s 32,[])]) else none)
 else if (fg s).2=true/\l≠[] then some (Ke l (fg s).1) else none
def oD(s:ByteArray):Option (List kj):=if s.size<=2000 then (ee s s.size 0 0).foldlM lT [] else none
structure kH(B gb:Nat)(v:Value)(l:List eT)(w:World):Prop where
 bJ:Loc w gb #[v,.slice none 0 0,.slice none 0 0,.int .i64 0,.int .i64 0,.slice none 0 0,.slice none 0 0] 73
 row:w.ownsRow B 81 2 v l.length (l.flatMap Eb)
 AQ:∀x∈l,w.ownsRow B 83 3 x.2.1 x.2.2.length (x.2.2.flatMap DU)
 apart:l.Pairwise fun a b=>∀k,a.2.1.ownBlock=some k->b.2.1.ownBlock≠some k
 low:B<=gb
variable {B gb:Nat} {v:Value} {l:List eT} {w w2:World}
theorem kH.below(h:kH B gb v l w)(a:Below w.heap.size w w2):kH B gb v l w2:=
 ⟨h.bJ.grown (ag a none) (by simp),h.row.kept (ag a none) (by cases v.ownBlock<;>simp),fun x hx=>(h.AQ x hx).kept (ag a none) (by cases x.2.1.ownBlock<;>simp),h.apart,h.low⟩
theorem kH.role{d:Value}(h:kH B gb v l w)(g:w.grownBy w2 v.ownBlock)(i:w2.ownsRow B 81 2 d (l.length+1) (l.flatMap Eb++[.string nm,.slice none 0 0])):
  kH B gb d (l++[(nm,.slice none 0 0,[])]) (w2.setCell ⟨gb,0,none⟩ d):=by
 have f:=h.bJ.dY h.row g (by decide);have g2:=aE w2 gb 0 d;refine⟨f.set 0 d,?_,fun x c=>?_,?_,h.low⟩
 ·have j:(l++[(nm,Value.slice none 0 0,([]:List dX))]).length=l.length+1:=by simp
  have m:(l++[(nm,Value.slice none 0 0,([]:List dX))]).flatMap Eb=l.flatMap Eb++[.string nm,.slice none 0 0]:=by simp[Eb]
  rw[j,m];exact i.kept g2 (a6 fun e=>aR i f (by decide) e)
 ·rcases List.mem_append.1 c with c|c
  ·have h1:=(h.AQ x c).kept g (bT (h.AQ x c) h.row (by decide));exact h1.kept g2 (a6 fun e=>aR h1 f (by decide) e)
  ·simp only[vA] at c;subst c;exact tj _ _ _ _
 ·rw[List.pairwise_append];refine⟨h.apart,by simp,fun a _ b hb=>?_⟩;simp only[vA] at hb;subst hb;intro k _ e;cases e
theorem xD:∀l:List eT,(l.flatMap Eb).length=l.length*2
 | []=>rfl
 | a::t=>by rw[vz,r7,xD t];simp[Eb];omega
theorem IT{b:Nat}{y:eT}(h:w.ownsRow B 81 2 (.slice (some ⟨b,0,none⟩) (l.length+1) cap) (l.length+1) ((l++[y]).flatMap Eb)):w.cell? ⟨b,l.length*2+1,none⟩=some y.2.1:=by
 rw[h.cellAt _ (by omega)];have a:=xD l;rw[As,F7 (by omega),a];have:l.length*2+1 - l.length*2=1:=by omega
 rw[this]
 rfl
theorem MJ{l:List eT}{x:eT}{v2:Value}{r:List dX}:((l++[x]).flatMap Eb).set (l.length*2+1) v2=(l++[(x.1,v2,r)]).flatMap Eb:=by
 have hlen:=xD l;rw[As,As,List.set_append,hlen,bk (by omega)]
 congr 1
 have:l.length*2+1 - l.length*2=1:=by omega
 rw[this]
 rfl
theorem kH.right{m g2 c2:Nat}{x:eT}{r:dX}(h:kH B gb (.slice (some ⟨m,0,none⟩) (l.length+1) cap) (l++[x]) w)(i:w.grownBy w2 x.2.1.ownBlock)(p:w2.ownsRow B 83 3 (.slice (some ⟨g2,0,none⟩) (x.2.2.length+1) c2) (x.2.2.length+1) (x.2.2.flatMap DU++DU r))(j:x.2.1.ownBlock=some g2\/g2=w.heap.size):
  kH B gb (.slice (some ⟨m,0,none⟩) (l.length+1) cap) (l++[(x.1,.slice (some ⟨g2,0,none⟩) (x.2.2.length+1) c2,x.2.2++[r])]) (w2.setCell ⟨m,l.length*2+1,none⟩ (.slice (some ⟨g2,0,none⟩) (x.2.2.length+1) c2)):=by
 have s:=h.AQ x (by simp);have c:=h.row;have u:(l++[x]).length=l.length+1:=by simp
 rw[u] at c;have o:=h.bJ.dY s i (by decide);have f:=c.kept i (bT c s (by decide));obtain⟨q,gs⟩:=f.stored (l.length*2+1) (.slice (some ⟨g2,0,none⟩) (x.2.2.length+1) c2);rw[MJ (r:=x.2.2++[r])] at q;refine⟨o.grown gs (by intro e;injection e with e;subst e;exact aR f o (by decide) rfl),by simpa using q,fun y d=>?_,?_,h.low⟩
 ·rcases List.mem_append.1 d with d|d
  ·have h1:=(h.AQ y (by simp[d])).kept i (by
    cases e:y.2.1.ownBlock with
    | none=>exact ad rfl
    | some k=>exact a6 fun g=>(List.pairwise_append.1 h.apart).2.2 y d x (by simp) k e g.symm)
   exact h1.kept gs (bT h1 f (by decide))
  ·simp only[vA] at d;subst d;have t:(x.2.2++[r]).length=x.2.2.length+1:=by simp
   have g:(x.2.2++[r]).flatMap DU=x.2.2.flatMap DU++DU r:=by simp
   show World.ownsRow _ _ _ _ _ (x.2.2++[r]).length ((x.2.2++[r]).flatMap DU);rw[t,g];exact p.kept gs (bT p f (by decide))
 ·have hp:=List.pairwise_append.1 h.apart;rw[List.pairwise_append];refine⟨hp.1,by simp,fun a ha b hb k hk e=>?_⟩;simp only[vA] at hb;subst hb;have e:g2=k:=by injection e
  rcases j with n|n
  ·exact hp.2.2 a ha x (by simp) k hk (by rw[n,e])
  ·have:=((h.AQ a (by simp[ha])).lt k hk).2;omega
theorem yj{w:World}{ao:Option Addr}{cp:Nat}{xs:List ByteArray}(h:dj w 1 (.slice ao xs.length cp) xs.length (strs xs))(hk:k<xs.length):∃g o,ao=some ⟨g,o,none⟩/\w.cell? ⟨g,o+k,none⟩=some (.string xs[k]):=by
 obtain⟨_,a2,c2,e,_,c⟩:=h;injection e with a f b
 subst a b;obtain⟨g,o,rfl,d⟩:=c (by omega);refine⟨g,o,rfl,d k _ ?_⟩;unfold strs;rw[F0,r6 hk]
 rfl
theorem fo{w:World}{b b':Nat}{e:TypeId}{v:Value}{n:Nat}{xs:List Value}(h:w.ownsRow b e k v n xs)(a:b'<=b):w.ownsRow b' e k v n xs:=⟨h.1,h.2.imp id fun ⟨g,cap,fL,h1,h2,h3⟩=>⟨g,cap,fL,h1,r8 a h2,h3⟩⟩
theorem Ee(w:World)(o:Obj):w.grownBy (w.alloc o).drew none:=ag (below_drewN ((r5 _ _).alloc (rm _) o) 1) none
theorem PM{α β:Type}{f:β->α->Option β}{l:List α}{b st:β}(hk:k<l.length)(h:(l.take k).foldlM f b=some st):(l.take (k+1)).foldlM f b=f st l[k]/\(f st l[k]=none->l.foldlM f b=none):=by
 have a:(l.take (k+1)).foldlM f b=f st l[k]:=by
  rw[tt,r6 hk,List.foldlM_append,h];simp
 refine⟨a,fun hn=>?_⟩;rw[<-Mp (k+1) l,List.foldlM_append,a,hn]
 rfl
end
section
open Go.RowKit
theorem Tryz.Bd:(prog.info? 145).map (fun i=>(i.zero,i.size,i.bytes))=some (some (.agg #[.int .i64 0,.string ⟨#[]⟩,.slice none 0 0]),3,48):=by kernel_rfl
structure mz where
 num:Int
 ai:ByteArray
 aj:List bm
structure NM where
 num:Int
 ai:ByteArray
 pv:Value
 aj:List bm
def NM.er(x:NM):mz:=⟨x.num,x.ai,x.aj⟩
def Fi(x:NM):List Value:=[.int .i64 x.num,.string x.ai,x.pv]
def Aa:ByteArray:=⟨#[115,101,101]⟩
def qJ:ByteArray:=⟨#[114,101,97,100]⟩
def iN(rs:List dX)(lb:ByteArray)(l:List bm):List bm:=l.filter fun p=>jo rs (qJ,lb,p.key)
theorem M6{rs:List dX}{lb:ByteArray}{l:List bm}{p:bm}(h:jo rs (qJ,lb,p.key)=false):iN rs lb (l++[p])=iN rs lb l:=by
 unfold iN;rw[List.filter_append];simp[h]
theorem Ji{rs:List dX}{lb:ByteArray}{l:List bm}{p:bm}(h:jo rs (qJ,lb,p.key)=true):iN rs lb (l++[p])=iN rs lb l++[p]:=by
 unfold iN;rw[List.filter_append];simp[h]
def me(rs:List dX)(ns:List mz):List mz:=(ns.filter fun n=>jo rs (Aa,n.ai,⟨#[]⟩)).map fun n=>⟨n.num,n.ai,iN rs n.ai n.aj⟩
theorem Gw(rs:List dX)(l:List mz)(x:mz):me rs (l++[x])=if jo rs (Aa,x.ai,⟨#[]⟩) then me rs l++[⟨x.num,x.ai,iN rs x.ai x.aj⟩] else me rs l:=by
 unfold me;rw[List.filter_append,vb];split
 ·rename_i h;simp[h]
 ·rename_i h;simp[h]
structure ux(B:Nat)(v:Value)(l:List NM)(w:World):Prop where
 row:w.ownsRow B 145 3 v l.length (l.flatMap Fi)
 Ni:∀x∈l,w.ownsRow B 120 2 x.pv x.aj.length (x.aj.flatMap dG)
theorem ux.below{l:List NM}{b:World}(h:ux B v l w)(a:Below w.heap.size w b):ux B v l b:=
 ⟨h.row.kept (ag a none) (by cases v.ownBlock<;>simp),fun x hx=>(h.Ni x hx).kept (ag a none) (by cases x.pv.ownBlock<;>simp)⟩
theorem ux.nil(B:Nat)(w:World):ux B (.slice none 0 0) [] w:=⟨tj _ _ _ _,fun _ hx=>by cases hx⟩
theorem ux.mono{a:Nat}{l:List NM}(h:ux B v l w)(b:a<=B):ux a v l w:=⟨fo h.row b,fun x hx=>fo (h.Ni x hx) b⟩
structure RG(gb:Nat)(rv:Value)(rl:List eT)(nv:Value)(ns:List NM)(last:Int)(w:World):Prop where
 bJ:Loc w gb #[rv,nv,.slice none 0 0,.int .i64 last,.int .i64 0,.slice none 0 0,.slice none 0 0] 73
 vZ:w.ownsRow 0 81 2 rv rl.length (rl.flatMap Eb)
 AQ:∀x∈rl,w.ownsRow 0 83 3 x.2.1 x.2.2.length (x.2.2.flatMap DU)
 nodes:ux 0 nv ns w
theorem RG.below{gb:Nat}{b c:Value}{d:List eT}{ns:List NM}{last:Int}{w f:World}(h:RG gb b d c ns last w)(a:Below w.heap.size w f):RG gb b d c ns last f:=
 ⟨h.bJ.grown (ag a none) (by simp),h.vZ.kept (ag a none) (by cases b.ownBlock<;>simp),fun x hx=>(h.AQ x hx).kept (ag a none) (by cases x.2.1.ownBlock<;>simp),h.nodes.below a⟩
theorem kH.rg{l:List eT}(h:kH B gb v l w):RG gb v l (.slice none 0 0) [] 0 w:=
 ⟨h.bJ,fo h.row (tJ _),fun x hx=>fo (h.AQ x hx) (tJ _),ux.nil _ _⟩
theorem nf(l:List bm):(l.flatMap dG).length=l.length*2:=by
 induction l with
 | nil=>rfl
 | cons a t ih=>rw[vz,r7,ih];simp[dG];omega
theorem Gt(l:List NM):(l.flatMap Fi).length=l.length*3:=by
 induction l with
 | nil=>rfl
 | cons a t ih=>rw[vz,r7,ih];simp[Fi];omega
theorem RV(l:List dX):(l.flatMap DU).length=l.length*3:=by
 induction l with
 | nil=>rfl
 | cons a t ih=>rw[vz,r7,ih];simp[DU];omega
def pY:Nat->List bm->List bm
 | 0,l=>l
 | k+1,l=>match l[k+1]?,l[k]? with
  | some a,some b=>if Op.bytesLess a.key.toList b.key.toList then pY k ((l.set (k+1) b).set k a) else l
  | _,_=>l
def jg(l:List bm):Nat->List bm
 | 0=>l
 | n+1=>pY n (jg l n)
theorem AO:∀(k:Nat) (l:List bm),(pY k l).length=l.length
 | 0,_=>rfl
 | k+1,l=>by
  unfold pY;split
  ·split
   ·rw[AO];simp
   ·rfl
  ·rfl
theorem oQ(l:List bm):∀n,(jg l n).length=l.length
 | 0=>rfl
 | n+1=>by unfold jg;rw[AO,oQ l n]
theorem DP:∀(l:List bm) (k:Nat) (p:bm),k<l.length->((l.flatMap dG).set (k*2) (.string p.key)).set (k*2+1) (.int .i64 p.val)=(l.set k p).flatMap dG
 | [],k,p,h=>by simp at h
 | a::l,0,p,h=>by simp[dG]
 | a::l,k+1,p,h=>by
  have ih:=DP l k p (by simpa using h);rw[ud,vz,vz,<-ih];have b:(k+1)*2=k*2+1+1:=by omega
  rw[b];simp[dG]
theorem Da{g n:Nat}{m:List bm}(h:w.ownsRow B 120 2 (.slice (some ⟨g,0,none⟩) n cap) n (m.flatMap dG))(hk:k<m.length)(p:bm):((w.setCell ⟨g,k*2,none⟩ (.string p.key)).setCell ⟨g,k*2+1,none⟩ (.int .i64 p.val)).ownsRow B 120 2 (.slice (some ⟨g,0,none⟩) n cap) n ((m.set k p).flatMap dG):=by
 have h1:=((h.stored (k*2) (.string p.key)).1.stored (k*2+1) (.int .i64 p.val)).1
 rwa [DP m k p hk] at h1
theorem MO(g o j:Nat):(⟨g,o,none⟩:Addr).add j=⟨g,o+j,none⟩:=by
 unfold Addr.add;by_cases a:j=0<;>simp[a]
theorem JO{l:List bm}{a b:bm}(c:l[k+1]?=some a)(d:l[k]?=some b)(h:Op.bytesLess a.key.toList b.key.toList=true):pY (k+1) l=pY k ((l.set (k+1) b).set k a):=by
 conv=>lhs;unfold pY
 rw[c,d];simp only;rw[a8 h]
theorem NH{l:List bm}{a b:bm}(c:l[k+1]?=some a)(d:l[k]?=some b)(h:Op.bytesLess a.key.toList b.key.toList=false):pY (k+1) l=l:=by
 unfold pY;rw[c,d];simp only;rw[bk (by simp[h])]
theorem Mx{l:List bm}(h:dj W 2 v l.length (l.flatMap dG))(hv:l=[]->v=.slice none 0 0\/∃g cap,v=.slice (some ⟨g,0,none⟩) 0 cap)(hn:l.length<=1000):
  Calls prog 102 #[v] W fun e W'=>(∃v',e=.returned v'/\W'.ownsRow W.heap.size 120 2 v' l.length ((jg l l.length).flatMap dG))/\Below W.heap.size W W':=by
 obtain⟨i2,hk,A4,A5,A6⟩:=info_parts Tryz.tL;cases l with
 | nil=>
  rcases hv rfl with rfl|⟨g0,Y,rfl⟩
  ·go_enter func102,ntmps102
   go_wp2_with fail;go_loopg [4] 0 (fun _ iv z=>iv=.int .i64 0/\z=W)
   case atStart=>exact⟨rfl,rfl⟩
   case round=>
    obtain⟨rfl,rfl⟩:=hrel;go_wp2_with fail;go_ret;exact⟨⟨_,rfl,tj _ _ _ _⟩,r5 _ _⟩
  ·go_enter func102,ntmps102
   go_wp2_with (at_builtin;go_must (refine wpList_append_own _ rfl _ _ 47 rfl W.heap.size 120 i2 (.agg #[.string ⟨#[]⟩,.int .i64 0]) 2 24 underlying47 hk A4 A5 A6 rfl (by decide) (.slice none 0 0) 0 [] rfl (tj _ _ _ _) ⟨g0,0,none⟩ 0 Y [] rfl rfl (fun j u hu=>by simp at hu) (by simp) (by unfold maxLen;omega) (by omega) (rm _) ?_);intro v' w5 f d _;have r:=p9 f;have E:=p9 d;clear f d;obtain⟨xa,xc,Ac⟩:=aV r.o;subst Ac)
   have C:qv (Below W.heap.size W w5):=p9 ((r5 _ _).grown E.o (rm _) (fun b s=>by cases s));go_loopg [4] 0 (fun _ iv z=>iv=.int .i64 0/\z=w5)
   case atStart=>exact⟨rfl,rfl⟩
   case round=>
    obtain⟨rfl,J⟩:=hrel;obtain rfl:=J.symm;go_wp2_with fail;go_ret;exact⟨⟨_,rfl,r.o⟩,C.o⟩
 | cons a0 t0=>
  obtain⟨l,hl⟩:∃l,a0::t0=l:=⟨_,rfl⟩;have h0:0<l.length:=by rw[<-hl];simp
  rw[hl] at h hn⊢;clear hv hl;obtain⟨ao,cp,rfl,-⟩:=bi h;obtain⟨Ag,a2,c2,H,Af,i⟩:=h;injection H with H _ e3
  subst H e3;obtain⟨vg,vo,rfl,hc⟩:=i h0;have HC:=p9 hc;clear hc i;go_enter func102,ntmps102
  go_wp2_with (at_builtin;go_must (refine wpList_append_lies _ rfl _ _ 47 rfl W.heap.size 120 i2 (.agg #[.string ⟨#[]⟩,.int .i64 0]) 2 24 underlying47 hk A4 A5 A6 rfl (by decide) (.slice none 0 0) 0 [] rfl (tj _ _ _ _) ⟨vg,vo,none⟩ l.length cp (l.flatMap dG) rfl (by rw[nf]) (fun j u hu=>by rw[MO];exact HC.o j u hu) (fun u hu=>by obtain⟨p,_,hp⟩:=List.mem_flatMap.1 hu;simp only[dG,List.mem_cons,List.not_mem_nil,or_false] at hp;rcases hp with rfl|rfl<;>rfl) h0 (by unfold maxLen;omega) (by omega) (rm _) _ rfl ?_);intro g cap w5 f d _ _;have r:=p9 f;have E:=p9 d;clear f d)
  have A7:0+l.length=l.length:=tH _;rw[A7] at r;clear A7;have C:qv (Below W.heap.size W w5):=p9 ((r5 _ _).grown E.o (rm _) (fun b s=>by cases s));go_loopg [4] l.length (fun c iv z=>∃n:Nat,iv=.int .i64 (n:Int)/\n+c=l.length/\z.ownsRow W.heap.size 120 2 (.slice (some ⟨g,0,none⟩) l.length cap) l.length ((jg l n).flatMap dG)/\Below W.heap.size W z)
  case atStart=>exact⟨0,rfl,by omega,by simpa [jg] using r.o,C.o⟩
  case round=>
   obtain⟨n,rfl,A2,ho,s⟩:=hrel;have HO:=p9 ho;have HB:=p9 s;clear ho s r E C;by_cases Ak:n<l.length
   ·have Ab:(n:Int)<(l.length:Int):=by omega
    obtain⟨gO,Aa⟩:∃gO,gO=gk:=⟨_,rfl⟩;subst Aa;have G:=p9 A2;clear A2;go_wp2_with fail;go_loopg [5] n (fun c kv z=>∃(m:List bm),kv=.int .i64 (c:Int)/\c<=n/\m.length=l.length/\pY c m=jg l (n+1)/\z.ownsRow W.heap.size 120 2 (.slice (some ⟨g,0,none⟩) l.length cap) l.length (m.flatMap dG)/\Below W.heap.size W z)
    case atStart=>exact⟨jg l n,rfl,rm _,oQ l n,rfl,HO.o,HB.o⟩
    case round=>
     obtain⟨m,rfl,Ae,A1,A3,ho,s⟩:=hrel;have q:=p9 A1;have N:=p9 A3;have V:=p9 ho;have t:=p9 s;clear A1 A3 ho s HO HB;go_upto_region 7 with fail;cases gk with
     | zero=>
      have J:¬(0:Int)<((0:Nat):Int):=by omega
      have L:qv (m=jg l (n+1)):=p9 N.o;go_quiet (fail)
      go_wp2_with fail;go_roundg (gO - 1)
      case measure=>have:=G.o;omega
      case rel=>exact⟨n+1,by simp,by have:=G.o;omega,by rw[<-L.o];exact V.o.kept (fh _ nq none) (by cases (Value.ownBlock _)<;>simp),t.o.trans (Joins.below_draws _ wr nq)⟩
     | succ k=>
      have J:(0:Int)<(k:Int)+1:=by omega
      have Ah:0<=(k:Int):=by omega
      have Ai:(k:Int)<=1000:=by omega
      have Aj:(k:Int)<(l.length:Int):=by omega
      have Ad:(k:Int)+1<(l.length:Int):=by omega
      have Al:IntKind.i64.wrap ((k:Int)+1 - 1)=(k:Int):=by rw[IntKind.wrap_i64];omega
      have R:k+1<m.length:=by rw[q.o];omega
      have A0:k<m.length:=by omega
      obtain⟨a,ha⟩:∃a,m[k+1]=a:=⟨_,rfl⟩;obtain⟨b,s⟩:∃b,m[k]=b:=⟨_,rfl⟩;have HA:qv (m[k+1]?=some a):=p9 (by rw[r6 R,ha]);have D:qv (m[k]?=some b):=p9 (by rw[r6 A0,s]);have hs:=aJ V.o (by rw[nf,q.o]);rw[<-q.o] at hs;obtain⟨g1,o1,Z,c1⟩:=bC (l:=m) dG (fun _=>rfl) hs R;obtain⟨g2,o2,H,c2⟩:=bC (l:=m) dG (fun _=>rfl) hs A0;injection Z with Z
      injection Z with Z A8
      injection H with H
      injection H with H A9
      subst Z A8 H A9;rw[ha] at c1;rw[s] at c2;have S:wr.cell? ⟨g,(k+1)*2,none⟩=some (.string a.key):=by have:=c1 0 (by omega);simpa [dG] using this
      have T:wr.cell? ⟨g,(k+1)*2+1,none⟩=some (.int .i64 a.val):=by have:=c1 1 (by omega);simpa [dG] using this
      have r0:wr.cell? ⟨g,k*2,none⟩=some (.string b.key):=by have:=c2 0 (by omega);simpa [dG] using this
      have r1:wr.cell? ⟨g,k*2+1,none⟩=some (.int .i64 b.val):=by have:=c2 1 (by omega);simpa [dG] using this
      clear hs c1 c2 ha s;cases I:Op.bytesLess a.key.toList b.key.toList with
      | false=>
       have L:qv (m=jg l (n+1)):=p9 (by rw[<-N.o,NH HA.o D.o I]);go_quiet (fail)
       go_wp2_with fail;go_roundg (gO - 1)
       case measure=>have:=G.o;omega
       case rel=>exact⟨n+1,by simp,by have:=G.o;omega,by rw[<-L.o];exact V.o.kept (fh _ nq none) (by cases (Value.ownBlock _)<;>simp),t.o.trans (Joins.below_draws _ wr nq)⟩
      | true=>
       have L:=p9 (JO HA.o D.o I);go_quiet (fail)
       have hd:Below wr.heap.size wr (wr.drewN nq):=Joins.below_draws _ wr nq;have w:=p9 (V.o.kept (ag hd none) (by cases (Value.ownBlock _)<;>simp));have B:=p9 (t.o.trans (hd.mono t.o.size));have S:(wr.drewN nq).cell? ⟨g,(k+1)*2,none⟩=some (.string a.key):=S;have T:(wr.drewN nq).cell? ⟨g,(k+1)*2+1,none⟩=some (.int .i64 a.val):=T;clear hd V t r0 r1;generalize wr.drewN nq=W2 at w B S T⊢;go_upto_region 10 with fail;have HX:=p9 (Loc.new W2 #[.string a.key,.int .i64 a.val] 120);have x:=p9 (w.o.alloc (.cells #[.string a.key,.int .i64 a.val] 120));have K:=p9 (B.o.alloc B.o.size (.cells #[.string a.key,.int .i64 a.val] 120));have P:qv (W2.heap.size≠g):=p9 (fun e=>by have:=(w.o.lt g rfl).2;omega);have F:=p9 (w.o.lt g rfl).1;obtain⟨X,hX⟩:∃X,X=W2.heap.size:=⟨_,rfl⟩;rw[<-hX] at HX P⊢;clear hX w B S T;generalize W2.alloc (.cells #[.string a.key,.int .i64 a.val] 120)=W3 at HX x K⊢;have HG:qv (∀(z:World) (m2:List bm) (j:Nat) (y:bm),z.ownsRow W.heap.size 120 2 (.slice (some ⟨g,0,none⟩) l.length cap) l.length (m2.flatMap dG)->m2.length=l.length->j<l.length->m2[j]?=some y->z.cell? ⟨g,j*2,none⟩=some (.string y.key)/\z.cell? ⟨g,j*2+1,none⟩=some (.int .i64 y.val)/\z.frozen? ⟨g,j*2,none⟩=false/\z.frozen? ⟨g,j*2+1,none⟩=false):=p9 (fun z m2 j y J h2 hj hy=>by
        have Q:j<m2.length:=by omega
        rw[r6 Q] at hy;injection hy with hy
        have f0:=lF (k:=2) dG (fun _=>rfl) m2 j Q 0 (by omega);have f1:=lF (k:=2) dG (fun _=>rfl) m2 j Q 1 (by omega);refine⟨?_,?_,J.frozenAt _,J.frozenAt _⟩
        ·rw[J.cellAt _ (by omega)];rw[hy] at f0;exact f0
        ·rw[J.cellAt _ (by omega)];rw[hy] at f1;exact f1)
       obtain⟨r0,r1,-,-⟩:=HG.o W3 m k b x.o q.o (by omega) D.o;obtain⟨S,T,f0,f1⟩:=HG.o W3 m (k+1) a x.o q.o (by omega) HA.o;go_upto_region 11 with fail;have M:=p9 (Da x.o R b);have O:=p9 ((HX.o.aY P.o ((k+1)*2) (.string b.key)).aY P.o ((k+1)*2+1) (.int .i64 b.val));have U:=p9 ((K.o.setCell (p:=⟨g,(k+1)*2,none⟩) F.o (.string b.key)).setCell (p:=⟨g,(k+1)*2+1,none⟩) F.o (.int .i64 b.val));clear r0 r1 S T f0 f1 HX x K;generalize (W3.setCell ⟨g,(k+1)*2,none⟩ (.string b.key)).setCell ⟨g,(k+1)*2+1,none⟩ (.int .i64 b.val)=W4 at M O U⊢;have A:qv ((m.set (k+1) b).length=l.length):=p9 (by rw[zp];exact q.o);obtain⟨S,T,f0,f1⟩:=HG.o W4 (m.set (k+1) b) k b M.o A.o (by omega) (by rw[List.getElem?_set_ne (by omega)];exact D.o);have x0:=O.o.at_ 0 (.string a.key) rfl;have x1:=O.o.at_ 1 (.int .i64 a.val) rfl;go_wp2_with fail;go_roundg k
       case measure=>omega
       case rel=>exact⟨(m.set (k+1) b).set k a,by simp,by omega,by rw[zp];exact A.o,by rw[<-L.o];exact N.o,Da M.o (by rw[A.o];omega) a,(U.o.setCell (p:=⟨g,k*2,none⟩) F.o _).setCell (p:=⟨g,k*2+1,none⟩) F.o _⟩
   ·have Ab:¬(n:Int)<(l.length:Int):=by omega
    have L:qv (jg l n=jg l l.length):=p9 (by rw[show n=l.length by omega]);go_wp2_with fail;go_ret;exact⟨⟨_,rfl,by rw[<-L.o];exact HO.o⟩,HB.o⟩
def uj(xs ys:List ByteArray):Bool:=decide (xs=ys)
theorem Bf{r a2:Option Addr}{c1 c2:Nat}{xs ys:List ByteArray}(b:dj W 1 (.slice r xs.length c1) xs.length (strs xs))(d:dj W 1 (.slice a2 ys.length c2) ys.length (strs ys))(E:xs.length<=1000000):
  Calls prog 26 #[.slice r xs.length c1,.slice a2 ys.length c2] W fun e W'=>e=.returned (.bool (uj xs ys))/\Below W.heap.size W W':=by
 have v:=p9 b;have z:=p9 d;clear b d;by_cases l:xs.length=ys.length
 ·have q:((xs.length:Int)==(ys.length:Int))=true:=by simp[l]
  have u:=p9 l;go_enter func26,ntmps26
  go_wp2_with fail;go_loopg [5] xs.length (fun c iv w=>∃k:Nat,iv=.int .i64 (k:Int)/\k+c=xs.length/\xs.take k=ys.take k/\Below W.heap.size W w)
  case atStart=>exact⟨0,rfl,by omega,rfl,r5 _ _⟩
  case round=>
   obtain⟨k,rfl,hk,t,s⟩:=hrel;have i:=p9 t;have f:=p9 s;clear t s;by_cases a:k<xs.length
   ·have p:(k:Int)<(xs.length:Int):=by omega
    have C:(k:Int)<(ys.length:Int):=by omega
    obtain⟨g,o,rfl,A⟩:=yj (v.o.below f.o) a;obtain⟨g2,F,rfl,B⟩:=yj (z.o.below f.o) (by omega:k<ys.length);obtain⟨x,b⟩:∃x,xs[k]=x:=⟨_,rfl⟩;obtain⟨y,d⟩:∃y,ys[k]'(by omega)=y:=⟨_,rfl⟩;rw[b] at A;rw[d] at B;have m:qv (xs.take (k+1)=xs.take k++[x]):=p9 (by rw[tt,r6 a,b];rfl);have n:qv (ys.take (k+1)=ys.take k++[y]):=p9 (by rw[tt,r6 (by omega),d];rfl);have j:qv (xs[k]?=some x/\ys[k]?=some y):=p9 ⟨by rw[r6 a,b],by rw[r6 (by omega),d]⟩;clear b d;go_upto_region 6 with fail;by_cases he:x=y
    ·subst he;go_quiet (fail)
     go_wp2_with fail;go_roundg (gk - 1)
     case rel=>exact⟨k+1,by simp,by omega,by rw[m.o,n.o,i.o],f.o.trans (Joins.below_draws _ wr nq)⟩
     case measure=>omega
    ·have D:=iQ he;have h:qv (uj xs ys=false):=p9 (decide_eq_false (fun e=>he (by have h1:=j.o.1;rw[e,j.o.2] at h1;injection h1 with h1;exact h1.symm)));go_quiet (fail)
     go_wp2_with fail;go_ret;exact⟨by rw[h.o];rfl,f.o.trans (Joins.below_draws _ wr nq)⟩
   ·have p:¬(k:Int)<(xs.length:Int):=by omega
    have h:qv (uj xs ys=true):=p9 (decide_eq_true (by
     have h1:=i.o
     rwa [uB (by omega),uB (by have:=u.o;omega)] at h1))
    go_wp2_with fail;go_ret;exact⟨by rw[h.o];rfl,f.o⟩
 ·have q:((xs.length:Int)==(ys.length:Int))=false:=by simp;omega
  have h:qv (uj xs ys=false):=p9 (by unfold uj;exact decide_eq_false (fun e=>l (by rw[e])));clear l;go_enter func26,ntmps26
  go_wp2_with fail;go_ret;exact⟨by rw[h.o];rfl,r5 _ _⟩
theorem Ap(a b:Option Int)(W:World):Calls prog 151 #[.agg #[.int .i64 (a.getD 0),.bool a.isSome],.agg #[.int .i64 (b.getD 0),.bool b.isSome]] W fun e W'=>e=.returned (.int .i64 (eB a b))/\Below W.heap.size W W':=by
 have h1:=(r5 W.heap.size W).alloc (rm _) (.cells #[.int .i64 (a.getD 0),.bool a.isSome] 209);have c:=p9 (h1.alloc h1.size (.cells #[.int .i64 (b.getD 0),.bool b.isSome] 209));clear h1;cases a with
 | none=>
  cases b with
  | none=>
   simp only[F8,F1] at c⊢;go_enter func151,ntmps151
   go_wp2_with fail;go_ret;exact⟨rfl,c.o⟩
  | some y=>
   simp only[F8,F1,xp,B1] at c⊢;go_enter func151,ntmps151
   go_wp2_with fail;go_ret;exact⟨rfl,c.o⟩
 | some x=>
  cases b with
  | none=>
   simp only[F8,F1,xp,B1] at c⊢;go_enter func151,ntmps151
   go_wp2_with fail;go_ret;exact⟨rfl,c.o⟩
  | some y=>
   simp only[xp,B1] at c⊢;have f:qv (eB (some x) (some y)=Lib.compareInt x y):=p9 rfl;rcases Int.lt_trichotomy x y with h|h|h
   ·have g:(x==y)=false:=by simp;omega
    have d:qv (Lib.compareInt x y=-1):=p9 (by unfold Lib.compareInt;rw[a8 h]);go_enter func151,ntmps151
    go_wp2_with fail;go_ret;exact⟨by rw[f.o,d.o];rfl,c.o⟩
   ·subst h;have d:qv (Lib.compareInt x x=0):=p9 (by unfold Lib.compareInt;rw[bk (by omega),bk (by omega)]);go_enter func151,ntmps151
    go_wp2_with fail;go_ret;exact⟨by rw[f.o,d.o];rfl,c.o⟩
   ·have g:(x==y)=false:=by simp;omega
    have i:¬x<y:=by omega
    have d:qv (Lib.compareInt x y=1):=p9 (by unfold Lib.compareInt;rw[bk i,a8 (by omega)]);go_enter func151,ntmps151
    go_wp2_with fail;go_ret;exact⟨by rw[f.o,d.o];rfl,c.o⟩
def vC(o:Option Int):List Value:=[.int .i64 (o.getD 0),.bool o.isSome]
def xh(c:Int)(down rest:Bool):Bool:=if c=0 then rest else decide (c<0) != down
theorem uo{c:Int}{down rest:Bool}(h:c=0):xh c down rest=rest:=a8 h
theorem rR{c:Int}{down rest:Bool}(h:¬c=0):xh c down rest=(decide (c<0) != down):=bk h
def mD:List (Option Int)->List (Option Int)->Bool
 | a::l,b::m=>xh (eB a b) false (mD l m)
 | _,_=>false
def gG(order:Int)(down:Bool)(a b:List (Option Int)):Bool:=
 if 0<order then xh (eB ((a[(order - 1).toNat]?).getD none) ((b[(order - 1).toNat]?).getD none)) down (mD a b) else mD a b
theorem Gk(c:k<a.length)(d:k<b.length):mD (a.drop k) (b.drop k)=xh (eB a[k] b[k]) false (mD (a.drop (k+1)) (b.drop (k+1))):=by
 rw[xi c,xi d]
 rfl
theorem KS(c:a.length<=k):mD (a.drop k) (b.drop k)=false:=by
 rw[BS c];unfold mD
 rfl
theorem QF{q:aI}{vs vc vi vp v1 v2:Value}(h1:dj W 2 v1 a.length (a.flatMap vC))(Q:dj W 2 v2 b.length (b.flatMap vC))(hl:a.length=b.length)(hn:a.length<=1000)(ho:q.order<=a.length):
  Calls prog 106 #[.agg (qC q vs vc vi vp),v1,v2] W fun e W'=>e=.returned (.bool (gG q.order q.down a b))/\Below W.heap.size W W':=by
 obtain⟨a1,c1,rfl,-⟩:=bi h1;obtain⟨a2,c2,rfl,-⟩:=bi Q;have t:=p9 ((r5 W.heap.size W).alloc (rm _) (.cells (qC q vs vc vi vp) 49));have M:=p9 (Loc.new W (qC q vs vc vi vp) 49);have H1:=p9 (h1.below t.o);have O:=p9 (Q.below t.o);have V:=p9 hl;clear h1 Q hl;go_enter func106,ntmps106
 go_upto_region 1 with fail;obtain⟨X,Z⟩:∃X,X=W.heap.size:=⟨_,rfl⟩;rw[<-Z] at M⊢;clear Z;generalize W.alloc (.cells (qC q vs vc vi vp) 49)=s at t M H1 O⊢;have q4:=M.o.at_ 4 (.int .i64 q.order) rfl;have N:=M.o.at_ 5 (.bool q.down) rfl;have d:qv (gG q.order q.down a b=if 0<q.order then xh (eB ((a[(q.order - 1).toNat]?).getD none) ((b[(q.order - 1).toNat]?).getD none)) q.down (mD a b) else mD a b):=p9 rfl;go_upto_if 12 with fail;go_cut [] (fun z=>gG q.order q.down a b=mD a b/\Below s.heap.size s z)
 case first=>
  by_cases Y:0<q.order
  ·obtain⟨k,hk⟩:∃k:Nat,(q.order - 1).toNat=k:=⟨_,rfl⟩;have E:k<a.length:=by omega
   have p:k<b.length:=by have:=V.o;omega
   have A:(k:Int)<(a.length:Int):=by omega
   have F:(k:Int)<(b.length:Int):=by omega
   have A0:IntKind.i64.wrap (q.order - 1)=(k:Int):=by rw[IntKind.wrap_i64];omega
   obtain⟨g1,K,rfl,f⟩:=bC (l:=a) vC (fun _=>rfl) H1.o E;obtain⟨g2,L,rfl,g⟩:=bC (l:=b) vC (fun _=>rfl) O.o p;rw[a8 Y,hk,r6 E,r6 p] at d;have d:qv (gG q.order q.down a b=xh (eB a[k] b[k]) q.down (mD a b)):=d;obtain⟨x,I⟩:∃x,a[k]=x:=⟨_,rfl⟩;obtain⟨y,J⟩:∃y,b[k]=y:=⟨_,rfl⟩;rw[I] at f d;rw[J] at g d;have R:s.cell? ⟨g1,K+k*2,none⟩=some (.int .i64 (x.getD 0)):=f 0 (by omega);have S:s.cell? ⟨g1,K+k*2+1,none⟩=some (.bool x.isSome):=f 1 (by omega);have T:s.cell? ⟨g2,L+k*2,none⟩=some (.int .i64 (y.getD 0)):=g 0 (by omega);have U:s.cell? ⟨g2,L+k*2+1,none⟩=some (.bool y.isSome):=g 1 (by omega);clear f g I J hk;go_upto_region 2 with fail;go_cut [7] (fun v z=>v=.int .i64 (eB x y)/\Below s.heap.size s z)
   case first=>
    go_region_with (go_at_call 151;refine(Ap x y _).mono ?_;rintro e w7 ⟨rfl,m⟩;have B:=p9 m;clear m)
    all_goals
     go_wp2_with fail;go_meet
     case rel=>exact⟨rfl,(below_drewN (r5 _ _) 1).trans B.o⟩
   case rest=>
    obtain⟨rfl,n⟩:=hcut;have i:=p9 n;clear n R S T U q4;have N:wc.cell? ⟨X,5,none⟩=some (.bool q.down):=(i.o.cell (block_lt_of_cell N)).trans N;by_cases r:eB x y=0
    ·rw[uo r] at d;go_wp2_with fail;go_meet
     case rel=>exact⟨d.o,i.o⟩
    ·rw[rR r] at d;have C:(eB x y != 0)=true:=by simpa using r
     generalize eB x y=c at d C r⊢;clear r;go_wp2_with fail;go_ret;exact⟨by rw[d.o];rfl,t.o.trans (i.o.mono t.o.size)⟩
  ·rw[bk Y] at d;go_wp2_with fail;go_meet
   case rel=>exact⟨d.o,r5 _ _⟩
 case rest=>
  obtain⟨H,n⟩:=hcut;have i:=p9 n;have D:=p9 H;clear H n q4 N d;go_wp2_with fail;go_loopg [8] a.length (fun c iv z=>∃k:Nat,iv=.int .i64 (k:Int)/\k+c=a.length/\mD a b=mD (a.drop k) (b.drop k)/\Below s.heap.size s z)
  case atStart=>exact⟨0,rfl,by omega,rfl,i.o⟩
  case round=>
   obtain⟨k,rfl,hk,hd,hb⟩:=hrel;have P:=p9 hd;have j:=p9 hb;clear hd hb;by_cases G:k<a.length
   ·have p:k<b.length:=by have:=V.o;omega
    have A:(k:Int)<(a.length:Int):=by omega
    have F:(k:Int)<(b.length:Int):=by omega
    obtain⟨g1,K,rfl,f⟩:=bC (l:=a) vC (fun _=>rfl) (H1.o.below j.o) G;obtain⟨g2,L,rfl,g⟩:=bC (l:=b) vC (fun _=>rfl) (O.o.below j.o) p;have h:=p9 (Gk G p);obtain⟨x,I⟩:∃x,a[k]=x:=⟨_,rfl⟩;obtain⟨y,J⟩:∃y,b[k]=y:=⟨_,rfl⟩;rw[I] at f h;rw[J] at g h;have R:wr.cell? ⟨g1,K+k*2,none⟩=some (.int .i64 (x.getD 0)):=f 0 (by omega);have S:wr.cell? ⟨g1,K+k*2+1,none⟩=some (.bool x.isSome):=f 1 (by omega);have T:wr.cell? ⟨g2,L+k*2,none⟩=some (.int .i64 (y.getD 0)):=g 0 (by omega);have U:wr.cell? ⟨g2,L+k*2+1,none⟩=some (.bool y.isSome):=g 1 (by omega);clear f g I J;go_upto_region 8 with fail;go_cut [9] (fun v z=>v=.int .i64 (eB x y)/\Below wr.heap.size wr z)
    case first=>
     go_region_with (go_at_call 151;refine(Ap x y _).mono ?_;rintro e w7 ⟨rfl,m⟩;have B:=p9 m;clear m)
     all_goals
      go_wp2_with fail;go_meet
      case rel=>exact⟨rfl,(below_drewN (r5 _ _) 1).trans B.o⟩
    case rest=>
     obtain⟨rfl,w⟩:=hcut;have u:=p9 (j.o.trans (w.mono j.o.size));clear w R S T U;by_cases r:eB x y=0
     ·rw[uo r] at h;go_wp2_with fail;go_roundg (gk - 1)
      case measure=>omega
      case rel=>exact⟨k+1,by simp,by omega,P.o.trans h.o,u.o⟩
     ·rw[rR r] at h;have C:(eB x y != 0)=true:=by simpa using r
      generalize eB x y=c at h C r⊢;clear r;go_wp2_with fail;go_ret;exact⟨by rw[D.o,P.o,h.o];simp,t.o.trans (u.o.mono t.o.size)⟩
   ·have A:¬(k:Int)<(a.length:Int):=by omega
    have HE:=p9 (KS (b:=b) (k:=k) (a:=a) (by omega));go_wp2_with fail;go_ret;exact⟨by rw[D.o,P.o,HE.o];rfl,t.o.trans (j.o.mono t.o.size)⟩
open Go
theorem uQ{P:Program}(w:World){ops:Array Oper}{rest:List Oper}{o:Oper}{a:Act}{Q:Exit->Act->World->Prop}
  (s:o.guard=none) (l c:Operand) (t:TypeId) (d:o.op=Op.makeSlice t l c)
  (e:TypeId) (i:TypeInfo) (z:Value) (size:Nat) (h1:P.underlying t=some (.slice e)) (j:P.info? e=some i) (k:i.zero=some z) (m:i.size=size)
  (g kc:IntKind) (L C:Int) (n:Nat) (u:a.eval l=.int g L) (r:a.eval c=.int kc C) (q:L=(n:Int)) (hC:C=(n:Int)) (v:i.bytes*n<=281474976710656) (x:n<=9223372036854775807)
  (p:wpList P ops Q rest (a.put o.dst (.slice (some ⟨w.heap.size,0,none⟩) n n)) (w.alloc (.cells (madeCells z.cells (n*size)) e))):
  wpList P ops Q (o::rest) a w:=by
 refine wpList_plain s fun K hK'=>?_;have b:(i.bytes:Int)*(n:Int)<=281474976710656:=by
  have h:((i.bytes*n:Nat):Int)<=281474976710656:=by omega
  rwa [Int.natCast_mul] at h
 have f:=run_make (P:=P) w t e i z h1 j k g kc n n (by omega) (Int.le_refl _) b (by omega);simp only[Int.toNat_natCast,m] at f;subst q;subst hC;unfold Oper.wp;simp[execOp,d,u,r,f,Result.andThen];exact hK' _ _ p
structure L4(W:World)(X R S O G1 G2 G3 G4:Nat)(qx:Array Value)(o1 o2 o3 o4:Value)(j1 j2 j3 j4:Nat)(u1 u2 u3 u4:List Value)(x1 x2 x3 x4:List Value)(w:World):Prop where
 low:Below W.heap.size W w
 lx:Loc w X qx 49
 lr:Loc w R zq 49
 ls:Loc w S #[.slice none 0 0,.slice none 0 0,.slice none 0 0,.slice none 0 0] 999999
 lo:Loc w O #[o1,o2,o3,o4] 999999
 bx:W.heap.size<=X
 br:W.heap.size<=R
 bs:W.heap.size<=S
 bo:W.heap.size<=O
 ne:S≠O
 r1:Loc w G1 x1.toArray 191
 b1:W.heap.size<=G1
 l1:w.ownsRow W.heap.size 42 1 o1 j1 u1
 r2:Loc w G2 x2.toArray 125
 b2:W.heap.size<=G2
 l2:w.ownsRow W.heap.size 43 1 o2 j2 u2
 r3:Loc w G3 x3.toArray 129
 b3:W.heap.size<=G3
 l3:w.ownsRow W.heap.size 44 1 o3 j3 u3
 r4:Loc w G4 x4.toArray 120
 b4:W.heap.size<=G4
 l4:w.ownsRow W.heap.size 47 1 o4 j4 u4
variable {W w w2:World} {X R S O G1 G2 G3 G4 j1 j2 j3 j4:Nat} {qx:Array Value} {o1 o2 o3 o4:Value} {x1 x2 x3 x4 u1 u2 u3 u4:List Value}
end
section
open Go.RowKit Go.Maps
def iV(s:ByteArray):ByteArray:=⟨(Lib.trimSuffix s.data.toList [10]).toArray⟩
def jk(s:ByteArray):List ByteArray:=if s.toList.isEmpty then [] else Lib.splitB ⟨#[10]⟩ 0 (Lib.countB (iV s) ⟨#[10]⟩) (iV s)
theorem py(s:ByteArray):(iV s).size<=s.size:=by
 unfold iV Lib.trimSuffix;split
 ·show (List.take _ s.data.toList).toArray.size<=s.data.size;rw[List.size_toArray,v8,A4];omega
 ·exact rm _
theorem wu(sep:ByteArray):∀(k:Nat) (s:ByteArray),∀x∈Lib.splitB sep 0 k s,x.size<=s.size
 | 0,s,x,hx=>by simp[Lib.splitB] at hx;subst hx;exact rm _
 | k+1,s,x,hx=>by
  unfold Lib.splitB at hx;split at hx
  ·simp at hx;subst hx;exact rm _
  ·rcases List.mem_cons.1 hx with rfl|hx
   ·rw[Mi];omega
   ·have:=wu sep k _ x hx;rw[Mi] at this;omega
theorem GG{x:ByteArray}(a:x∈jk s):x.size<=s.size:=by
 unfold jk at a;split at a
 ·cases a
 ·exact r8 (wu _ _ _ x a) (py s)
theorem JN(c:s.size<=2000):(jk s).length<=2001:=by
 unfold jk;split
 ·simp
 ·rw[Lib.splitB_all _ (by decide) 0 _ _ rfl];have h1:=Lib.countB_mul_le ⟨#[10]⟩ (by decide) (iV s).size (iV s) (rm _);have b:=py s;have a:(⟨#[10]⟩:ByteArray).size=1:=rfl;rw[a] at h1;omega
theorem MN{l:List ByteArray}{T:TypeId}:dj (w.alloc (.cells (l.map Value.string).toArray T)) 1 (.slice (some ⟨w.heap.size,0,none⟩) l.length l.length) l.length (l.map Value.string):=by
 refine⟨by simp,_,_,rfl,rm _,fun _=>⟨w.heap.size,0,rfl,fun j u hu=>?_⟩⟩;rw[tH,(Loc.new w _ T).cell j,List.getElem?_toArray];exact hu
theorem NU(w:World):dj w 1 (.slice none 0 0) 0 []:=⟨rfl,_,_,rfl,rm _,fun h=>absurd h (by omega)⟩
theorem Mo{m:Int}(g:s.size<=2000)(hm:W.cell? ⟨1,0,none⟩=some (.int .i64 m)):
  Calls prog 40 #[.string s] W fun e W'=>∃ao cap,e=.returned (.slice ao (jk s).length cap)/\dj W' 1 (.slice ao (jk s).length cap) (jk s).length ((jk s).map Value.string)/\Below W.heap.size W W':=by
 cases he:s.toList.isEmpty with
 | true=>
  have a:qv (jk s=[]):=p9 (by unfold jk;rw[a8 he]);go_enter func40,ntmps40
  go_wp2_with fail;go_ret;rw[a.o];exact⟨none,0,rfl,NU W,r5 _ _⟩
 | false=>
  have a:qv (jk s=Lib.splitB ⟨#[10]⟩ 0 (Lib.countB (iV s) ⟨#[10]⟩) (iV s)):=p9 (by unfold jk;rw[bk (by simp[he])]);have c:=p9 hm;clear hm;go_enter func40,ntmps40
  go_wp2_with fail;refine(Tryz.strings_TrimSuffix s ⟨#[10]⟩ W (by omega)).mono ?_;rintro e f ⟨rfl,hw⟩;obtain rfl:=hw.symm;go_wp2_with fail;refine(Tryz.strings_Split (iV s) ⟨#[10]⟩ m W (by have:=py s;omega) c.o (by decide)).mono ?_;rintro e f ⟨rfl,hw⟩;have b:=p9 (Lib.splitB_all ⟨#[10]⟩ (by decide) 0 _ (iV s) rfl);have d:=p9 hw;clear hw;go_wp2_with fail;go_ret;rw[a.o,b.o,d.o];refine⟨some ⟨W.heap.size,0,none⟩,_,rfl,?_,(r5 _ _).alloc (rm _) _⟩;have:=MN (w:=W) (l:=Lib.splitB ⟨#[10]⟩ 0 (Lib.countB (iV s) ⟨#[10]⟩) (iV s)) (T:=9);rw[b.o] at this;exact this
end
end Go.Proofs.YtbfmmmjkjhjleaaGreatDoor
