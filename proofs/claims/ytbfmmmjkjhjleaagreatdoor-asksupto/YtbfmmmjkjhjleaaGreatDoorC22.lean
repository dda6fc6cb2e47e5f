/- Mine. -/
import Derived.Test.YtbfmmmjkjhjleaaGreatDoorC17
import Derived.Test.YtbfmmmjkjhjleaaGreatDoorC06
import Derived.Test.YtbfmmmjkjhjleaaGreatDoorC09
set_option maxRecDepth 100000
set_option maxHeartbeats 0
namespace Go.Proofs.YtbfmmmjkjhjleaaGreatDoor
open Go.Proofs.Tryz
variable {W W0:World} {u X m:Nat} {out:List UInt8} {s:ByteArray}
section
open Go.RowKit Go.Maps
def jw(S:bF->Bool)(q:aI):Bool:=q.aj.all (fun p=>S (5,q.ai,p.key))&&S (4,q.ai,⟨#[]⟩)
theorem Ph{v:Int}{t k:ByteArray}(b:0<=v)(h1:v<=10)(a:t.size<=maxLen)(hk:k.size<=maxLen):N9 (v,t,k):=⟨WalkArith.wf_i64 (by simp only;omega),a,hk⟩
theorem C4{i rn:Nat}{S:bF->Bool}{nm:ByteArray}{q:aI}{vs vc vi:Value}{c:Option Addr}{cap:Nat}(hr:dl W i rn S)(hp:dj W 2 (.slice c q.aj.length cap) q.aj.length (q.aj.flatMap dG))(hn:q.aj.length<=1000)(hl:q.ai.size<=maxLen)(hk:∀p∈q.aj,p.key.size<=maxLen):
  Calls prog 193 #[.agg #[.string nm,.map (some i)],.agg (qC q vs vc vi (.slice c q.aj.length cap))] W fun e W'=>e=.returned (.bool (jw S q))/\Below W.heap.size W W':=by
 have B:=p9 ((r5 W.heap.size W).alloc (rm _) (.cells #[.string nm,.map (some i)] 104));have E:=p9 (Loc.new W #[.string nm,.map (some i)] 104);have C:=p9 (B.o.alloc B.o.size (.cells (qC q vs vc vi (.slice c q.aj.length cap)) 49));have s:=p9 (E.o.alloc (.cells (qC q vs vc vi (.slice c q.aj.length cap)) 49));have f:=p9 (Loc.new (W.alloc (.cells #[.string nm,.map (some i)] 104)) (qC q vs vc vi (.slice c q.aj.length cap)) 49);have V:=p9 hr;have HP:=p9 hp;have U:=p9 hl;have HK:=p9 hk;clear hr hp hl hk B E;go_enter func193,ntmps193
 go_upto_region 1 with fail;obtain⟨Y,O⟩:∃Y,Y=W.heap.size:=⟨_,rfl⟩;have e1:(W.alloc (.cells #[.string nm,.map (some i)] 104)).heap.size=Y+1:=by rw[O];simp
 rw[e1] at f;rw[<-O] at s⊢;clear O e1;generalize (W.alloc (.cells #[.string nm,.map (some i)] 104)).alloc (.cells (qC q vs vc vi (.slice c q.aj.length cap)) 49)=W1 at C s f⊢;have Q:W1.cell? ⟨Y+1,16,none⟩=some (.slice c q.aj.length cap):=(f.o.cell 16).trans rfl;go_wp2_with fail;clear Q;go_loopg [10] q.aj.length (fun n iv w=>∃k:Nat,iv=.int .i64 (k:Int)/\k+n=q.aj.length/\(q.aj.take k).all (fun p=>S (5,q.ai,p.key))=true/\Below W.heap.size W w/\Loc w Y #[.string nm,.map (some i)] 104/\Loc w (Y+1) (qC q vs vc vi (.slice c q.aj.length cap)) 49)
 case atStart=>exact⟨0,rfl,by omega,by simp,C.o,s.o,f.o⟩
 case round=>
  obtain⟨k,rfl,hk,z,h,G,hq⟩:=hrel;have x:=p9 z;have A:=p9 h;have t:=p9 G;have K:=p9 hq;clear z h G hq C s f;by_cases v:k<q.aj.length
  ·obtain⟨g,oo,rfl,a⟩:=bC (l:=q.aj) dG (fun _=>rfl) (HP.o.below A.o) v;obtain⟨y,I⟩:∃y,q.aj[k]=y:=⟨_,rfl⟩;have X:=p9 I;have N:=p9 (HK.o y (by rw[<-I];exact sT v));rw[I] at a;clear I;have p0:wr.cell? ⟨g,oo+k*2,none⟩=some (.string y.key):=a 0 (by decide);have p1:wr.cell? ⟨g,oo+k*2+1,none⟩=some (.int .i64 y.val):=a 1 (by decide);have P:(k:Int)<(q.aj.length:Int):=by omega
   clear a;have d:=p9 (A.o.alloc A.o.size (.cells #[.string y.key,.int .i64 y.val] 120));have b:=p9 (t.o.alloc (.cells #[.string y.key,.int .i64 y.val] 120));have m:=p9 (K.o.alloc (.cells #[.string y.key,.int .i64 y.val] 120));have u:=p9 (Loc.new wr #[.string y.key,.int .i64 y.val] 120);clear A t K;go_upto_region 4 with fail;obtain⟨Z,hZ⟩:∃Z,Z=wr.heap.size:=⟨_,rfl⟩;rw[<-hZ] at u⊢;clear hZ p0 p1;generalize wr.alloc (.cells #[.string y.key,.int .i64 y.val] 120)=W2 at d b m u⊢;have R:=b.o.at_ 0 (.string nm) rfl;have T:=b.o.at_ 1 (.map (some i)) rfl;have D:W2.cell? ⟨Y+1,15,none⟩=some (.string q.ai):=(m.o.cell 15).trans rfl;have z0:=u.o.at_ 0 (.string y.key) rfl;go_wp2_with fail;refine(Pu (r:=(5,q.ai,y.key)) (V.o.kept (ag d.o none) (by simp)) (Ph (by decide) (by decide) U.o N.o)).mono ?_;rintro e W3 ⟨rfl,h⟩;have j:=p9 (d.o.trans (h.mono d.o.size));have F:=p9 (b.o.grown (ag h none) (by simp));have L:=p9 (m.o.grown (ag h none) (by simp));clear h R T D z0 d b m u;cases H:S (5,q.ai,y.key) with
   | true=>
    have M:=p9 H;clear H;go_wp2_with fail;go_roundg (gk - 1)
    case rel=>
     refine⟨k+1,by simp,by omega,?_,j.o,F.o,L.o⟩;rw[tt,r6 v,List.all_append,x.o,X.o];simp[M.o]
    case measure=>omega
   | false=>
    have J:qv (jw S q=false):=p9 (by
     unfold jw;have:q.aj.all (fun p=>S (5,q.ai,p.key))=false:=by rw[List.all_eq_false];exact⟨q.aj[k],sT v,by rw[X.o,H];simp⟩
     rw[this];rfl)
    clear H;go_wp2_with fail;go_ret;exact⟨by rw[J.o];rfl,j.o⟩
  ·have P:¬(k:Int)<(q.aj.length:Int):=by omega
   have J:qv (jw S q=S (4,q.ai,⟨#[]⟩)):=p9 (by have:=x.o;rw[uB (by omega)] at this;unfold jw;rw[this];rfl);have R:=t.o.at_ 0 (.string nm) rfl;have T:=t.o.at_ 1 (.map (some i)) rfl;have D:wr.cell? ⟨Y+1,15,none⟩=some (.string q.ai):=(K.o.cell 15).trans rfl;go_wp2_with fail;refine(Pu (r:=(4,q.ai,⟨#[]⟩)) (V.o.kept (ag A.o none) (by simp)) (CR (by decide) (by decide) U.o)).mono ?_;rintro e W3 ⟨rfl,h⟩;have j:=p9 (A.o.trans (h.mono A.o.size));clear h R T D;go_wp2_with fail;go_ret;exact⟨by rw[J.o];rfl,j.o⟩
end
section
open Go.RowKit
theorem JA{a b:ByteArray}(h:a≠b):(a.toList==b.toList)=false:=by
 cases he:(a.toList==b.toList)
 ·rfl
 ·exact absurd (Pure.Hf (a:=a) (b:=b) he) h
def tz(r:Nat):List UInt8:=if r=0 then [] else Lib.decDigits r
theorem yU(r:Nat):Lib.decDigits r=tz (r / 10)++[UInt8.ofNat (48+r % 10)]:=by
 by_cases h:r<10
 ·have h1:r / 10=0:=by omega
  have a:r % 10=r:=by omega
  rw[Lib.decDigits_one h,h1,a];simp[tz]
 ·have h1:¬r / 10=0:=by omega
  rw[Lib.decDigits,dif_neg h];simp only[tz,bk h1]
theorem xJ:∀(k u:Nat),u<10 ^ (k+1)->Lib.nDigits u<=k+1
 | 0,u,h=>by rw[Lib.nDigits_small (by omega)];omega
 | k+1,u,h=>by
  by_cases hu:u<10
  ·rw[Lib.nDigits_small hu];omega
  ·rw[Lib.nDigits_big hu];have:=xJ k (u / 10) (by rw[Nat.pow_succ] at h;omega);omega
def pB(u r:Nat)(out:List UInt8):Prop:=r<=u/\((out=[]/\r=u)\/(out≠[]/\Lib.decDigits u=tz r++out))
theorem pB.step{r:Nat}(h:pB u r out)(c:r≠0\/out=[]):pB u (r / 10) (UInt8.ofNat (48+r % 10)::out):=by
 refine⟨by have:=h.1;omega,a6 ⟨by simp,?_⟩⟩;rcases h.2 with ⟨rfl,rfl⟩|⟨b,h⟩
 ·exact yU r
 ·have a:r≠0:=by rcases c with h|h;exact h;exact absurd h b
  rw[h];simp only[tz,bk a];rw[yU r];simp[tz]
theorem pB.last(h:pB u 0 out)(a:out≠[]):Lib.decDigits u=out:=by
 rcases h.2 with ⟨h,_⟩|⟨_,h⟩
 ·exact absurd h a
 ·rw[h];simp[tz]
theorem pB.small{r:Nat}(h:pB u r out)(hu:u<=9223372036854775808):out.length<=20:=by
 have a:=xJ 19 u (by omega);rcases h.2 with ⟨rfl,_⟩|⟨_,h⟩
 ·simp
 ·have:=Lib.decDigits_length u;rw[h,r7] at this;omega
theorem tA(w:World)(z:Int){c:Nat}(d:c<=9)(b:z=(c:Int)):(convert 101 9 (.slice (some ⟨w.heap.size,0,none⟩) 1 1)).run prog (w.alloc (.cells #[.int .u8 (48+z)] 5))=.ok (.string ⟨#[UInt8.ofNat (48+c)]⟩) (w.alloc (.cells #[.int .u8 (48+z)] 5)):=by
 subst b;refine run_convert_bytes_back (P:=prog) (w.alloc (.cells #[.int .u8 (48+(c:Int))] 5)) 101 9 5 ⟨w.heap.size,0,none⟩ 1 [UInt8.ofNat (48+c)] underlying101 underlying5 underlying9 (fun j hj=>?_);have a:j=0:=by simp at hj;exact hj
 subst a;have h1:((UInt8.ofNat (48+c)).toNat:Int)=48+(c:Int):=by simp[UInt8.toNat_ofNat'];omega
 have:=World.cell?_alloc_mark w #[.int .u8 (48+(c:Int))] 5 (0,0) 0;simp only[r9];rw[h1];exact this
theorem A8(w:World):(convert 101 9 (.slice (some ⟨w.heap.size,0,none⟩) 1 1)).run prog (w.alloc (.cells #[.int .u8 48] 5))=.ok (.string ⟨#[48]⟩) (w.alloc (.cells #[.int .u8 48] 5)):=tA w 0 (c:=0) (by omega) rfl
theorem sH(d:UInt8)(out:List UInt8):(⟨#[d]⟩++⟨out.toArray⟩:ByteArray)=⟨(d::out).toArray⟩:=by
 apply ByteArray.ext;simp[ByteArray.data_append]
theorem AA(h:s≠⟨#[]⟩):s.toList.isEmpty=false:=by
 have:=JA h;have e:(⟨#[]⟩:ByteArray).toList=[]:=by first|rfl|decide +kernel|simp[ByteArray.toList,ByteArray.toList.loop]
 rw[e] at this;cases a:s.toList with
 | nil=>rw[a] at this;cases this
 | cons _ _=>rfl
theorem Eg(hu:u<=9223372036854775807):
  Calls prog 69 #[.int .i64 (u:Int)] W fun e W'=>e=.returned (.string ⟨(Lib.decDigits u).toArray⟩)/\Below W.heap.size W W':=by
 have H:¬(u:Int)<0:=by omega
 go_enter func69,ntmps69
 go_wp2_with fail;go_loopg [3,4] (2*u+2) (fun g vo vr w=>∃(r:Nat) (out:List UInt8),vo=.string ⟨out.toArray⟩/\vr=.int .i64 (r:Int)/\pB u r out/\g=2*r+(if out=[] then 2 else 1)/\Below W.heap.size W w)
 case atStart=>exact⟨u,[],rfl,rfl,⟨rm _,ad ⟨rfl,rfl⟩⟩,by simp,r5 _ _⟩
 case round=>
  obtain⟨r,out,rfl,rfl,hi,B,m⟩:=hrel;have q:=p9 hi;have C:=p9 m;have y:=p9 B;have k:0<=(r:Int):=by omega
  have l:(r:Int)<=9223372036854775807:=by have:=hi.1;omega
  have i:(r:Int) % 10<=9:=by omega
  have j:¬(r:Int) % 10<0:=by omega
  have x:(⟨out.toArray⟩:ByteArray).size<=20:=hi.small (by omega);have b:∀o,Below W.heap.size W (wr.alloc o):=fun o=>m.alloc m.size _;have z:=p9 b;clear hi m B b;by_cases n:r=0
  ·by_cases he:out=[]
   ·subst he;subst n;have t:=p9 (q.o.step (a6 rfl));have d:=A8 wr;clear k l i j x;go_wp2_with fail;go_roundg 1
    case measure=>have:=y.o;simp at this;omega
    case rel=>exact⟨0,[48],by rfl,rfl,t.o,by simp,z.o _⟩
   ·subst n;have D:=p9 (q.o.last he);have v:=AA (s:=⟨out.toArray⟩) (fun h=>he (by have:=congrArg ByteArray.data h;simpa using this));obtain⟨os,a⟩:∃os:ByteArray,⟨out.toArray⟩=os:=⟨_,rfl⟩;have E:=p9 a;rw[a] at v⊢;clear k l i j x a;go_wp2_with fail;go_ret;exact⟨by rw[D.o,E.o];rfl,C.o⟩
  ·have G:((r:Int)==0)=false:=by simp;exact n
   have t:=p9 (q.o.step (ad n));have d:=tA wr ((r:Int) % 10) (c:=r % 10) (by omega) (by omega);have F:(⟨#[UInt8.ofNat (48+r % 10)]⟩:ByteArray).size<=1:=rm _;have p:=p9 (sH (UInt8.ofNat (48+r % 10)) out);obtain⟨os,a⟩:∃os:ByteArray,⟨out.toArray⟩=os:=⟨_,rfl⟩;obtain⟨A,f⟩:∃A:ByteArray,⟨#[UInt8.ofNat (48+r % 10)]⟩=A:=⟨_,rfl⟩;rw[a] at x p⊢;rw[f] at F d p;clear a f;go_wp2_with fail;go_roundg (2*(r / 10)+1)
   case measure=>have:=y.o;split at this<;>omega
   case rel=>exact⟨r / 10,UInt8.ofNat (48+r % 10)::out,by rw[<-p.o],by simp,t.o,by simp,z.o _⟩
theorem Em(hu:u<=9223372036854775808)(I:0<u):
  Calls prog 69 #[.int .i64 (-(u:Int))] W fun e W'=>e=.returned (.string ⟨(45::Lib.decDigits u).toArray⟩)/\Below W.heap.size W W':=by
 have H:-(u:Int)<0:=by omega
 go_enter func69,ntmps69
 go_wp2_with fail;go_loopg [3,4] (2*u+2) (fun g vo vr w=>∃(r:Nat) (out:List UInt8),vo=.string ⟨out.toArray⟩/\vr=.int .i64 (-(r:Int))/\pB u r out/\g=2*r+(if out=[] then 2 else 1)/\Below W.heap.size W w)
 case atStart=>exact⟨u,[],rfl,rfl,⟨rm _,ad ⟨rfl,rfl⟩⟩,by simp,r5 _ _⟩
 case round=>
  obtain⟨r,out,rfl,rfl,hi,z,j⟩:=hrel;have k:=p9 hi;have B:=p9 j;have D:=p9 z;have p:-(r:Int)<=0:=by omega
  have q:-9223372036854775808<=-(r:Int):=by have:=hi.1;omega
  have A:(⟨out.toArray⟩:ByteArray).size<=20:=hi.small (by omega);have d:∀o,Below W.heap.size W (wr.alloc o):=fun o=>j.alloc j.size _;have x:=p9 d;clear hi j z d;by_cases t:r=0
  ·have he:out≠[]:=by
    intro he;rcases k.o.2 with ⟨_,h⟩|⟨h,_⟩
    ·omega
    ·exact h he
   subst t;have C:=p9 (k.o.last he);have m:=AA (s:=⟨out.toArray⟩) (fun h=>he (by have:=congrArg ByteArray.data h;simpa using this));have b:=p9 (sH 45 out);obtain⟨os,a⟩:∃os:ByteArray,⟨out.toArray⟩=os:=⟨_,rfl⟩;rw[a] at m A b⊢;clear p q a;go_wp2_with fail;go_ret;exact⟨by rw[C.o,<-b.o];rfl,B.o⟩
  ·have G:(-(r:Int)==0)=false:=by simp;exact t
   have l:=p9 (k.o.step (ad t));have b:=p9 (sH (UInt8.ofNat (48+r % 10)) out);have v:qv (2*(r / 10)+1<gk):=by have:=D.o;show _<_;split at this<;>omega
   obtain⟨os,a⟩:∃os:ByteArray,⟨out.toArray⟩=os:=⟨_,rfl⟩;rw[a] at A b⊢;clear a;by_cases n:r % 10=0
   ·have hm:(r:Int) % 10=0:=by omega
    rw[n] at l b;have f:=A8 wr;clear n;go_wp2_with fail;go_roundg (2*(r / 10)+1)
    case measure=>exact v.o
    case rel=>exact⟨r / 10,48::out,congrArg Value.string b.o,by simp,l.o,by simp,x.o _⟩
   ·have hm:0<(r:Int) % 10:=by omega
    have F:(r:Int) % 10<=9:=by omega
    have f:=tA wr ((r:Int) % 10) (c:=r % 10) (by omega) (by omega);have E:(⟨#[UInt8.ofNat (48+r % 10)]⟩:ByteArray).size<=1:=rm _;obtain⟨y,i⟩:∃y:ByteArray,⟨#[UInt8.ofNat (48+r % 10)]⟩=y:=⟨_,rfl⟩;rw[i] at E f b;clear i n;go_wp2_with fail;go_roundg (2*(r / 10)+1)
    case measure=>exact v.o
    case rel=>exact⟨r / 10,UInt8.ofNat (48+r % 10)::out,by rw[<-b.o],by simp,l.o,by simp,x.o _⟩
theorem qP{n:Int}(a:nY n):
  Calls prog 69 #[.int .i64 n] W fun e W'=>e=.returned (.string (bP n))/\Below W.heap.size W W':=by
 obtain⟨b,h1⟩:=a;by_cases h:n<0
 ·obtain⟨u,rfl⟩:∃u:Nat,n=-(u:Int):=⟨n.natAbs,by omega⟩;have e:bP (-(u:Int))=⟨(45::Lib.decDigits u).toArray⟩:=by unfold bP Lib.itoa;rw[a8 h];simp
  rw[e];exact Em (by omega) (by omega)
 ·obtain⟨u,rfl⟩:∃u:Nat,n=(u:Int):=⟨n.toNat,by omega⟩;have e:bP (u:Int)=⟨(Lib.decDigits u).toArray⟩:=by unfold bP Lib.itoa;rw[bk h];simp
  rw[e];exact Eg (by omega)
open Go.Maps
def iH(s:ByteArray):ByteArray:=⟨(Lib.trimPrefix s.data.toList [114,111,108,101,32]).toArray⟩
def vq(s:ByteArray):Bool:=Lib.hasPrefix s.data.toList [114,111,108,101,32]
def oq(l:List db)(s:ByteArray):Bool:=vq s&&(bM (iH s)==1)&&!(l.length==6)&&(kW l (iH s)).isNone
theorem I9(s:ByteArray)(w:World):Calls prog 97 #[.string s,.string ⟨#[114,111,108,101,32]⟩] w fun e w'=>e=.returned (.tuple #[.string (iH s),.bool (vq s)])/\w'=w:=
 Tryz.strings_CutPrefix s ⟨#[114,111,108,101,32]⟩ w
theorem E4{w:World}{B k n:Nat}{T:TypeId}{v:Value}{xs:List Value}(h:w.ownsRow B T k v (n+1) xs):∃g cap,v=.slice (some ⟨g,0,none⟩) (n+1) cap:=by
 rcases h.2 with ⟨_,b⟩|⟨g,cap,a,rfl,_⟩
 ·omega
 ·exact⟨g,cap,rfl⟩
theorem KZ{w:World}{a b:Value}{T:TypeId}:∀(j:Nat) (u:Value),[a,b][j]?=some u->(w.alloc (.cells #[a,b] T)).cell? ((⟨w.heap.size,0,none⟩:Addr).add j)=some u:=by
 intro j u c
 match j,c with
 | 0,c=>simp at c;subst c;simp[Addr.add]
 | 1,c=>simp at c;subst c;simp[Addr.add]
theorem Lm{a:ByteArray}{b:Nat}:∀u∈[Value.string a,.map (some b)],u.oneCell'=true:=by
 intro u hu;simp at hu;rcases hu with rfl|rfl<;>rfl
theorem Tryz.LK:(prog.info? 104).map (fun i=>(i.zero,i.size,i.bytes))=some (some (.agg #[.string ⟨#[]⟩,.map none]),2,24):=by kernel_rfl
theorem Jf{l:List db}(h:gX W0 X l m W)(x:l.length<=6)(b:oq l s=false):
  Calls prog 42 #[.pointer (some ⟨X,0,none⟩),.string s] W fun e W'=>e=.returned (.bool false)/\gX W0 X l m W':=by
 have H:=p9 h;obtain⟨v,q,i⟩:=h.list;have k:=p9 (aJ i i.1);obtain⟨ao,cap,rfl,p⟩:=bi k.o;have x0:=q.at_ 0 (.slice ao l.length cap) rfl;clear h q i;unfold oq at b;go_enter func42,ntmps42
 go_wp2_with fail;refine(I9 s W).mono ?_;rintro e j ⟨rfl,hw⟩;obtain rfl:=hw.symm;generalize vq s=r at b⊢;generalize iH s=nm at b⊢;cases r with
 | false=>
  go_wp2_with fail;go_ret;exact⟨rfl,H.o⟩
 | true=>
  by_cases hw:bM nm=1
  ·have c:=p9 hw;clear hw;by_cases d:l.length=6
   ·have g:((l.length:Int)==6)=true:=by simp;omega
    clear d b;go_wp2_with (go_at_call 71;refine(gj _ _).mono ?_;rintro e j ⟨rfl,a⟩;obtain rfl:=a.symm;rw[c.o])
    go_ret;exact⟨rfl,H.o⟩
   ·have g:((l.length:Int)==6)=false:=by simp;omega
    obtain⟨y,t⟩:∃y,kW l nm=some y:=by
     rw[c.o] at b;have f:(l.length==6)=false:=by simpa using d
     rw[f] at b;cases w:kW l nm with
     | none=>rw[w] at b;cases b
     | some y=>exact⟨y,rfl⟩
    have u:=p9 t;clear d b t;go_upto_region 4 with (go_at_call 71;refine(gj _ _).mono ?_;rintro e j ⟨rfl,a⟩;obtain rfl:=a.symm;rw[c.o])
    go_wp2_with fail;refine(N0 x k.o).mono ?_;rintro e z ⟨rfl,n⟩;have H1:=p9 ((H.o.later n).later ((r5 _ _).alloc (rm _) (.cells #[.string y.1,.map (some y.2.1)] 104)));rw[u.o];unfold EF;clear x0 n;go_wp2_with fail;go_ret;exact⟨rfl,H1.o⟩
  ·have a:(bM nm != 1)=true:=by simpa using hw
   go_wp2_with (go_at_call 71;refine(gj _ _).mono ?_;rintro e j ⟨rfl,a⟩;obtain rfl:=a.symm)
   go_ret;exact⟨rfl,H.o⟩
theorem gX.S8{d:World}{l:List db}{v f:Value}{nm:ByteArray}(h:gX W0 X l m W)(r:W.ownsRow W0.heap.size 104 2 v l.length (l.flatMap nW))
  (q:((W.alloc (.map #[] 0)).alloc (.cells #[.string nm,.map (some W.heap.size)] 104)).grownBy d v.ownBlock) (g:Loc d X #[v] 58)
  (o:d.ownsRow W0.heap.size 104 2 f (l.length+1) (l.flatMap nW++[.string nm,.map (some W.heap.size)])):
  gX W0 X (l++[(nm,W.heap.size,fun _=>false)]) m (d.setCell ⟨X,0,none⟩ f):=by
 have y:=h.frame.size;have i:∀{b n:Nat} {S:bF->Bool},dl d b n S->dl (d.setCell ⟨X,0,none⟩ f) b n S:=fun hr=>hr.kept (aE d X 0 f) (by intro e;injection e with e;exact hr.cJ g e);have hold:∀x∈l,dl d x.2.1 m x.2.2:=fun x c=>(((h.right x c).kept (aD W _ none) (by simp)).kept (aD _ _ none) (by simp)).kept q ((h.right x c).j6 r);have j:dl d W.heap.size m (fun _=>false):=((dl.made W m).kept (aD _ _ none) (by simp)).kept q (by
  intro e;have:=(r.lt _ e.symm).2;omega)
 have p:W0.grownBy d (some X):=mY (mY (mY h.frame (aD _ _ none) (by simp)) (aD _ _ none) (by simp)) q (fun k hk=>(r.lt k hk).1);have t:f.ownBlock≠some X:=fun e=>aR o g (by decide) e;refine⟨⟨f,?_,?_⟩,?_,?_,?_,ay p (aE d X 0 f)⟩
 ·exact g.set 0 f
 ·have e:(l++[((nm,W.heap.size,fun _=>false):db)]).length=l.length+1:=by simp
  have s:(l++[((nm,W.heap.size,fun _=>false):db)]).flatMap nW=l.flatMap nW++[.string nm,.map (some W.heap.size)]:=by simp[nW]
  rw[e,s];exact o.kept (aE d X 0 f) (a6 t)
 ·intro x c;rcases List.mem_append.1 c with c|c
  ·exact i (hold x c)
  ·simp only[vA] at c;subst c;exact i j
 ·rw[vb,List.nodup_append];refine⟨h.apart,by simp,?_⟩;intro a u b w;simp only[xd,Cf,vA] at w;obtain⟨x,c,rfl⟩:=List.mem_map.1 u;have:=(h.right x c).lt;omega
 ·intro x c;rcases List.mem_append.1 c with c|c
  ·exact h.low x c
  ·simp only[vA] at c;subst c;exact y
theorem Hk{l:List db}(h:gX W0 X l m W)(Y:l.length<=6)(A:oq l s=true):
  Calls prog 42 #[.pointer (some ⟨X,0,none⟩),.string s] W fun e W'=>e=.returned (.bool true)/\∃b,gX W0 X (l++[(iH s,b,fun _=>false)]) m W':=by
 obtain⟨i0,hi,C,D,E⟩:=info_parts Tryz.LK;have H:=p9 h;obtain⟨v,q,i⟩:=h.list;have y:=p9 (aJ i i.1);obtain⟨ao,cap,rfl,M⟩:=bi y.o;have x0:=q.at_ 0 (.slice ao l.length cap) rfl;clear h q i;unfold oq at A;simp only[wa,Bool.not_eq_true',beq_iff_eq,beq_eq_false_iff_ne,Option.isNone_iff_eq_none] at A;obtain⟨⟨⟨h1,K⟩,U⟩,N⟩:=A;have H1:=p9 h1;have F:=p9 K;have G:=p9 N;have V:((l.length:Int)==6)=false:=by simp;omega
 have Q:=p9 (show l.length<6 by omega);clear h1 K U N;go_enter func42,ntmps42
 go_wp2_with fail;refine(I9 s W).mono ?_;rintro e w' ⟨rfl,hw⟩;obtain rfl:=hw.symm;rw[H1.o];obtain⟨nm,p⟩:∃nm,iH s=nm:=⟨_,rfl⟩;rw[p] at F G⊢;have t:=p9 p;clear p;go_upto_region 4 with (go_at_call 71;refine(gj _ _).mono ?_;rintro e w' ⟨rfl,B⟩;obtain rfl:=B.symm;rw[F.o])
 go_wp2_with fail;refine(N0 Y y.o).mono ?_;rintro e T ⟨rfl,L⟩;have r:=p9 ((H.o.later L).later ((r5 _ _).alloc (rm _) (.cells #[.string ⟨#[]⟩,.map none] 104)));rw[G.o];unfold EF;clear x0 L;go_upto_region 7 with fail;generalize T.alloc (.cells #[.string ⟨#[]⟩,.map none] 104)=f at r⊢;obtain⟨v,q,i⟩:=r.o.list;have R:=p9 q;have w:=p9 i;obtain⟨n,c,rfl,z⟩:=bi (aJ i i.1);have x0:=q.at_ 0 (.slice n l.length c) rfl;have A1:=r.o.frame.size;have A0:=@run_makeMap prog;have Z:=Q.o;have O:∀(j:Nat) (u:Value),[Value.string nm,.map (some f.heap.size)][j]?=some u->((f.alloc (.map #[] 0)).alloc (.cells #[.string nm,.map (some f.heap.size)] 104)).cell? ((⟨f.heap.size+1,0,none⟩:Addr).add j)=some u:=by
  have e:(f.alloc (.map #[] 0)).heap.size=f.heap.size+1:=by simp
  rw[<-e];exact KZ
 have S:=p9 O;clear q i y H O;go_wp2_with (at_builtin;go_must (refine wpList_append_own _ rfl _ _ 56 rfl W0.heap.size 104 i0 (.agg #[.string ⟨#[]⟩,.map none]) 2 24 underlying56 hi C D E rfl (by decide) _ _ _ rfl ((w.o.alloc _).alloc _) _ 1 1 [.string nm,.map (some f.heap.size)] rfl rfl S.o Lm (by unfold maxLen;omega) (by omega) (by simp;omega) ?_);intro v' P a d _;have I:qv (((f.alloc (.map #[] 0)).alloc (.cells #[.string nm,.map (some f.heap.size)] 104)).grownBy P (Value.slice n l.length c).ownBlock):=p9 d;clear d;have k:=p9 (((R.o.alloc _).alloc _).dY ((w.o.alloc _).alloc _) I.o (by decide));have cc:P.cell? ⟨X,0,none⟩=some (.slice n l.length c):=(k.o.cell 0).trans rfl;have ff:=k.o.free 0;obtain⟨gg,J,g⟩:=E4 a;subst g;have x:=p9 a;clear a)
 go_ret;exact⟨rfl,f.heap.size,by rw[t.o];exact gX.S8 r.o w.o I.o k.o x.o⟩
end
end Go.Proofs.YtbfmmmjkjhjleaaGreatDoor
