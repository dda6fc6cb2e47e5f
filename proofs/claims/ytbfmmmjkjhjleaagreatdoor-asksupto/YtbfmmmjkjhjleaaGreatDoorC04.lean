/- Mine. -/
import Derived.Test.YtbfmmmjkjhjleaaGreatDoorC01
set_option maxRecDepth 100000
set_option maxHeartbeats 0
namespace Go.Proofs.YtbfmmmjkjhjleaaGreatDoor
open Go.Proofs.Tryz
variable {st:RS} {s sep:ByteArray} {k:Int} {α:Type} {t:Tok}
def dn(s:ByteArray)(a:Nat):Nat->Int
 | 0=>0
 | j+1=>10*dn s a j+(bt s (a+j) - 48)
theorem Lc(l:List UInt8)(j:Nat)(h:j<l.length):l.take (j+1)=l.take j++[l[j]]:=by
 rw[List.take_succ_eq_append_getElem h]
theorem dd(s:ByteArray):s.data.toList.length=s.size:=by rw[A4];rfl
theorem mr{k:Nat}(h:k<s.data.toList.length):bt s k=((s.data.toList[k]'h).toNat:Int):=by
 have a:k<s.size:=by rw[dd] at h;exact h
 rw[<-bX a,Array.getElem_toList];rfl
theorem Cj(s:ByteArray)(a:Nat)(c:∀j,a<=j->j<s.size->48<=bt s j/\bt s j<=57):
  ∀j,a+j<=s.size->dn s a j=(fQ 0 ((s.data.toList.drop a).take j):Nat)
 | 0,_=>by rw[List.take_zero,oI];unfold dn;omega
 | j+1,h=>by
  have ih:=Cj s a c j (by omega);have b:=dd s;have f:j<(s.data.toList.drop a).length:=by rw[x9,b];omega
  rw[Lc _ j f,AZ,dn,ih,yn];have d:=c (a+j) (by omega) (by omega);rw[mr (by rw[b];omega)] at d;rw[mr (by rw[b];omega),List.getElem_drop];omega
theorem BU(s:ByteArray)(a:Nat)(b:∀j,a<=j->j<s.size->48<=bt s j/\bt s j<=57)(j:Nat)(h:a+j<=s.size):
  dn s a j<=(fQ 0 (s.data.toList.drop a):Nat):=by
 rw[Cj s a b j h];have:fQ 0 (s.data.toList.drop a)=fQ (fQ 0 ((s.data.toList.drop a).take j)) ((s.data.toList.drop a).drop j):=by
  rw[<-wm,Mp]
 rw[this];have:=IM ((s.data.toList.drop a).drop j) (fQ 0 ((s.data.toList.drop a).take j));omega
theorem xx(s:ByteArray)(a:Nat)(b:∀j,a<=j->j<s.size->48<=bt s j/\bt s j<=57)(h:a<=s.size):
  dn s a (s.size - a)=(fQ 0 (s.data.toList.drop a):Nat):=by
 rw[Cj s a b _ (by omega),uB (by rw[x9,dd];omega)]
theorem mN(h:0<s.size):∃c r,s.data.toList=c::r/\(c.toNat:Int)=bt s 0/\r=s.data.toList.drop 1/\r.length+1=s.size:=by
 have a:=dd s
 match hs:s.data.toList with
 | []=>rw[hs] at a;simp at a;omega
 | c::r=>
  have:=mr (s:=s) (k:=0) (by rw[a];exact h);refine⟨c,r,rfl,?_,rfl,?_⟩
  ·rw[this];simp[hs]
  ·rw[hs] at a;simpa using a
theorem mX(a:0<s.size)(b:bt s 0≠45)(h:(bt s 0=48/\1<s.size)\/1000000000<(fQ 0 s.data.toList:Nat)):je s.data.toList=none:=by
 obtain⟨c,r,e,i,-,f⟩:=mN a;rw[e] at h⊢;simp only[je];rw[bk (by omega),a8];rcases h with ⟨h1,g⟩|h
 ·exact ad ⟨by omega,by intro d;subst d;simp at f;omega⟩
 ·exact a6 h
theorem lG(a:0<s.size)(d:bt s 0≠45)(h1:¬(bt s 0=48/\1<s.size))(b:(fQ 0 s.data.toList:Nat)<=1000000000):je s.data.toList=some ((fQ 0 s.data.toList:Nat):Int):=by
 obtain⟨c,r,e,i,-,j⟩:=mN a;rw[e] at b⊢;simp only[je];rw[bk (by omega),bk];intro h;rcases h with ⟨g,f⟩|h
 ·apply h1;have:0<r.length:=List.length_pos_iff.2 f;omega
 ·omega
theorem oy(f:1<s.size)(i:bt s 0=45)(h:bt s 1=48\/1000000000<(fQ 0 (s.data.toList.drop 1):Nat)):je s.data.toList=none:=by
 obtain⟨c,r,e,l,b,j⟩:=mN (s:=s) (by omega);have g:=dd s;have a:=mr (s:=s) (k:=1) (by rw[g];exact f);rw[<-b] at h;rw[e];simp only[je];rw[a8 (by omega),a8];rcases h with h|h
 ·left
  cases r with
  | nil=>simp at j;omega
  | cons d t=>
   have:s.data.toList[1]'(by rw[g];exact f)=d:=by simp[e]
   rw[this] at a;simp;omega
 ·exact a6 h
theorem pz(f:1<s.size)(j:bt s 0=45)(h1:bt s 1≠48)(i:(fQ 0 (s.data.toList.drop 1):Nat)<=1000000000):je s.data.toList=some (-((fQ 0 (s.data.toList.drop 1):Nat):Int)):=by
 obtain⟨c,r,e,l,b,m⟩:=mN (s:=s) (by omega);have g:=dd s;have a:=mr (s:=s) (k:=1) (by rw[g];exact f);rw[<-b] at i⊢;rw[e];simp only[je];rw[a8 (by omega),bk];intro h;rcases h with h|h
 ·cases r with
  | nil=>simp at h
  | cons d t=>
   have:s.data.toList[1]'(by rw[g];exact f)=d:=by simp[e]
   rw[this] at a;simp at h;omega
 ·omega
theorem QW(acc:Nat):Lib.parseUint10 acc []=.ok acc:=by simp only[Lib.parseUint10]
theorem Og(acc:Nat)(c:UInt8)(r:List UInt8)(a:48<=c.toNat/\c.toNat<=57):Lib.parseUint10 acc (c::r)=if 1844674407370955162<=acc then .range else if 18446744073709551616<=acc*10+(c.toNat - 48) then .range else Lib.parseUint10 (acc*10+(c.toNat - 48)) r:=by
 simp only[Lib.parseUint10];rw[a8 a]
theorem rz(M:Nat)(h:M=18446744073709551616)(l:List UInt8):∀(acc:Nat),(∀c∈l,48<=c.toNat/\c.toNat<=57)->acc<M->
  (fQ acc l<M/\Lib.parseUint10 acc l=.ok (fQ acc l))\/(M<=fQ acc l/\Lib.parseUint10 acc l=.range):=by
 induction l with
 | nil=>intro acc _ b;rw[oI,QW];exact ad ⟨b,rfl⟩
 | cons c r ih=>
  intro acc f b;have g:=f c zi;have hle:=IM r (10*acc+(c.toNat - 48));rw[Og acc c r g,oK,yn];by_cases h1:1844674407370955162<=acc
  ·rw[a8 h1];exact a6 ⟨by omega,rfl⟩
  ·rw[bk h1];by_cases a:18446744073709551616<=acc*10+(c.toNat - 48)
   ·rw[a8 a];exact a6 ⟨by omega,rfl⟩
   ·rw[bk a];have e:acc*10+(c.toNat - 48)=10*acc+(c.toNat - 48):=by omega
    rw[e];exact ih _ (fun d hd=>f d (D2 _ hd)) (by omega)
theorem yP(d:0<s.size)(h:∀j,j<s.size->48<=bt s j/\bt s j<=57):
  Lib.atoiAll s.data.toList=.ok ((fQ 0 s.data.toList:Nat):Int)\/(Lib.atoiAll s.data.toList=.range/\1000000000<(fQ 0 s.data.toList:Nat)):=by
 have k:=dd s;have a:∀c∈s.data.toList,48<=c.toNat/\c.toNat<=57:=by
  intro c g;obtain⟨i,hi,rfl⟩:=List.mem_iff_getElem.1 g;have:=h i (by rw[<-k];exact hi);rw[mr hi] at this;omega
 obtain⟨c,r,e,g,-,m⟩:=mN d;have l:=h 0 d;have hp:=rz 18446744073709551616 rfl s.data.toList 0 a (by omega);rw[e] at hp⊢;have hm:Lib.parseMag (c::r)=Lib.parseUint10 0 (c::r):=by simp[Lib.parseMag]
 rw[Lib.atoiAll_plain c r (by omega) (by omega),hm];rcases hp with ⟨h1,b⟩|⟨h1,b⟩
 ·rw[b];by_cases f:9223372036854775808<=fQ 0 (c::r)
  ·right;exact⟨by simp[Lib.signless,f],by omega⟩
  ·left;simp[Lib.signless,f]
 ·rw[b];right;exact⟨by simp[Lib.signless],by omega⟩
theorem Bv(q:1<s.size)(m:bt s 0=45)(n:∀j,1<=j->j<s.size->48<=bt s j/\bt s j<=57):
  Lib.atoiAll s.data.toList=.ok (-((fQ 0 (s.data.toList.drop 1):Nat):Int))\/(Lib.atoiAll s.data.toList=.range/\1000000000<(fQ 0 (s.data.toList.drop 1):Nat)):=by
 have l:=dd s;obtain⟨c,r,e,g,d,p⟩:=mN (s:=s) (by omega);have a:∀c∈r,48<=c.toNat/\c.toNat<=57:=by
  intro c g;rw[d] at g;obtain⟨i,hi,rfl⟩:=List.mem_iff_getElem.1 g;rw[x9,l] at hi;have:=n (1+i) (by omega) (by omega);rw[mr (by rw[l];omega)] at this;rw[List.getElem_drop];omega
 have hp:=rz 18446744073709551616 rfl r 0 a (by omega);have b:c=45:=UInt8.toNat_inj.1 (by show c.toNat=45;omega);have h:r≠[]:=by intro o;subst o;simp at p;omega
 have hm:Lib.parseMag r=Lib.parseUint10 0 r:=by simp[Lib.parseMag,h]
 rw[<-d,e,b,Lib.atoiAll_minus,hm];rcases hp with ⟨h1,f⟩|⟨h1,f⟩
 ·rw[f];by_cases k:9223372036854775808<fQ 0 r
  ·right;exact⟨by simp[Lib.signed,k],by omega⟩
  ·left;simp[Lib.signed,k]
 ·rw[f];right;exact⟨by simp[Lib.signed],by omega⟩
section
open Go.RowKit
def GB(o:Option Int):Value:=.tuple #[.int .i64 (o.getD 0),.bool o.isSome]
theorem xC(s:ByteArray)(w:World)(x:s.size<=maxLen)(a:0<s.size)(g:∀j,j<s.size->48<=bt s j/\bt s j<=57):
  Calls prog 48 #[.string s] w fun e w'=>e=.returned (GB (je s.data.toList))/\w'=w:=by
 unfold maxLen at x;have p:qv (∀j,j<s.size->48<=bt s j/\bt s j<=57):=g;have q:=g 0 a;rw[<-bX a] at q;clear g;go_enter func48,ntmps48
 go_wp2
 go_loop [5,6] (fun n i=>∃k:Nat,k<=s.size/\i=.int .i64 k/\n=.int .i64 (dn s 0 k)/\0<=dn s 0 k/\dn s 0 k<=1000000000) (fun _ i=>s.size - (intOf i).toNat)
 case atStart=>exact⟨0,tJ _,rfl,rfl,by simp[dn],by simp[dn]⟩
 case round=>
  obtain⟨k,hk,rfl,rfl,u,v⟩:=hrel;by_cases c:k<s.size
  ·have r:=p.o k c;have l:qv (dn s 0 (k+1)=10*dn s 0 k+(((s[k]'c).toNat:Int) - 48)):=by
    show dn s 0 (k+1)=_;rw[dn,tH,bX c]
   rw[<-bX c] at r;by_cases t:1000000000<10*dn s 0 k+((s[k]'c).toNat:Int) - 48
   ·have f:qv (je s.data.toList=none):=by
     have g:=p.o;refine mX a (by rw[<-bX a];omega) (a6 ?_);have:=BU s 0 (fun j _=>g j) (k+1) (by omega);rw[l.o,List.drop_zero] at this;omega
    go_wp2
    go_ret2;exact⟨by rw[f.o];rfl,rfl⟩
   ·go_wp2
    go_round
    case rel=>exact⟨k+1,by omega,by go_num,by rw[l.o];go_num,by rw[l.o];omega,by rw[l.o];omega⟩
    case measure=>simp[intOf];omega
  ·have h:k=s.size:=by omega
   have m:qv (dn s 0 k=(fQ 0 s.data.toList:Nat)):=by
    have:=xx s 0 (fun j _=>p.o j) (by omega);rw[List.drop_zero,Nat.sub_zero,<-h] at this;exact this
   clear h;by_cases b:((s[0]'a).toNat:Int)=48
   ·by_cases h1:1<s.size
    ·have f:qv (je s.data.toList=none):=mX a (by rw[<-bX a];omega) (ad ⟨by rw[<-bX a];omega,h1⟩);have d:(((s[0]'a).toNat:Int)==48)=true:=by simp[b]
     clear b
     go_wp2
     go_ret2;exact⟨by rw[f.o];rfl,rfl⟩
    ·have f:qv (je s.data.toList=some (dn s 0 k)):=by
      rw[m.o];exact lG a (by rw[<-bX a];omega) (by omega) (by have:=m.o;omega)
     have d:(((s[0]'a).toNat:Int)==48)=true:=by simp[b]
     clear b
     go_wp2
     go_ret2;exact⟨by rw[f.o];rfl,rfl⟩
   ·have f:qv (je s.data.toList=some (dn s 0 k)):=by
      rw[m.o];exact lG a (by rw[<-bX a];omega) (by rw[<-bX a];omega) (by have:=m.o;omega)
    have d:(((s[0]'a).toNat:Int)==48)=false:=by simp[b]
    clear b
    go_wp2
    go_ret2;exact⟨by rw[f.o];rfl,rfl⟩
theorem zG(s:ByteArray)(w:World)(D:s.size<=maxLen)(v:0<s.size)(h1:1<s.size)(d:bt s 0=45)(h:∀j,1<=j->j<s.size->48<=bt s j/\bt s j<=57):
  Calls prog 48 #[.string s] w fun e w'=>e=.returned (GB (je s.data.toList))/\w'=w:=by
 unfold maxLen at D;have l:qv (∀j,1<=j->j<s.size->48<=bt s j/\bt s j<=57):=h;have c:qv (bt s 0=45):=d;have A:(((s[0]'v).toNat:Int)==45)=true:=by rw[bX v,d];rfl
 have q:=h 1 (by omega) h1;rw[<-bX h1] at q;clear h d;go_enter func48,ntmps48
 go_wp2
 go_loop [5,6] (fun n i=>∃k:Nat,1+k<=s.size/\i=.int .i64 ((1+k:Nat):Int)/\n=.int .i64 (dn s 1 k)/\0<=dn s 1 k/\dn s 1 k<=1000000000) (fun _ i=>s.size - (intOf i).toNat)
 case atStart=>exact⟨0,by omega,rfl,rfl,by simp[dn],by simp[dn]⟩
 case round=>
  obtain⟨k,hk,rfl,rfl,B,C⟩:=hrel;by_cases b:1+k<s.size
  ·have r:=l.o (1+k) (by omega) b;have m:qv (dn s 1 (k+1)=10*dn s 1 k+(((s[1+k]'b).toNat:Int) - 48)):=by
    show dn s 1 (k+1)=_;rw[dn,bX b]
   rw[<-bX b] at r;by_cases x:1000000000<10*dn s 1 k+((s[1+k]'b).toNat:Int) - 48
   ·have f:qv (je s.data.toList=none):=by
     have h:=l.o;refine oy h1 c.o (a6 ?_);have:=BU s 1 h (k+1) (by omega);rw[m.o] at this;omega
    go_wp2
    go_ret2;exact⟨by rw[f.o];rfl,rfl⟩
   ·go_wp2
    go_round
    case rel=>exact⟨k+1,by omega,by go_num,by rw[m.o];go_num,by rw[m.o];omega,by rw[m.o];omega⟩
    case measure=>simp[intOf];omega
  ·have p:qv (dn s 1 k=(fQ 0 (s.data.toList.drop 1):Nat)):=by
    have u:k=s.size - 1:=by omega
    have:=xx s 1 l.o (by omega);rw[<-u] at this;exact this
   by_cases a:((s[1]'h1).toNat:Int)=48
   ·have f:qv (je s.data.toList=none):=oy h1 c.o (ad (by rw[<-bX h1];omega));have g:(((s[1]'h1).toNat:Int)==48)=true:=by simp[a]
    by_cases y:2<s.size
    ·clear a
     go_wp2
     go_ret2;exact⟨by rw[f.o];rfl,rfl⟩
    ·have t:(dn s 1 k==0)=true:=by
      have:k=1:=by omega
      subst this;simp only[dn];rw[<-bX h1,a];rfl
     clear a
     go_wp2
     go_ret2;exact⟨by rw[f.o];rfl,rfl⟩
   ·have f:qv (je s.data.toList=some (-(dn s 1 k))):=by
      rw[p.o];exact pz h1 c.o (by rw[<-bX h1];omega) (by have:=p.o;omega)
    have g:(((s[1]'h1).toNat:Int)==48)=false:=by simp[a]
    have t:(dn s 1 k==0)=false:=by
     have y:dn s 1 1<=dn s 1 k:=by
      rw[p.o];exact BU s 1 l.o 1 (by omega)
     have z:dn s 1 1=10*0+(bt s (1+0) - 48):=by simp only[dn]
     rw[Bs,<-bX h1] at z;simp;omega
    clear a
    go_wp2
    go_ret2;exact⟨by rw[f.o];rfl,rfl⟩
end
def eh:RS:=⟨[],true⟩
def aP(s:ByteArray)(st:RS):Bool:=
 match st.rest with
 | []=>false
 | t::_=>jb t.text s
def ar(s:ByteArray)(st:RS):RS:=if aP s st then ⟨st.rest.tail,st.bad⟩ else st
def aM(s:ByteArray)(st:RS):RS:=if aP s st then ar s st else eh
def nU(s:ByteArray):Int:=if bB s then 1 else if bI s then 2 else 3
def gF(t:Tok):Int:=if t.kind=2 then 4 else if t.kind=3 then 5 else if t.kind=1 then nU t.text else 0
def jG(k:Int)(st:RS):Bool:=
 match st.rest with
 | []=>false
 | t::_=>decide (gF t=k)
def fw(k:Int)(st:RS):Tok × RS:=if jG k st then (st.rest.headD wH,⟨st.rest.tail,st.bad⟩) else (wH,eh)
def ed(st:RS):ByteArray × RS:=((fw 1 st).1.text,(fw 1 st).2)
def dJ(st:RS):ByteArray × RS:=((fw 2 st).1.text,(fw 2 st).2)
def cW(lo hi:Int)(st:RS):Int × RS:=((fw 4 st).1.val,if (fw 4 st).1.val<lo\/hi<(fw 4 st).1.val then eh else (fw 4 st).2)
def cq{α:Type}(one:RS->α × RS)(sep:ByteArray):Nat->List α->RS->List α × RS
 | 0,out,st=>(out,st)
 | n+1,out,st=>if aP sep st then cq one sep n (out++[(one (ar sep st)).1]) (one (ar sep st)).2 else (out,st)
def gE{α:Type}(one:RS->α × RS)(sep:ByteArray)(bq:Nat)(st:RS):List α × RS:=
 let l:=cq one sep (one st).2.rest.length [(one st).1] (one st).2
 (l.1,if bq<l.1.length then eh else l.2)
def dA(x:aK)(st:RS):aK × RS:=
 let n:=ed (aM bO st)
 let l:=if aP cD n.2 then dJ (ar cD n.2) else (x.ai,n.2)
 (⟨n.1,l.1,x.type,x.least,x.bq⟩,aM bN l.2)
def my(st:RS):(Int × Int) × RS:=
 if aP eP st then
  let a:=cW 0 4 (ar eP st)
  let b:=cW a.1 4 (aM lW a.2)
  ((a.1,b.1),b.2)
 else ((1,1),st)
def jr(st:RS):aK × RS:=
 let t:=dJ st
 let s:=my t.2
 (⟨e0,e0,t.1,s.1.1,s.1.2⟩,aM dy s.2)
def rW(st:RS):aK × RS:=dA (jr st).1 (jr st).2
def bE:Nat->List aK->RS->List aK × RS
 | 0,out,st=>(out,st)
 | n+1,out,st=>
  if aP aN st then bE n (out++[(dA cV (ar aN st)).1]) (dA cV (ar aN st)).2
  else if aP jI st then bE n (out++[(rW (ar jI st)).1]) (rW (ar jI st)).2
  else (out,st)
def gd(st:RS):List aK × RS:=
 let l:=bE (dA cV st).2.rest.length [(dA cV st).1] (dA cV st).2
 (l.1,if 6<l.1.length then eh else l.2)
def j9(st:RS):(ByteArray × ByteArray) × RS:=
 let n:=ed st
 let k:=ed (aM eN n.2)
 ((n.1,k.1),k.2)
def fJ(st:RS):gP × RS:=
 if jG 4 st then
  let v:=cW (-1000000000) 1000000000 st
  (⟨e0,e0,v.1⟩,v.2)
 else
  let p:=j9 st
  (⟨p.1.1,p.1.2,0⟩,p.2)
def dZ:List ByteArray->Int->RS->Int × RS
 | [],_,_=>(0,eh)
 | m::r,i,st=>if aP m st then (i,ar m st) else dZ r (i+1) st
def jW(st:RS):bW × RS:=
 let a:=fJ st
 if aP oZ a.2 then
  let s:=ar oZ a.2
  (⟨if aP ku s then 8 else 7,a.1,oE⟩,aM jM (ar ku s))
 else
  let o:=dZ jD 1 a.2
  let b:=fJ o.2
  (⟨o.1,a.1,b.1⟩,b.2)
def ja(st:RS):aZ × RS:=
 if aP iw st then (⟨e0,e0⟩,ar iw st)
 else
  let n:=ed st
  if aP eN n.2 then
   let k:=ed (ar eN n.2)
   (⟨n.1,k.1⟩,k.2)
  else (⟨n.1,e0⟩,n.2)
def gW(st:RS):bm × RS:=
 let k:=ed st
 let v:=cW (-1000000000) 1000000000 (aM cD k.2)
 (⟨k.1,v.1⟩,v.2)
def eF:List bm->List bm->Bool
 | _,[]=>false
 | pre,x::r=>(pre.any fun y=>jb y.key x.key) || eF (pre++[x]) r
def cH(st:RS):(ByteArray × List bm) × RS:=
 let t:=dJ (aM bO st)
 let p:=if aP dC t.2 then gE gW aN 6 (ar dC t.2) else ([],t.2)
 let u:=if aP dC t.2 then aM iy p.2 else p.2
 ((t.1,p.1),if eF [] p.1 then eh else aM bN u)
def jy(k:Int)(st:RS):(Int × Bool) × RS:=
 if aP eC st then
  let o:=cW 1 k (aM L8 (ar eC st))
  ((o.1,aP kV o.2),ar kV o.2)
 else ((0,false),st)
def jx(word:ByteArray)(none:Int)(st:RS):Int × RS:=
 if aP word st then cW 0 1000000000 (ar word st) else (none,st)
def fW(st:RS):NI × RS:=
 let x:=gE ja aN 6 st
 let o:=jy x.1.length x.2
 let s:=jx iZ 0 o.2
 let l:=jx gH (-1) s.2
 (⟨x.1,o.1.1,o.1.2,s.1,l.1⟩,l.2)
def kP(st:RS):(ByteArray × ByteArray × ByteArray) × RS:=
 let n:=ed (aM bO st)
 let t:=dJ (aM jI (aM bN n.2))
 let o:=ed (aM bO (aM dy t.2))
 ((n.1,t.1,o.1),aM bN o.2)
def vR(st:RS):(ByteArray × ByteArray × gP) × RS:=
 let p:=j9 st
 let v:=fJ (aM ze p.2)
 ((p.1.1,p.1.2,v.1),v.2)
def dt(q:aI)(st:RS):aI × RS:=
 if aP bH st then
  let x:=fW (ar bH st)
  ({q with kind:=1,af:=x.1.af,order:=x.1.order,down:=x.1.down,skip:=x.1.skip,aX:=x.1.aX},x.2)
 else if aP fZ st then
  let x:=vR (ar fZ st)
  ({q with kind:=2,name:=x.1.1,key:=x.1.2.1,value:=x.1.2.2},x.2)
 else if aP bR st then
  let x:=ed (ar bR st)
  ({q with kind:=3,name:=x.1},x.2)
 else if aP aW st then
  let x:=kP (ar aW st)
  ({q with kind:=4,name:=x.1.1,type:=x.1.2.1,dest:=x.1.2.2},x.2)
 else (q,eh)
def fm(st:RS):List bW × RS:=if aP eD st then gE jW oF 6 (ar eD st) else ([],st)
def gK(st:RS):aI × RS:=
 if aP fl st then
  let x:=ed (ar fl st)
  ({aB with kind:=6,name:=x.1},x.2)
 else if aP aW st then
  let x:=cH (ar aW st)
  ({aB with kind:=5,ai:=x.1.1,aj:=x.1.2},x.2)
 else
  let s:=gd (aM dK st)
  let c:=fm s.2
  dt {aB with ah:=s.1,aq:=c.1} c.2
def lO(q:aI):List ByteArray:=
 (q.aq.flatMap fun c=>[c.a.name,c.b.name])++q.af.map (fun x=>x.name)++(if q.kind≠6 then [q.name,q.dest] else [])
def fF(q:aI):Bool:=
 ((lO q).all fun n=>n.toList.isEmpty || dQ q.ah n)&&(decide (q.kind≠2) || q.value.name.toList.isEmpty || jb q.value.name q.name)
def iE(ts:List Tok):aI × Int:=
 let x:=gK ⟨ts,false⟩
 if x.2.bad || !x.2.rest.isEmpty then (aB,3)
 else if fF x.1 then (x.1,0) else (aB,4)
namespace Pure
theorem ix{x:Bool}(h:st.bad=true):(st.bA x).bad=true:=by unfold RS.bA;simp[h]
theorem pE(st:RS):(st.bA true).bad=true:=by unfold RS.bA;simp
theorem dS(st:RS):st.bA false=st:=by unfold RS.bA;simp
theorem dI(h:st.bad=true):(bz s st).bad=true:=by unfold bz;split<;>exact h
theorem yQ :(bz s st).bad=st.bad:=by unfold bz;split<;>rfl
theorem aS(h:st.bad=true):(bG s st).bad=true:=by unfold bG;exact ix (dI h)
theorem rA(h:st.bad=true):(fX k st).2.bad=true:=by unfold fX;split;exact h;exact rfl
theorem dM(h:st.bad=true):(cI st).2.bad=true:=by unfold cI;exact ix (rA h)
theorem gS(h:st.bad=true):(fA st).2.bad=true:=by unfold fA;exact ix (rA h)
theorem iT{lo hi:Int}(h:st.bad=true):(fq lo hi st).2.bad=true:=by unfold fq;exact ix (rA h)
theorem bh(h:st.bad=true):(ar s st).bad=true:=by unfold ar;split<;>exact h
theorem aF(h:st.bad=true):(aM s st).bad=true:=by unfold aM;split;exact bh h;exact rfl
theorem uZ(h:st.bad=true):(fw k st).2.bad=true:=by unfold fw;split;exact h;exact rfl
theorem cE(h:st.bad=true):(ed st).2.bad=true:=uZ h
theorem fD(h:st.bad=true):(dJ st).2.bad=true:=uZ h
theorem et{lo hi:Int}(h:st.bad=true):(cW lo hi st).2.bad=true:=by unfold cW;simp only;split;exact rfl;exact uZ h
theorem kZ{x:aK}(h:st.bad=true):(dA x st).2.bad=true:=by
 unfold dA;simp only;refine aF ?_;split
 ·exact fD (bh (cE (aF h)))
 ·exact cE (aF h)
theorem rC{x:aK}(h:st.bad=true):(iz x st).2.bad=true:=by
 unfold iz;simp only;refine aS ?_;split
 ·exact gS (dI (dM (aS h)))
 ·exact dM (aS h)
theorem vJ(h:st.bad=true):(my st).2.bad=true:=by
 unfold my;split
 ·exact et (aF (et (bh h)))
 ·exact h
theorem AU(h:st.bad=true):(pU st).2.bad=true:=by
 unfold pU;split
 ·exact iT (aS (iT (dI h)))
 ·exact h
theorem Kp(h:st.bad=true):(jr st).2.bad=true:=by unfold jr;exact aF (vJ (fD h))
theorem MR(h:st.bad=true):(rW st).2.bad=true:=by unfold rW;exact kZ (Kp h)
theorem Js(h:st.bad=true):(lV st).2.bad=true:=by unfold lV;exact rC (aS (AU (gS h)))
theorem Bo(h:st.bad=true):(j9 st).2.bad=true:=by unfold j9;exact cE (aF (cE h))
theorem jh(h:st.bad=true):(fJ st).2.bad=true:=by
 unfold fJ;split
 ·exact et h
 ·exact Bo h
theorem rI(h:st.bad=true):(gD st).2.bad=true:=by
 unfold gD;split
 ·exact rA h
 ·exact dM (aS (dM h))
theorem qK{l:List ByteArray}:∀{i:Int} {st:RS},st.bad=true->(dZ l i st).2.bad=true:=by
 induction l with
 | nil=>intro i st h;rfl
 | cons m r ih=>intro i st h;simp only[dZ];split;exact bh h;exact ih h
theorem GO{l:List ByteArray}:∀{i:Int} {st:RS},st.bad=true->(ef l i st).2.bad=true:=by
 induction l with
 | nil=>intro i st h;exact h
 | cons m r ih=>intro i st h;simp only[ef];split;exact dI h;exact ih h
theorem vQ(h:st.bad=true):(jW st).2.bad=true:=by
 unfold jW;simp only;split
 ·exact aF (bh (bh (jh h)))
 ·exact jh (qK (jh h))
theorem vS(h:st.bad=true):(ja st).2.bad=true:=by
 unfold ja;split
 ·exact bh h
 ·simp only;split
  ·exact cE (bh (cE h))
  ·exact cE h
theorem vj(h:st.bad=true):(gW st).2.bad=true:=by unfold gW;exact et (aF (cE h))
theorem mL{one:RS->α × RS}(a:∀{st:RS},st.bad=true->(one st).2.bad=true)(n:Nat):∀{out:List α} {st:RS},st.bad=true->(cq one sep n out st).2.bad=true:=by
 induction n with
 | zero=>intro out st h;exact h
 | succ n ih=>intro out st h;simp only[cq];split;exact ih (a (bh h));exact h
theorem vD{one:RS->α × RS}{b:Nat}(a:∀{st:RS},st.bad=true->(one st).2.bad=true)(h:st.bad=true):(gE one sep b st).2.bad=true:=by
 unfold gE;simp only;split;exact rfl;exact mL a _ (a h)
theorem gT(n:Nat):∀{out:List aK} {st:RS},st.bad=true->(bE n out st).2.bad=true:=by
 induction n with
 | zero=>intro out st h;exact h
 | succ n ih=>
  intro out st h;simp only[bE];split
  ·exact ih (kZ (bh h))
  ·split
   ·exact ih (MR (bh h))
   ·exact h
theorem FT(h:st.bad=true):(gd st).2.bad=true:=by
 unfold gd;simp only;split;exact rfl;exact gT _ (kZ h)
theorem px(n:Nat):∀{out:List aK} {st:RS},st.bad=true->(da n out st).2.bad=true:=by
 induction n with
 | zero=>intro out st h;exact h
 | succ n ih=>intro out st h;simp only[da];split;exact ih (Js (dI h));exact h
theorem sU(h:st.bad=true):(jy k st).2.bad=true:=by
 unfold jy;split
 ·exact bh (et (aF (bh h)))
 ·exact h
theorem FO(h:st.bad=true):(qS k st).2.bad=true:=by
 unfold qS;split
 ·exact dI (iT (aS (dI h)))
 ·exact h
theorem jL(h:st.bad=true):(jx s k st).2.bad=true:=by
 unfold jx;split;exact et (bh h);exact h
theorem oR(h:st.bad=true):(pV s k st).2.bad=true:=by
 unfold pV;split;exact iT (dI h);exact h
theorem KY(h:st.bad=true):(kP st).2.bad=true:=by
 unfold kP;exact aF (cE (aF (aF (fD (aF (aF (cE (aF h))))))))
theorem JY(h:(bG aW st).bad=true):(By st).2.bad=true:=by
 unfold By;exact aS (dM (aS (aS (gS (aS (aS (dM (aS h))))))))
theorem NF(h:st.bad=true):(vR st).2.bad=true:=by unfold vR;exact jh (aF (Bo h))
theorem K4(h:st.bad=true):(fW st).2.bad=true:=by unfold fW;exact jL (jL (sU (vD vS h)))
theorem pd(h:st.bad=true):(fm st).2.bad=true:=by
 unfold fm;split;exact vD vQ (bh h);exact h
theorem wA{q:aI}(h:st.bad=true):(dt q st).2.bad=true:=by
 unfold dt;split
 ·exact K4 (bh h)
 ·split
  ·exact NF (bh h)
  ·split
   ·exact cE (bh h)
   ·split
    ·exact KY (bh h)
    ·rfl
end Pure
namespace Pure
def lits:List ByteArray:=aC++[bO,bN,cD,aN,eN,lW,eP,jI,dy,dC,iy,ze,Lg,Lj,Le,Lf,Ld]
structure VT(t:Tok):Prop where
 lo:t.kind=2->-1000000000<=t.val
 hi:t.kind=2->t.val<=1000000000
 no:t.kind=2->∀s∈lits,jb t.text s=false
structure Ok(st:RS):Prop where
 qZ:st.bad=false
 all:∀t∈st.rest,VT t
def T3(p r:RS):Prop:=(p.bad=true/\r.bad=true)\/(p=r/\Ok p)
def Ag{α:Type}(p r:α × RS):Prop:=(p.2.bad=true/\r.2.bad=true)\/(p=r/\Ok p.2)
variable {st:RS}
theorem dL(h:Ok st)(b:s∈lits):aP s st=aO s st:=by
 unfold aP aO;cases a:st.rest with
 | nil=>rfl
 | cons t r=>
  have c:=h.all t (by rw[a];simp);by_cases hk:t.kind=2
  ·simp only[c.no hk s b];simp
  ·simp[hk]
theorem du(h:Ok st)(a:s∈lits):ar s st=bz s st:=by
 unfold ar bz;rw[dL h a]
theorem Ok.tail(h:Ok st):Ok ⟨st.rest.tail,st.bad⟩:=⟨h.qZ,fun t ht=>h.all t (List.mem_of_mem_tail ht)⟩
theorem Ok.has(h:Ok st)(s:ByteArray):Ok (bz s st):=by unfold bz;split;exact h.tail;exact h
theorem dE(h:Ok st)(a:s∈lits):T3 (aM s st) (bG s st):=by
 unfold aM bG;rw[dL h a,du h a];cases aO s st with
 | true=>exact a6 ⟨by simp[dS],by simpa using h.has s⟩
 | false=>exact ad ⟨rfl,pE _⟩
theorem KM :gF t=1↔t.kind=1/\bB t.text=true:=by
 unfold gF nU;constructor
 ·intro h;repeat' split at h
  all_goals first|omega|exact⟨by assumption,by assumption⟩
 ·rintro ⟨h1,a⟩;simp[h1,a]
theorem Gb(h:bI s=true):bB s=false:=by
 unfold bI bB at*;simp only[wa,decide_eq_true_eq] at h;have:¬(97<=bt s 0):=by omega
 simp[this]
theorem Km :gF t=2↔t.kind=1/\bI t.text=true:=by
 unfold gF nU;constructor
 ·intro h;repeat' split at h
  all_goals first|omega|exact⟨by assumption,by assumption⟩
 ·rintro ⟨h1,a⟩;simp[h1,a,Gb a]
theorem zA :gF t=4↔t.kind=2:=by
 unfold gF nU;constructor
 ·intro h;repeat' split at h
  all_goals first|omega|assumption
 ·intro h1;simp[h1]
theorem lK(h:Ok st):Ag (ed st) (cI st):=by
 unfold ed cI fw fX jG isKind;cases b:st.rest with
 | nil=>exact ad ⟨rfl,by simp[RS.bA]⟩
 | cons t r=>
  simp only[KM,decide_eq_true_eq];by_cases hk:t.kind=1
  ·by_cases a:bB t.text=true
   ·refine a6 ⟨by simp[hk,a,dS],?_⟩;have:=h.tail;rw[b] at this
    simpa [hk,a] using this
   ·exact ad ⟨by simp[hk,a,eh],by simp[hk,a,RS.bA]⟩
  ·exact ad ⟨by simp[hk,eh],by simp[hk,RS.bA]⟩
theorem tX(h:Ok st):Ag (dJ st) (fA st):=by
 unfold dJ fA fw fX jG isKind;cases b:st.rest with
 | nil=>exact ad ⟨rfl,by simp[RS.bA]⟩
 | cons t r=>
  simp only[Km,decide_eq_true_eq];by_cases hk:t.kind=1
  ·by_cases a:bI t.text=true
   ·refine a6 ⟨by simp[hk,a,dS],?_⟩;have:=h.tail;rw[b] at this
    simpa [hk,a] using this
   ·exact ad ⟨by simp[hk,a,eh],by simp[hk,a,RS.bA]⟩
  ·exact ad ⟨by simp[hk,eh],by simp[hk,RS.bA]⟩
theorem oN(h:Ok st)(lo hi:Int):Ag (cW lo hi st) (fq lo hi st):=by
 unfold cW fq fw fX jG isKind;cases c:st.rest with
 | nil=>
  exact ad ⟨by simp[eh],by simp[RS.bA]⟩
 | cons t r=>
  simp only[zA,decide_eq_true_eq];by_cases hk:t.kind=2
  ·by_cases a:t.val<lo\/hi<t.val
   ·refine ad ⟨by simp[hk,a,eh],?_⟩;rcases a with a|a<;>simp[hk,a,RS.bA]
   ·have h1:¬t.val<lo:=fun e=>a (ad e);have b:¬hi<t.val:=fun e=>a (a6 e);refine a6 ⟨by simp[hk,h1,b,dS],?_⟩;have:=h.tail;rw[c] at this
    simpa [hk,h1,b] using this
  ·refine ad ⟨?_,by simp[hk,RS.bA]⟩;simp only[hk,if_false];split<;>rfl
theorem Cv(h:Ok st)(x:aK):Ag (dA x st) (iz x st):=by
 unfold dA iz
 try simp only
 rcases dE h (s:=bO) (by simp[lits,aC]) with ⟨a,b⟩|⟨e,h1⟩
 ·exact ad ⟨by simp only;refine aF ?_;split;exact fD (bh (cE a));exact cE a,by simp only;refine aS ?_;split;exact gS (dI (dM b));exact dM b⟩
 ·rw[<-e];rcases lK h1 with ⟨a,b⟩|⟨g,c⟩
  ·exact ad ⟨by simp only;refine aF ?_;split;exact fD (bh a);exact a,by simp only;refine aS ?_;split;exact gS (dI b);exact b⟩
  ·rw[<-g];simp only[dL c (s:=cD) (by simp[lits,aC]),du c (s:=cD) (by simp[lits,aC])];cases aO cD (ed (aM bO st)).2 with
   | false=>
    simp only[th,if_false];rcases dE c (s:=bN) (by simp[lits,aC]) with ⟨a,b⟩|⟨d,f⟩
    ·exact ad ⟨a,b⟩
    ·exact a6 ⟨by simp[d],f⟩
   | true=>
    simp only[if_true];rcases tX (c.has cD) with ⟨a,b⟩|⟨d,f⟩
    ·exact ad ⟨aF a,aS b⟩
    ·rw[<-d];rcases dE f (s:=bN) (by simp[lits,aC]) with ⟨a,b⟩|⟨i,j⟩
     ·exact ad ⟨a,b⟩
     ·exact a6 ⟨by rw[i],j⟩
theorem OA(h:Ok st):Ag (my st) (pU st):=by
 unfold my pU
 try simp only
 rw[dL h (s:=eP) (by simp[lits,aC]),du h (s:=eP) (by simp[lits,aC])];cases aO eP st with
 | false=>exact a6 ⟨rfl,h⟩
 | true=>
  simp only[if_true];rcases oN (h.has eP) 0 4 with ⟨a,b⟩|⟨e,h1⟩
  ·exact ad ⟨et (aF a),iT (aS b)⟩
  ·rw[<-e];rcases dE h1 (s:=lW) (by simp[lits,aC]) with ⟨a,b⟩|⟨c,f⟩
   ·exact ad ⟨et a,iT b⟩
   ·rw[<-c];rcases oN f (cW 0 4 (bz eP st)).1 4 with ⟨a,b⟩|⟨d,g⟩
    ·exact ad ⟨a,b⟩
    ·exact a6 ⟨by rw[d],g⟩
theorem Rv(h:Ok st):Ag (rW st) (lV st):=by
 unfold rW jr lV
 try simp only
 rcases tX h with ⟨a,b⟩|⟨e,h1⟩
 ·exact ad ⟨kZ (aF (vJ a)),rC (aS (AU b))⟩
 ·rw[<-e];rcases OA h1 with ⟨a,b⟩|⟨c,f⟩
  ·exact ad ⟨kZ (aF a),rC (aS b)⟩
  ·rw[<-c];rcases dE f (s:=dy) (by simp[lits,aC]) with ⟨a,b⟩|⟨d,g⟩
   ·exact ad ⟨kZ a,rC b⟩
   ·rw[<-d];exact Cv g _
theorem IL(h:Ok st):Ag (j9 st) (((cI st).1,(cI (bG eN (cI st).2)).1),(cI (bG eN (cI st).2)).2):=by
 unfold j9
 try simp only
 rcases lK h with ⟨a,b⟩|⟨e,h1⟩
 ·exact ad ⟨cE (aF a),dM (aS b)⟩
 ·rw[<-e];rcases dE h1 (s:=eN) (by simp[lits,aC]) with ⟨a,b⟩|⟨c,f⟩
  ·exact ad ⟨cE a,dM b⟩
  ·rw[<-c];rcases lK f with ⟨a,b⟩|⟨d,g⟩
   ·exact ad ⟨a,b⟩
   ·exact a6 ⟨by rw[d],g⟩
theorem BO(h:Ok st):Ag (fJ st) (gD st):=by
 unfold fJ gD
 try simp only
 have d:jG 4 st=isKind 2 st:=by
  unfold jG isKind;cases st.rest with
  | nil=>rfl
  | cons t r=>simp[zA]
 rw[d];cases hk:isKind 2 st with
 | false=>
  simp only[th,if_false];rcases IL h with ⟨a,b⟩|⟨e,h1⟩
  ·exact ad ⟨a,b⟩
  ·refine a6 ⟨?_,h1⟩;rw[e]
 | true=>
  simp only[if_true];refine a6 ?_;unfold cW fw fX;rw[d,hk];unfold isKind at hk;cases c:st.rest with
  | nil=>rw[c] at hk;cases hk
  | cons t r=>
   rw[c] at hk;simp only[decide_eq_true_eq] at hk;have f:=h.all t (by rw[c];simp);have h1:¬t.val < -1000000000:=by have:=f.lo hk;omega
   have g:¬1000000000<t.val:=by have:=f.hi hk;omega
   have:=h.tail;rw[c] at this;simp only[if_true,List.headD_cons,List.tail_cons,h1,g,or_self,if_false];exact⟨trivial,this⟩
theorem S6(l:List ByteArray):∀(i:Int) (_:Ok st) (_:∀s∈l,s∈lits) (_:0<i),Ag (dZ l i st) ((ef l i st).1,(ef l i st).2.bA (decide ((ef l i st).1=0))):=by
 induction l with
 | nil=>intro i h _ _;exact ad ⟨rfl,by simp[ef,RS.bA]⟩
 | cons m r ih=>
  intro i h a hi;simp only[dZ,ef];rw[dL h (a m (by simp)),du h (a m (by simp))];by_cases hp:aO m st=true
  ·have:¬i=0:=by omega
   simp only[hp,if_true];exact a6 ⟨by simp[this,dS],h.has m⟩
  ·simp only[hp];exact ih (i+1) h (fun s hs=>a s (by simp[hs])) (by omega)
theorem Oi(h:Ok st):Ag (jW st) (mF st):=by
 unfold jW mF
 try simp only
 rcases BO h with ⟨a,b⟩|⟨e,h1⟩
 ·refine ad ⟨?_,?_⟩
  ·split;exact aF (bh (bh a));exact jh (qK a)
  ·split;exact aS (dI (dI b));exact rI (ix (GO b))
 ·rw[<-e];simp only[dL h1 (s:=oZ) (by simp[lits,aC]),du h1 (s:=oZ) (by simp[lits,aC])];cases aO oZ (fJ st).2 with
  | true=>
   have c:=h1.has oZ;simp only[if_true,dL c (s:=ku) (by simp[lits,aC]),du c (s:=ku) (by simp[lits,aC])];rcases dE (c.has ku) (s:=jM) (by simp[lits,aC]) with ⟨a,b⟩|⟨d,j⟩
   ·exact ad ⟨a,b⟩
   ·exact a6 ⟨by rw[d],j⟩
  | false=>
   simp only[th,if_false];rcases S6 jD 1 h1 (by simp[jD,lits]) (by decide) with ⟨a,b⟩|⟨f,c⟩
   ·exact ad ⟨jh a,rI b⟩
   ·have d:(ef jD 1 (fJ st).2).2.bA (decide ((ef jD 1 (fJ st).2).1=0))=(dZ jD 1 (fJ st).2).2:=by rw[f]
    have g:(ef jD 1 (fJ st).2).1=(dZ jD 1 (fJ st).2).1:=by rw[f]
    rw[d,g];rcases BO c with ⟨a,b⟩|⟨i,k⟩
    ·exact ad ⟨a,b⟩
    ·exact a6 ⟨by rw[i],k⟩
theorem Oz(h:Ok st):Ag (ja st) (lR st):=by
 unfold ja lR
 try simp only
 rw[dL h (s:=iw) (by simp[lits,aC]),du h (s:=iw) (by simp[lits,aC])];cases aO iw st with
 | true=>exact a6 ⟨rfl,h.has iw⟩
 | false=>
  simp only[th,if_false];rcases lK h with ⟨a,b⟩|⟨e,h1⟩
  ·refine ad ⟨?_,?_⟩
   ·split;exact cE (bh a);exact a
   ·split;exact dM (dI b);exact b
  ·rw[<-e];rw[dL h1 (s:=eN) (by simp[lits,aC]),du h1 (s:=eN) (by simp[lits,aC]),h1.qZ];cases aO eN (ed st).2 with
   | false=>exact a6 ⟨rfl,h1⟩
   | true=>
    simp only[GS,F9,if_true];rcases lK (h1.has eN) with ⟨a,b⟩|⟨c,d⟩
    ·exact ad ⟨a,b⟩
    ·exact a6 ⟨by rw[c],d⟩
end Pure
namespace Pure
variable {st:RS}
def iX{α:Type}(one:RS->α × RS)(sep:ByteArray):Nat->List α->RS->List α × RS
 | 0,out,st=>(out,st)
 | n+1,out,st=>if !(one st).2.bad&&aO sep (one st).2 then iX one sep n (out++[(one st).1]) (bz sep (one st).2) else (out++[(one st).1],(one st).2)
theorem Ed(n:Nat):∀(out:List bW) (st:RS),jt n out st=iX mF oF n out st:=by
 induction n with
 | zero=>intro out st;rfl
 | succ n ih=>intro out st;simp only[jt,iX,ih]
theorem Ef(n:Nat):∀(out:List aZ) (st:RS),st.bad=false->gm n out st=iX lR aN n out st:=by
 induction n with
 | zero=>intro out st _;rfl
 | succ n ih=>
  intro out st h;simp only[gm,iX,h];by_cases b:(lR st).2.bad=true
  ·simp[b]
  ·have a:(lR st).2.bad=false:=by simpa using b
   rw[ih _ _ (by rw[yQ];exact a)];simp
theorem nh(h:aO s st=true):0<st.rest.length:=by
 unfold aO at h;split at h
 ·cases h
 ·rename_i e;rw[e];simp
theorem OU{c d:RS->α × RS}(f:sep∈lits)(p:∀{st:RS},Ok st->Ag (c st) (d st))(j:∀{st:RS},st.bad=true->(c st).2.bad=true)(g:∀{st:RS},Ok st->(c st).2.rest.length<=st.rest.length)(n:Nat):
  ∀(m:Nat) (out:List α) (st:RS),Ok st->st.rest.length<n->(c st).2.rest.length<=m->Ag (cq c sep m (out++[(c st).1]) (c st).2) (iX d sep n out st):=by
 induction n with
 | zero=>intro m out st h h1 _;omega
 | succ n ih=>
  intro m out st h h1 q;simp only[iX];have l:=g h;rcases p h with ⟨a,b⟩|⟨e,k⟩
  ·exact ad ⟨mL j _ a,by simp[b]⟩
  ·rw[<-e];rw[k.qZ];by_cases hp:aO sep (c st).2=true
   ·have r:=nh hp;have s:=lh hp;obtain⟨m,rfl⟩:∃m',m=m'+1:=⟨m - 1,by omega⟩;simp only[cq,dL k f,du k f,hp,GS,F9,if_true];have o:=g (k.has sep);exact ih m _ _ (k.has sep) (by omega) (by omega)
   ·have i:cq c sep m (out++[(c st).1]) (c st).2=(out++[(c st).1],(c st).2):=by
     cases m with
     | zero=>rfl
     | succ m=>simp only[cq,dL k f,hp];rfl
    rw[i];simp only[hp];exact a6 ⟨rfl,k⟩
theorem Cr{c d:RS->α × RS}(m:sep∈lits)(l:∀{st:RS},Ok st->Ag (c st) (d st))(g:∀{st:RS},st.bad=true->(c st).2.bad=true)(i:∀{st:RS},Ok st->(c st).2.rest.length<=st.rest.length)(h:Ok st){n:Nat}(j:st.rest.length<n):
  Ag (gE c sep 6 st) ((iX d sep n [] st).1,(iX d sep n [] st).2.bA (decide (6<(iX d sep n [] st).1.length))):=by
 have h1:=OU m l g i n _ [] st h j (rm _);unfold gE;simp only[tV] at h1⊢;rcases h1 with ⟨a,b⟩|⟨e,k⟩
 ·exact ad ⟨by simp only;split;rfl;exact a,ix b⟩
 ·rw[<-e];by_cases f:6<(cq c sep (c st).2.rest.length [(c st).1] (c st).2).1.length
  ·exact ad ⟨by simp only[f,if_true];rfl,by simp only[f,decide_true];exact pE _⟩
  ·refine a6 ⟨by simp only[f,if_false,decide_false,dS],?_⟩;simp only[f,if_false];exact k
theorem dH(s:ByteArray)(st:RS):(ar s st).rest.length<=st.rest.length:=by
 unfold ar;split
 ·simp[List.length_tail]
 ·exact rm _
theorem fV(s:ByteArray)(st:RS):(aM s st).rest.length<=st.rest.length:=by
 unfold aM;split;exact dH s st;simp[eh]
theorem uW(k:Int)(st:RS):(fw k st).2.rest.length<=st.rest.length:=by
 unfold fw;split
 ·simp[List.length_tail]
 ·simp[eh]
theorem mS(st:RS):(ed st).2.rest.length<=st.rest.length:=uW 1 st
theorem sM(st:RS):(dJ st).2.rest.length<=st.rest.length:=uW 2 st
theorem nP(lo hi:Int)(st:RS):(cW lo hi st).2.rest.length<=st.rest.length:=by
 unfold cW;simp only;split;simp[eh];exact uW 4 st
theorem A9(st:RS):(fJ st).2.rest.length<=st.rest.length:=by
 unfold fJ j9;split
 ·exact nP _ _ _
 ·have h1:=mS st;have a:=fV eN (ed st).2;have b:=mS (aM eN (ed st).2);simp only;omega
theorem CS(l:List ByteArray):∀(i:Int) (st:RS),(dZ l i st).2.rest.length<=st.rest.length:=by
 induction l with
 | nil=>intro i st;simp[dZ,eh]
 | cons m r ih=>intro i st;simp only[dZ];split;exact dH m st;exact ih _ _
theorem oG(st:RS):(jW st).2.rest.length<=st.rest.length:=by
 unfold jW;simp only;have h1:=A9 st;split
 ·have a:=dH oZ (fJ st).2;have b:=dH ku (ar oZ (fJ st).2);have c:=fV jM (ar ku (ar oZ (fJ st).2));simp only;omega
 ·have a:=CS jD 1 (fJ st).2;have b:=A9 (dZ jD 1 (fJ st).2).2;simp only;omega
theorem uX(st:RS):(ja st).2.rest.length<=st.rest.length:=by
 unfold ja;split
 ·exact dH _ _
 ·simp only;have h1:=mS st;split
  ·have a:=dH eN (ed st).2;have b:=mS (ar eN (ed st).2);simp only;omega
  ·exact h1
theorem rV(st:RS):(gW st).2.rest.length<=st.rest.length:=by
 unfold gW;simp only;have h1:=mS st;have a:=fV cD (ed st).2;have b:=nP (-1000000000) 1000000000 (aM cD (ed st).2);omega
theorem kq(x:aK)(st:RS):(dA x st).2.rest.length<=st.rest.length:=by
 unfold dA;simp only;refine r8 (fV _ _) ?_;have h1:=fV bO st;have a:=mS (aM bO st);split
 ·have b:=sM (ar cD (ed (aM bO st)).2);have c:=dH cD (ed (aM bO st)).2;omega
 ·simp only;omega
theorem Ak{a b:ByteArray}(h:aO a st=true)(c:a.toList≠b.toList):aO b st=false:=by
 unfold aO at*;cases d:st.rest with
 | nil=>rfl
 | cons t r=>
  rw[d] at h;simp only[wa] at h;unfold jb at*;have h1:t.text.toList=a.toList:=by simpa using h.2
  simp only[h1];simp[c]
theorem LR(k:Nat):∀(st:RS),Ok st->st.rest.length<=k->∀(c f1 f2:Nat) (out acc:List aK),st.rest.length<=c->st.rest.length<=f1->st.rest.length<=f2->
  Ag (bE c (out++acc) st) (if !(da f1 acc st).2.bad&&aO aN (da f1 acc st).2 then dw f2 (out++(da f1 acc st).1) (bz aN (da f1 acc st).2) else (out++(da f1 acc st).1,(da f1 acc st).2)):=by
 induction k with
 | zero=>
  intro st h hk c f1 f2 out acc _ _ _;have p:st.rest=[]:=List.length_eq_zero_iff.1 (by omega);have q:∀s,aO s st=false:=fun s=>by unfold aO;rw[p]
  have u:∀s,aP s st=false:=fun s=>by unfold aP;rw[p]
  have i:da f1 acc st=(acc,st):=by cases f1 with|zero=>rfl|succ n=>simp[da,q]
  have j:bE c (out++acc) st=(out++acc,st):=by cases c with|zero=>rfl|succ n=>simp[bE,u]
  rw[i,j];simp only[q,Bool.and_false];exact a6 ⟨rfl,h⟩
 | succ k ih=>
  intro st h hk c f1 f2 out acc hp h1 v;by_cases f:aO jI st=true
  ·have d:aO aN st=false:=Ak f (by decide +kernel);have r:=nh f;have t:=lh f;obtain⟨c,rfl⟩:∃m',c=m'+1:=⟨c - 1,by omega⟩;obtain⟨f1,rfl⟩:∃m',f1=m'+1:=⟨f1 - 1,by omega⟩;have g:=h.has jI;simp only[bE,da,dL h (s:=aN) (by simp[lits,aC]),dL h (s:=jI) (by simp[lits,aC]),du h (s:=jI) (by simp[lits,aC]),d,f,h.qZ,GS,F9,if_true,th,if_false];rcases Rv g with ⟨a,b⟩|⟨e,m⟩
   ·refine ad ⟨gT _ a,?_⟩;have l:=px f1 (out:=acc++[(lV (bz jI st)).1]) b;simp[l]
   ·rw[<-e];have o:=oL (bz jI st);rw[<-e] at o;have:=ih (rW (bz jI st)).2 m (by omega) c f1 f2 out (acc++[(rW (bz jI st)).1]) (by omega) (by omega) (by omega);rw[<-wh] at this;exact this
  ·have i:da f1 acc st=(acc,st):=by cases f1 with|zero=>rfl|succ n=>simp[da,f]
   rw[i];simp only[h.qZ];by_cases d:aO aN st=true
   ·have r:=nh d;have t:=lh d;obtain⟨c,rfl⟩:∃m',c=m'+1:=⟨c - 1,by omega⟩;obtain⟨f2,rfl⟩:∃m',f2=m'+1:=⟨f2 - 1,by omega⟩;have g:=h.has aN;simp only[bE,dw,dL h (s:=aN) (by simp[lits,aC]),du h (s:=aN) (by simp[lits,aC]),d,g.qZ,GS,F9,if_true,th,if_false];unfold ie;rcases Cv g cV with ⟨a,b⟩|⟨e,m⟩
    ·refine ad ⟨gT _ a,?_⟩;have l:=px (iz cV (bz aN st)).2.rest.length (out:=[(iz cV (bz aN st)).1]) b;simp[l]
    ·rw[<-e];have o:=kq cV (bz aN st);exact ih (dA cV (bz aN st)).2 m (by omega) c (dA cV (bz aN st)).2.rest.length f2 (out++acc) [(dA cV (bz aN st)).1] (by omega) (rm _) (by omega)
   ·have j:bE c (out++acc) st=(out++acc,st):=by
     cases c with
     | zero=>rfl
     | succ n=>simp only[bE,dL h (s:=aN) (by simp[lits,aC]),dL h (s:=jI) (by simp[lits,aC]),d,f];rfl
    rw[j];simp only[d];exact a6 ⟨rfl,h⟩
theorem MT(h:Ok st){n:Nat}(g:st.rest.length<n):Ag (bE (dA cV st).2.rest.length [(dA cV st).1] (dA cV st).2) (dw n [] st):=by
 obtain⟨n,rfl⟩:∃m',n=m'+1:=⟨n - 1,by omega⟩;simp only[dw,h.qZ];unfold ie;rcases Cv h cV with ⟨a,b⟩|⟨e,d⟩
 ·refine ad ⟨gT _ a,?_⟩;have c:=px (iz cV st).2.rest.length (out:=[(iz cV st).1]) b;simp[c]
 ·rw[<-e];have f:=kq cV st;exact LR _ (dA cV st).2 d (rm _) _ (dA cV st).2.rest.length n [] [(dA cV st).1] (rm _) (rm _) (by omega)
end Pure
namespace Pure
theorem Hf{a b:ByteArray}(h:jb a b=true):a=b:=by
 unfold jb at h;have:a.toList=b.toList:=by simpa using h
 rw[ByteArray.toList_eq,ByteArray.toList_eq] at this;exact Go.WideShapes.bytes_inj this
def Qq(s:ByteArray):Bool:=!cm (bt s 0)&&(!(decide (bt s 0=45)) || !cm (bt s 1))
theorem Ol:lits.all Qq=true:=by decide +kernel
theorem Fb{l:List UInt8}{v:Int}(h:je l=some v):-1000000000<=v/\v<=1000000000:=by
 cases l with
 | nil=>simp[je] at h
 | cons c r=>
  simp only[je] at h;split at h
  ·split at h
   ·cases h
   ·rename_i a;injection h with h
    have h1:¬1000000000<fQ 0 r:=fun e=>a (a6 e);omega
  ·split at h
   ·cases h
   ·rename_i a;injection h with h
    have h1:¬1000000000<fQ 0 (c::r):=fun e=>a (a6 e);omega
theorem KG{k e:Nat}(h:one s k=some (e,t))(hk:k<s.size):VT t:=by
 unfold one at h;split at h
 ·split at h
  ·cases h
  ·injection h with h;injection h with _ h;subst h
   exact⟨fun e=>(by cases e),fun e=>(by cases e),fun e=>(by cases e)⟩
 ·split at h
  ·rename_i b;split at h
   ·cases h
   ·rename_i v q;injection h with h;injection h with h1 h;subst h
    have g:=Fb q;refine⟨fun _=>g.1,fun _=>g.2,fun _ l hl=>?_⟩;simp only;have ok:=List.all_eq_true.1 Ol l hl;unfold Qq at ok;simp only[wa,zd,Bool.not_eq_true',decide_eq_false_iff_not] at ok;have d:=rT (p:=cm) (s:=s) (k:=k+1) hk;cases he:jb (s.extract k (span cm s (k+1))) l with
    | false=>rfl
    | true=>
     exfalso;have f:=Hf he;have j:bt l 0=bt s k:=by rw[<-f,gq s k _ 0 d.2 (by omega)];rfl
     rw[j] at ok;simp only[zd,wa,decide_eq_true_eq] at b;rcases b with b|⟨b,a⟩
     ·rw[b] at ok;exact absurd ok.1 (by simp)
     ·have c:k+1<s.size:=AW (by have:=rO a;omega);have n:=jZ (p:=cm) c a;have i:=rT (p:=cm) (s:=s) (k:=k+1+1) c;have m:bt l 1=bt s (k+1):=by rw[<-f,gq s k _ 1 d.2 (by omega)]
      rw[m,a] at ok;rcases ok.2 with o|o
      ·exact o b
      ·cases o
  ·split at h
   ·cases h
   ·injection h with h;injection h with _ h;subst h
    exact⟨fun e=>(by cases e),fun e=>(by cases e),fun e=>(by cases e)⟩
theorem KL(s:ByteArray):∀n k ts,s.size - k<=n->run s k=some ts->∀t∈ts,VT t:=by
 intro n
 induction n with
 | zero=>
  intro k ts f h;rw[tD (by omega)] at h;injection h with h;subst h
  intro t d;cases d
 | succ n ih=>
  intro k ts f h;by_cases hk:k<s.size
  ·by_cases b:bt s k=32
   ·rw[uL hk b] at h;exact ih (k+1) ts (by omega) h
   ·cases a:one s k with
    | none=>rw[Cd hk b a] at h;cases h
    | some x=>
     obtain⟨e,t⟩:=x;rw[Ch hk b a] at h;have g:=qo a hk;cases c:run s e with
     | none=>rw[c] at h;cases h
     | some us=>
      rw[c] at h;simp only[Option.map_some] at h;injection h with h;subst h
      intro u hu;rcases List.mem_cons.1 hu with rfl|hu
      ·exact KG a hk
      ·exact ih e us (by omega) c u hu
  ·rw[tD hk] at h;injection h with h;subst h
   intro t d;cases d
end Pure
end Go.Proofs.YtbfmmmjkjhjleaaGreatDoor
