/- Mine. -/
import Derived.Test.YtbfmmmjkjhjleaaGreatDoorC00
import Derived.Test.YtbfmmmjkjhjleaaGreatDoorProg
import Derived.WalkSpells
import Derived.WalkLawsBesides
import Derived.DeepKeys5
import Derived.Deep.AppendLies
import Derived.BigQuiet
import Derived.Deep.CutBlock
import Derived.Deep.DeepCutAuto
import Derived.Lib.QuietBelow
import Derived.Shelf.Strconv.AtoiAll
import Derived.Lib.SmallJoins
import Derived.Shelf.Strings.OnBuilder
import Derived.Shelf.Strconv.Itoa3
import Derived.Shelf.Small.Bits
import Derived.Shelf.Small.Wraps
import Derived.Shelf.Strings.Cut
import Derived.Shelf.Strings.Split
import Derived.Maps.Ext
set_option maxRecDepth 100000
set_option maxHeartbeats 0
namespace Go.Proofs.YtbfmmmjkjhjleaaGreatDoor
open Go.Proofs.Tryz
variable {s:ByteArray} {k b e B n:Nat} {W w w0:World} {f a c:Int} {lv v:Value} {p:Int->Bool} {xs:List Value}
def eM(c:Int):Bool:=decide ((97<=c/\c<=122)\/(65<=c/\c<=90))
def cm(c:Int):Bool:=decide (48<=c/\c<=57)
def fR(c:Int):Bool:=eM c || cm c
theorem EO(h:(97<=c/\c<=122)\/(65<=c/\c<=90)):eM c=true:=by unfold eM;simpa using h
theorem fO(h:¬((97<=c/\c<=122)\/(65<=c/\c<=90))):eM c=false:=by unfold eM;exact decide_eq_false h
theorem oM(h:48<=c/\c<=57):cm c=true:=by unfold cm;simpa using h
theorem lM(h:¬(48<=c/\c<=57)):cm c=false:=by unfold cm;exact decide_eq_false h
theorem I0(h:eM c=true):(97<=c/\c<=122)\/(65<=c/\c<=90):=by unfold eM at h;exact of_decide_eq_true h
theorem rO(h:cm c=true):48<=c/\c<=57:=by unfold cm at h;exact of_decide_eq_true h
theorem Gs(h:cm c=false):¬(48<=c/\c<=57):=by unfold cm at h;exact of_decide_eq_false h
def bt(s:ByteArray)(k:Nat):Int:=if h:k<s.size then ((s[k]'h).toNat:Int) else -1
theorem bX(h:k<s.size):((s[k]'h).toNat:Int)=bt s k:=by unfold bt;rw[dif_pos h]
theorem yB(h:¬k<s.size):bt s k=-1:=by unfold bt;rw[dif_neg h]
theorem AW(h:0<=bt s k):k<s.size:=by
 by_cases hk:k<s.size
 ·exact hk
 ·rw[yB hk] at h;omega
def DK(p:Int->Bool)(s:ByteArray):Nat->Nat->Nat
 | 0,k=>k
 | n+1,k=>if k<s.size/\p (bt s k)=true then DK p s n (k+1) else k
def span(p:Int->Bool)(s:ByteArray)(k:Nat):Nat:=DK p s (s.size - k) k
theorem jZ(h:k<s.size)(hp:p (bt s k)=true):span p s k=span p s (k+1):=by
 unfold span;rw[show s.size - k=(s.size - (k+1))+1 by omega];simp only[DK];rw[a8 ⟨h,hp⟩]
theorem kt(h:k<s.size->p (bt s k)=false):span p s k=k:=by
 unfold span;cases b:s.size - k with
 | zero=>simp only[DK]
 | succ n=>
  simp only[DK];rw[bk];rintro ⟨h1,a⟩;rw[h h1] at a;cases a
theorem we(p:Int->Bool)(s:ByteArray):∀n k,s.size - k=n->k<=s.size->k<=span p s k/\span p s k<=s.size
 | 0,k,h,hk=>by rw[kt (by omega)];omega
 | n+1,k,h,hk=>by
  by_cases hp:p (bt s k)=true
  ·rw[jZ (by omega) hp];have:=we p s n (k+1) (by omega) (by omega);omega
  ·rw[kt (fun _=>by simpa using hp)];omega
theorem rT(hk:k<=s.size):k<=span p s k/\span p s k<=s.size:=we p s _ k rfl hk
theorem EW(p:Int->Bool)(s:ByteArray):∀n k,s.size - k=n->k<=s.size->∀j,k<=j->j<span p s k->p (bt s j)=true
 | 0,k,h,hk,j,h1,h2=>by rw[kt (by omega)] at h2;omega
 | n+1,k,h,hk,j,h1,h2=>by
  by_cases hp:p (bt s k)=true
  ·by_cases e:j=k
   ·rw[e];exact hp
   ·rw[jZ (by omega) hp] at h2;exact EW p s n (k+1) (by omega) (by omega) j (by omega) h2
  ·rw[kt (fun _=>by simpa using hp)] at h2;omega
def R9(c:UInt8):Nat:=c.toNat - 48
theorem yn(c:UInt8):R9 c=c.toNat - 48:=by unfold R9;exact Eq.refl _
def fQ(acc:Nat)(l:List UInt8):Nat:=l.foldl (fun a c=>10*a+R9 c) acc
theorem oI(acc:Nat):fQ acc []=acc:=by unfold fQ;rw[List.foldl_nil]
theorem oK(acc:Nat)(c:UInt8)(r:List UInt8):fQ acc (c::r)=fQ (10*acc+R9 c) r:=by unfold fQ;rw[L2]
theorem wm(l m:List UInt8)(acc:Nat):fQ acc (l++m)=fQ (fQ acc l) m:=by unfold fQ;rw[L3]
theorem IM(l:List UInt8):∀(acc:Nat),acc<=fQ acc l:=by
 induction l with
 | nil=>intro acc;rw[oI];exact rm _
 | cons c r ih=>intro acc;have:=ih (10*acc+R9 c);rw[oK];omega
theorem AZ(l:List UInt8)(c:UInt8)(acc:Nat):fQ acc (l++[c])=10*fQ acc l+R9 c:=by
 rw[wm,oK,oI]
def je:List UInt8->Option Int
 | []=>none
 | c::r=>
  if c.toNat=45 then
   (if r.head?.map UInt8.toNat=some 48\/1000000000<fQ 0 r then none else some (-(fQ 0 r:Int)))
  else (if (c.toNat=48/\r≠[])\/1000000000<fQ 0 (c::r) then none else some (fQ 0 (c::r):Int))
structure Tok where
 kind:Int
 text:ByteArray
 val:Int
def aG(s:ByteArray)(k:Nat):Nat:=
 let c:=bt s k
 let d:=bt s (k+1)
 if c=93 then (if d=45/\bt s (k+2)=62 then 3 else 0)
 else if c=45 then (if d=91 then 2 else 0)
 else if c=46 then (if d=46 then 2 else 1)
 else if c=60 then (if d=61\/d=62 then 2 else 1)
 else if c=62 then (if d=61 then 2 else 1)
 else if c=40\/c=41\/c=58\/c=44\/c=61\/c=42\/c=123\/c=125 then 1
 else 0
theorem pG(h:k<s.size):k+aG s k<=s.size:=by
 have h1:∀j,bt s j=45\/bt s j=62\/bt s j=91\/bt s j=46\/bt s j=61->j<s.size:=fun j hj=>AW (by omega);have a:=h1 (k+1);have b:=h1 (k+2);unfold aG;simp only
 repeat' split
 all_goals omega
def one(s:ByteArray)(k:Nat):Option (Nat × Tok):=
 if eM (bt s k) then
  (if 8<span fR s k - k then none else some (span fR s k,⟨1,s.extract k (span fR s k),0⟩))
 else if cm (bt s k) || (decide (bt s k=45)&&cm (bt s (k+1))) then
  (match je (s.extract k (span cm s (k+1))).data.toList with
   | none=>none
   | some v=>some (span cm s (k+1),⟨2,s.extract k (span cm s (k+1)),v⟩))
 else if aG s k=0 then none else some (k+aG s k,⟨3,s.extract k (k+aG s k),0⟩)
theorem qo{t:Tok}(h:one s k=some (e,t))(hk:k<s.size):k<e/\e<=s.size:=by
 unfold one at h;split at h
 ·rename_i b;split at h
  ·cases h
  ·injection h with h;injection h with h1 a;subst h1
   have:span fR s k=span fR s (k+1):=jZ hk (by unfold fR;rw[b];rfl);have:=rT (p:=fR) (s:=s) (k:=k+1) hk;omega
 ·split at h
  ·split at h
   ·cases h
   ·injection h with h;injection h with h1 a;subst h1
    have:=rT (p:=cm) (s:=s) (k:=k+1) hk;omega
  ·split at h
   ·cases h
   ·injection h with h;injection h with h1 a;subst h1
    have:=pG hk;omega
def runN(s:ByteArray):Nat->Nat->Option (List Tok)
 | 0,k=>if k<s.size then none else some []
 | n+1,k=>
  if k<s.size then
   (if bt s k=32 then runN s n (k+1)
   else match one s k with
    | none=>none
    | some (e,t)=>if k<e then (runN s n e).map (t::·) else none)
  else some []
def run(s:ByteArray)(k:Nat):Option (List Tok):=runN s (s.size - k) k
theorem JD(s:ByteArray):∀n m k,s.size - k<=n->s.size - k<=m->runN s n k=runN s m k:=by
 intro n
 induction n with
 | zero=>
  intro m k h1 b;have hk:¬k<s.size:=by omega
  cases m with
  | zero=>rfl
  | succ m=>simp only[runN];rw[bk hk,bk hk]
 | succ n ih=>
  intro m k h1 b;cases m with
  | zero=>
   have hk:¬k<s.size:=by omega
   simp only[runN];rw[bk hk,bk hk]
  | succ m=>
   simp only[runN];by_cases hk:k<s.size
   ·rw[a8 hk,a8 hk];by_cases a:bt s k=32
    ·rw[a8 a,a8 a];exact ih m (k+1) (by omega) (by omega)
    ·rw[bk a,bk a];cases one s k with
     | none=>rfl
     | some p=>
      obtain⟨e,t⟩:=p;simp only;by_cases he:k<e
      ·rw[a8 he,a8 he,ih m e (by omega) (by omega)]
      ·rw[bk he,bk he]
   ·rw[bk hk,bk hk]
theorem tD(h:¬k<s.size):run s k=some []:=by
 unfold run;rw[show s.size - k=0 by omega];simp only[runN];rw[bk h]
theorem yf(h:k<s.size):run s k=if bt s k=32 then run s (k+1) else match one s k with
  | none=>none
  | some (e,t)=>if k<e then (run s e).map (t::·) else none:=by
 unfold run;rw[show s.size - k=(s.size - (k+1))+1 by omega];simp only[runN];rw[a8 h];by_cases a:bt s k=32
 ·rw[a8 a,a8 a]
 ·rw[bk a,bk a];cases one s k with
  | none=>rfl
  | some p=>
   obtain⟨e,t⟩:=p;simp only;by_cases he:k<e
   ·rw[a8 he,a8 he,JD s _ (s.size - e) e (by omega) (by omega)]
   ·rw[bk he,bk he]
theorem uL(h:k<s.size)(a:bt s k=32):run s k=run s (k+1):=by rw[yf h,a8 a]
theorem Cd(h:k<s.size)(a:bt s k≠32)(b:one s k=none):run s k=none:=by
 rw[yf h,bk a,b]
theorem Ch{t:Tok}(h:k<s.size)(b:bt s k≠32)(a:one s k=some (e,t)):run s k=(run s e).map (t::·):=by
 rw[yf h,bk b,a];simp only;rw[a8 (qo a h).1]
def kr(s:ByteArray)(k:Nat)(acc:List Tok):Prop:=(run s k).map (acc++·)=run s 0
theorem wC(s:ByteArray):kr s 0 []:=by unfold kr;cases run s 0<;>simp
theorem kr.blank{acc:List Tok}(h:kr s k acc)(hk:k<s.size)(a:bt s k=32):kr s (k+1) acc:=by
 unfold kr at *;rw[<-uL hk a];exact h
theorem kr.tok{t:Tok}{acc:List Tok}(h:kr s k acc)(hk:k<s.size)(a:bt s k≠32)(b:one s k=some (e,t)):kr s e (acc++[t]):=by
 unfold kr at *;rw[Ch hk a b] at h;rw[<-h];cases run s e<;>simp
theorem kr.bad{acc:List Tok}(h:kr s k acc)(hk:k<s.size)(a:bt s k≠32)(b:one s k=none):run s 0=none:=by
 unfold kr at h;rw[Cd hk a b] at h;rw[<-h];rfl
theorem kr.fin{acc:List Tok}(h:kr s k acc)(hk:¬k<s.size):run s 0=some acc:=by
 unfold kr at h;rw[tD hk] at h;rw[<-h];simp
theorem GA(s:ByteArray):∀n k ts,s.size - k<=n->run s k=some ts->ts.length<=s.size - k:=by
 intro n
 induction n with
 | zero=>
  intro k ts d h;rw[tD (by omega)] at h;injection h with h;subst h;simp
 | succ n ih=>
  intro k ts d h;by_cases hk:k<s.size
  ·by_cases a:bt s k=32
   ·rw[uL hk a] at h;have:=ih (k+1) ts (by omega) h;omega
   ·cases b:one s k with
    | none=>rw[Cd hk a b] at h;cases h
    | some p=>
     obtain⟨e,t⟩:=p;rw[Ch hk a b] at h;have:=qo b hk;cases c:run s e with
     | none=>rw[c] at h;cases h
     | some us=>
      rw[c] at h;simp at h;subst h;have:=ih e us (by omega) c;simp;omega
  ·rw[tD hk] at h;injection h with h;subst h;simp
def AL:Array ByteArray:=#[⟨#[93,45,62]⟩,⟨#[45,91]⟩,⟨#[46,46]⟩,⟨#[60,61]⟩,⟨#[62,61]⟩,⟨#[60,62]⟩,⟨#[40]⟩,⟨#[41]⟩,⟨#[58]⟩,⟨#[44]⟩,⟨#[46]⟩,⟨#[61]⟩,⟨#[60]⟩,⟨#[62]⟩,⟨#[42]⟩,⟨#[123]⟩,⟨#[125]⟩]
def bj(k:Nat):ByteArray:=AL.getD k ByteArray.empty
def fits(s m:ByteArray):Prop:=m.size<=s.size/\s.extract 0 m.size=m
theorem gq(s:ByteArray)(a b j:Nat)(c:b<=s.size)(d:a+j<b):bt (s.extract a b) j=bt s (a+j):=by
 have h1:j<(s.extract a b).size:=by rw[Mi];omega
 rw[<-bX h1,<-bX (show a+j<s.size by omega)];rw[ByteArray.getElem_extract]
theorem de(s:ByteArray)(a b:Nat)(c:b<=s.size):(s.extract a b).size=b - a:=by rw[Mi];omega
theorem CN{a b:ByteArray}(f:a.size=b.size)(h:∀j,j<a.size->bt a j=bt b j):a=b:=by
 apply ByteArray.ext;apply Array.ext f;intro i h1 c;have:=h i h1;rw[<-bX h1,<-bX (show i<b.size from c)] at this;have d:(a[i]'h1).toNat=(b[i]'c).toNat:=by omega
 exact UInt8.toNat_inj.1 d
theorem xE(s m:ByteArray):fits s m↔∀j,j<m.size->bt s j=bt m j:=by
 constructor
 ·rintro ⟨h1,a⟩ j b;have:=gq s 0 m.size j h1 (by omega);rw[tH] at this;rw[<-this,a]
 ·intro h;have hle:m.size<=s.size:=by
   by_cases c:m.size=0
   ·omega
   ·have hm:m.size - 1<m.size:=by omega
    have h1:=h (m.size - 1) hm;have a:=bX hm;have:m.size - 1<s.size:=AW (by omega);omega
  refine⟨hle,CN (by rw[de _ _ _ hle];omega) ?_⟩;intro j b;rw[de _ _ _ hle] at b;rw[gq s 0 m.size j hle (by omega),tH];exact h j (by omega)
theorem qf(s:ByteArray)(a:UInt8):fits s ⟨#[a]⟩↔bt s 0=(a.toNat:Int):=by
 rw[xE];have z:(⟨#[a]⟩:ByteArray).size=1:=rfl;have b:bt ⟨#[a]⟩ 0=(a.toNat:Int):=(bX (s:=⟨#[a]⟩) (k:=0) (by omega)).symm;constructor
 ·intro h;rw[h 0 (by omega),b]
 ·intro h j c;have:j=0:=by omega
  subst this;rw[h,b]
theorem tM(s:ByteArray)(a b:UInt8):fits s ⟨#[a,b]⟩↔bt s 0=(a.toNat:Int)/\bt s 1=(b.toNat:Int):=by
 rw[xE];have z:(⟨#[a,b]⟩:ByteArray).size=2:=rfl;have c:bt ⟨#[a,b]⟩ 0=(a.toNat:Int):=(bX (s:=⟨#[a,b]⟩) (k:=0) (by omega)).symm;have d:bt ⟨#[a,b]⟩ 1=(b.toNat:Int):=(bX (s:=⟨#[a,b]⟩) (k:=1) (by omega)).symm;constructor
 ·intro h;exact⟨by rw[h 0 (by omega),c],by rw[h 1 (by omega),d]⟩
 ·intro h j f;have:j=0\/j=1:=by omega
  rcases this with rfl|rfl
  ·rw[h.1,c]
  ·rw[h.2,d]
theorem SS(s:ByteArray)(a b c:UInt8):fits s ⟨#[a,b,c]⟩↔bt s 0=(a.toNat:Int)/\bt s 1=(b.toNat:Int)/\bt s 2=(c.toNat:Int):=by
 rw[xE];have z:(⟨#[a,b,c]⟩:ByteArray).size=3:=rfl;have d:bt ⟨#[a,b,c]⟩ 0=(a.toNat:Int):=(bX (s:=⟨#[a,b,c]⟩) (k:=0) (by omega)).symm;have f:bt ⟨#[a,b,c]⟩ 1=(b.toNat:Int):=(bX (s:=⟨#[a,b,c]⟩) (k:=1) (by omega)).symm;have g:bt ⟨#[a,b,c]⟩ 2=(c.toNat:Int):=(bX (s:=⟨#[a,b,c]⟩) (k:=2) (by omega)).symm;constructor
 ·intro h;exact⟨by rw[h 0 (by omega),d],by rw[h 1 (by omega),f],by rw[h 2 (by omega),g]⟩
 ·intro h j i;have:j=0\/j=1\/j=2:=by omega
  rcases this with rfl|rfl|rfl
  ·rw[h.1,d]
  ·rw[h.2.1,f]
  ·rw[h.2.2,g]
structure Fit(s:ByteArray):Prop where
 m0:fits s (bj 0)↔bt s 0=93/\bt s 1=45/\bt s 2=62
 m1:fits s (bj 1)↔bt s 0=45/\bt s 1=91
 m2:fits s (bj 2)↔bt s 0=46/\bt s 1=46
 m3:fits s (bj 3)↔bt s 0=60/\bt s 1=61
 m4:fits s (bj 4)↔bt s 0=62/\bt s 1=61
 m5:fits s (bj 5)↔bt s 0=60/\bt s 1=62
 m6:fits s (bj 6)↔bt s 0=40
 m7:fits s (bj 7)↔bt s 0=41
 m8:fits s (bj 8)↔bt s 0=58
 m9:fits s (bj 9)↔bt s 0=44
 m10:fits s (bj 10)↔bt s 0=46
 m11:fits s (bj 11)↔bt s 0=61
 m12:fits s (bj 12)↔bt s 0=60
 m13:fits s (bj 13)↔bt s 0=62
 m14:fits s (bj 14)↔bt s 0=42
 m15:fits s (bj 15)↔bt s 0=123
 m16:fits s (bj 16)↔bt s 0=125
theorem fit(s:ByteArray):Fit s where
 m0:=SS s 93 45 62
 m1:=tM s 45 91
 m2:=tM s 46 46
 m3:=tM s 60 61
 m4:=tM s 62 61
 m5:=tM s 60 62
 m6:=qf s 40
 m7:=qf s 41
 m8:=qf s 58
 m9:=qf s 44
 m10:=qf s 46
 m11:=qf s 61
 m12:=qf s 60
 m13:=qf s 62
 m14:=qf s 42
 m15:=qf s 123
 m16:=qf s 125
theorem KE(h:∀j,j<17->¬fits s (bj j)):aG s 0=0:=by
 have F:=fit s;have a0:=mt F.m0.2 (h 0 (by omega));have i:=mt F.m1.2 (h 1 (by omega));have k:=mt F.m6.2 (h 6 (by omega));have l:=mt F.m7.2 (h 7 (by omega));have m:=mt F.m8.2 (h 8 (by omega));have a9:=mt F.m9.2 (h 9 (by omega));have a:=mt F.m10.2 (h 10 (by omega));have b:=mt F.m11.2 (h 11 (by omega));have a12:=mt F.m12.2 (h 12 (by omega));have c:=mt F.m13.2 (h 13 (by omega));have d:=mt F.m14.2 (h 14 (by omega));have f:=mt F.m15.2 (h 15 (by omega));have g:=mt F.m16.2 (h 16 (by omega));unfold aG;simp only[tH]
 repeat' split
 all_goals omega
theorem Je(a:fits s (bj 0)) :aG s 0=3:=by
 have F:=fit s;have b:=F.m0.1 a;clear F a;unfold aG;simp only[tH]
 repeat' split
 all_goals omega
theorem KA(a:fits s (bj 1)) :aG s 0=2:=by
 have F:=fit s;have b:=F.m1.1 a;clear F a;unfold aG;simp only[tH]
 repeat' split
 all_goals omega
theorem Jy(a:fits s (bj 2)) :aG s 0=2:=by
 have F:=fit s;have b:=F.m2.1 a;clear F a;unfold aG;simp only[tH]
 repeat' split
 all_goals omega
theorem Kf(a:fits s (bj 3)) :aG s 0=2:=by
 have F:=fit s;have b:=F.m3.1 a;clear F a;unfold aG;simp only[tH]
 repeat' split
 all_goals omega
theorem Ky(a:fits s (bj 4)) :aG s 0=2:=by
 have F:=fit s;have b:=F.m4.1 a;clear F a;unfold aG;simp only[tH]
 repeat' split
 all_goals omega
theorem Jp(a:fits s (bj 5)) :aG s 0=2:=by
 have F:=fit s;have b:=F.m5.1 a;clear F a;unfold aG;simp only[tH]
 repeat' split
 all_goals omega
theorem Jd(a:fits s (bj 6)) :aG s 0=1:=by
 have F:=fit s;have b:=F.m6.1 a;clear F a;unfold aG;simp only[tH]
 repeat' split
 all_goals omega
theorem J3(a:fits s (bj 7)) :aG s 0=1:=by
 have F:=fit s;have b:=F.m7.1 a;clear F a;unfold aG;simp only[tH]
 repeat' split
 all_goals omega
theorem Jj(a:fits s (bj 8)) :aG s 0=1:=by
 have F:=fit s;have b:=F.m8.1 a;clear F a;unfold aG;simp only[tH]
 repeat' split
 all_goals omega
theorem Kw(a:fits s (bj 9)) :aG s 0=1:=by
 have F:=fit s;have b:=F.m9.1 a;clear F a;unfold aG;simp only[tH]
 repeat' split
 all_goals omega
theorem Gd(a:fits s (bj 10))(a2:¬fits s (bj 2)):aG s 0=1:=by
 have F:=fit s;have b:=F.m10.1 a;have c2:=mt F.m2.2 a2;clear F a a2;unfold aG;simp only[tH]
 repeat' split
 all_goals omega
theorem G7(a:fits s (bj 11)) :aG s 0=1:=by
 have F:=fit s;have b:=F.m11.1 a;clear F a;unfold aG;simp only[tH]
 repeat' split
 all_goals omega
theorem Fe(a:fits s (bj 12))(a3:¬fits s (bj 3))(a5:¬fits s (bj 5)):aG s 0=1:=by
 have F:=fit s;have b:=F.m12.1 a;have c:=mt F.m3.2 a3;have d:=mt F.m5.2 a5;clear F a a3 a5;unfold aG;simp only[tH]
 repeat' split
 all_goals omega
theorem FP(a:fits s (bj 13))(a4:¬fits s (bj 4)):aG s 0=1:=by
 have F:=fit s;have b:=F.m13.1 a;have c:=mt F.m4.2 a4;clear F a a4;unfold aG;simp only[tH]
 repeat' split
 all_goals omega
theorem FJ(a:fits s (bj 14)) :aG s 0=1:=by
 have F:=fit s;have b:=F.m14.1 a;clear F a;unfold aG;simp only[tH]
 repeat' split
 all_goals omega
theorem Fs(a:fits s (bj 15)) :aG s 0=1:=by
 have F:=fit s;have b:=F.m15.1 a;clear F a;unfold aG;simp only[tH]
 repeat' split
 all_goals omega
theorem Gx(a:fits s (bj 16)) :aG s 0=1:=by
 have F:=fit s;have b:=F.m16.1 a;clear F a;unfold aG;simp only[tH]
 repeat' split
 all_goals omega
theorem Nu(hk:k<17)(a:fits s (bj k))(h:∀j,j<k->¬fits s (bj j)):aG s 0=(bj k).size/\0<(bj k).size:=by
 rcases (show k=0\/k=1\/k=2\/k=3\/k=4\/k=5\/k=6\/k=7\/k=8\/k=9\/k=10\/k=11\/k=12\/k=13\/k=14\/k=15\/k=16 by omega) with rfl|rfl|rfl|rfl|rfl|rfl|rfl|rfl|rfl|rfl|rfl|rfl|rfl|rfl|rfl|rfl|rfl
 ·rw[show (bj 0).size=3 from rfl];exact⟨Je a,by omega⟩
 ·rw[show (bj 1).size=2 from rfl];exact⟨KA a,by omega⟩
 ·rw[show (bj 2).size=2 from rfl];exact⟨Jy a,by omega⟩
 ·rw[show (bj 3).size=2 from rfl];exact⟨Kf a,by omega⟩
 ·rw[show (bj 4).size=2 from rfl];exact⟨Ky a,by omega⟩
 ·rw[show (bj 5).size=2 from rfl];exact⟨Jp a,by omega⟩
 ·rw[show (bj 6).size=1 from rfl];exact⟨Jd a,by omega⟩
 ·rw[show (bj 7).size=1 from rfl];exact⟨J3 a,by omega⟩
 ·rw[show (bj 8).size=1 from rfl];exact⟨Jj a,by omega⟩
 ·rw[show (bj 9).size=1 from rfl];exact⟨Kw a,by omega⟩
 ·rw[show (bj 10).size=1 from rfl];exact⟨Gd a (h 2 (by omega)),by omega⟩
 ·rw[show (bj 11).size=1 from rfl];exact⟨G7 a,by omega⟩
 ·rw[show (bj 12).size=1 from rfl];exact⟨Fe a (h 3 (by omega)) (h 5 (by omega)),by omega⟩
 ·rw[show (bj 13).size=1 from rfl];exact⟨FP a (h 4 (by omega)),by omega⟩
 ·rw[show (bj 14).size=1 from rfl];exact⟨FJ a,by omega⟩
 ·rw[show (bj 15).size=1 from rfl];exact⟨Fs a,by omega⟩
 ·rw[show (bj 16).size=1 from rfl];exact⟨Gx a,by omega⟩
theorem FX(hk:k<17)(a:fits s (bj k))(h:∀j,j<k->¬fits s (bj j)):bj k=s.extract 0 (aG s 0)/\0<aG s 0:=by
 obtain⟨h1,b⟩:=Nu hk a h;rw[h1];exact⟨a.2.symm,b⟩
theorem BF(s:ByteArray)(k:Nat)(h:k<=s.size):aG (s.extract k s.size) 0=aG s k:=by
 have e:∀j,bt (s.extract k s.size) j=bt s (k+j):=by
  intro j;by_cases a:k+j<s.size
  ·exact gq s k s.size j (rm _) a
  ·rw[yB (by rw[de _ _ _ (rm _)];omega),yB a]
 unfold aG;simp only[e,tH,Bs]
theorem K9(s:ByteArray)(k:Nat)(h:k<s.size):(s.extract k s.size).extract 0 (aG (s.extract k s.size) 0)=s.extract k (k+aG s k):=by
 have a:=pG h;rw[BF s k (by omega)];have c:=de s k s.size (rm _);have z2:=de s k (k+aG s k) a;have z3:=de (s.extract k s.size) 0 (aG s k) (by omega);refine CN (by omega) ?_;intro j b;rw[gq _ 0 _ _ (by omega) (by omega),tH,gq _ _ _ _ (rm _) (by omega),gq _ _ _ _ a (by omega)]
section
open Go.RowKit
def dO(ts:List Tok):List Value:=ts.flatMap fun t=>[.int .i64 t.kind,.string t.text,.int .i64 t.val]
def dN(s:ByteArray):Option (List Tok):=if 2000<s.size then none else run s 0
def wP(s:ByteArray)(w:World)(e:Ending)(w':World):Prop:=
 Below w.heap.size w w'/\((dN s=none/\e=.returned (.tuple #[.slice none 0 0,.int .i64 3]))\/
  ∃ts v,dN s=some ts/\e=.returned (.tuple #[v,.int .i64 0])/\w'.ownsRow w.heap.size 115 3 v ts.length (dO ts))
theorem Tryz.MC:(prog.info? 115).map (fun i=>(i.zero,i.size,i.bytes))=some (some (.agg #[.int .i64 0,.string ⟨#[]⟩,.int .i64 0]),3,32):=by kernel_rfl
def nR(t:ByteArray):Prop:=(0<t.size/\∀j,j<t.size->48<=bt t j/\bt t j<=57)\/(1<t.size/\bt t 0=45/\∀j,1<=j->j<t.size->48<=bt t j/\bt t j<=57)
theorem Ah(h:e<s.size)(hp:p ((s[e]'h).toNat:Int)=true)(a:span p s e=span p s k):span p s (e+1)=span p s k:=by
 rw[<-a];exact(jZ h (by rw[<-bX h];exact hp)).symm
theorem Bc(h:∀h:e<s.size,p ((s[e]'h).toNat:Int)=false)(a:span p s e=span p s k):span p s k=e:=by
 rw[<-a];exact kt fun hh=>by rw[<-bX hh];exact h hh
theorem rD(h:s.size<=2000)(a:run s 0=none):dN s=none:=by unfold dN;rw[bk (by omega)];exact a
theorem Aw{a:List Tok}(h:s.size<=2000)(b:run s 0=some a):dN s=some a:=by unfold dN;rw[bk (by omega)];exact b
theorem ES(h:k<s.size)(a:eM ((s[k]'h).toNat:Int)=true)(he:span fR s k=e)(b:e - k<=8):one s k=some (e,⟨1,s.extract k e,0⟩):=by
 unfold one;rw[<-bX h,a8 a,he,bk (by omega)]
theorem tR(h:k<s.size)(b:eM ((s[k]'h).toNat:Int)=true)(he:span fR s k=e)(a:8<e - k):one s k=none:=by
 unfold one;rw[<-bX h,a8 b,he,a8 a]
theorem zU(acc:List Tok)(t:Tok):dO (acc++[t])=dO acc++[.int .i64 t.kind,.string t.text,.int .i64 t.val]:=by
 unfold dO;rw[As];simp
def i6(s:ByteArray)(k:Nat):Prop:=cm (bt s k)=true\/(bt s k=45/\cm (bt s (k+1))=true)
theorem yK(h:k<s.size)(b:i6 s k)(he:span cm s (k+1)=e):nR (s.extract k e):=by
 have hle:=rT (p:=cm) (s:=s) (k:=k+1) h;have i:=de s k e (by omega);have a:∀j,1<=j->j<e - k->48<=bt (s.extract k e) j/\bt (s.extract k e) j<=57:=by
  intro j h1 f;rw[gq s k e j (by omega) (by omega)];exact rO (EW cm s _ (k+1) rfl h (k+j) (by omega) (by omega))
 have d:bt (s.extract k e) 0=bt s k:=by rw[gq s k e 0 (by omega) (by omega),Bs]
 rcases b with b|⟨b,c⟩
 ·left
  refine⟨by omega,?_⟩;intro j g;by_cases e0:j=0
  ·subst e0;rw[d];exact rO b
  ·exact a j (by omega) (by omega)
 ·right
  have h1:k+1<s.size:=AW (by have:=rO c;omega);have:span cm s (k+1)=span cm s (k+1+1):=jZ h1 c;have:=rT (p:=cm) (s:=s) (k:=k+1+1) h1;exact⟨by omega,by rw[d];exact b,fun j h1 f=>a j h1 (by omega)⟩
theorem one_num{v:Int}(c:eM (bt s k)=false)(b:i6 s k)(he:span cm s (k+1)=e)(d:je (s.extract k e).data.toList=some v):one s k=some (e,⟨2,s.extract k e,v⟩):=by
 unfold one;rw[bk (by rw[c];simp),a8,he,d];rcases b with h|⟨h1,a⟩
 ·rw[h];rfl
 ·rw[h1,a];simp
theorem wg(c:eM (bt s k)=false)(b:i6 s k)(he:span cm s (k+1)=e)(d:je (s.extract k e).data.toList=none):one s k=none:=by
 unfold one;rw[bk (by rw[c];simp),a8,he,d];rcases b with h|⟨h1,a⟩
 ·rw[h];rfl
 ·rw[h1,a];simp
theorem Dn(b:eM (bt s k)=false)(a:¬i6 s k)(hm:0<aG s k):one s k=some (k+aG s k,⟨3,s.extract k (k+aG s k),0⟩):=by
 unfold one;rw[bk (by rw[b];simp),bk,bk (by omega)];intro h;apply a;simp only[zd,wa,decide_eq_true_eq] at h;exact h
theorem kD(b:eM (bt s k)=false)(a:¬i6 s k)(hm:aG s k=0):one s k=none:=by
 unfold one;rw[bk (by rw[b];simp),bk,a8 hm];intro h;apply a;simp only[zd,wa,decide_eq_true_eq] at h;exact h
theorem vK{b:World}(h:w.ownsRow B 115 3 v n xs)(a:Below w.heap.size w b):b.ownsRow B 115 3 v n xs:=
 h.kept (row:=none) ⟨a.os,a.tape,a.output,a.size,fun k hk _=>a.block k hk⟩ (by cases c:v.ownBlock<;>simp)
theorem pJ{wr c:World}{i:Value}{acc:List Tok}{d g:Int}{f:ByteArray}{o:Obj}(h:Below B w wr)(j:B<=w.heap.size)(b:wr.ownsRow B 115 3 v acc.length (dO acc))
  (a:c.ownsRow B 115 3 i (acc.length+1) (dO acc++[.int .i64 d,.string f,.int .i64 g])) (l:(wr.alloc o).grownBy c v.ownBlock):
  Below B w c/\c.ownsRow B 115 3 i (acc++[Tok.mk d f g]).length (dO (acc++[Tok.mk d f g])):=by
 have m:=h.size;refine⟨(h.alloc (by omega) o).grown l (by simp;omega) (fun k hk=>(b.lt k hk).1),?_⟩;rw[zU,r7];exact a
theorem nN{a b c:Value}{T:TypeId}:∀(j:Nat) (u:Value),[a,b,c][j]?=some u->(w.alloc (.cells #[a,b,c] T)).cell? ((⟨w.heap.size,0,none⟩:Addr).add j)=some u:=by
 intro j u d
 match j,d with
 | 0,d=>simp at d;subst d;simp[Addr.add]
 | 1,d=>simp at d;subst d;simp[Addr.add]
 | 2,d=>simp at d;subst d;simp[Addr.add]
theorem rN{a c:Int}{b:ByteArray}:∀u∈[Value.int .i64 a,.string b,.int .i64 c],u.oneCell'=true:=by
 intro u hu;simp at hu;rcases hu with rfl|rfl|rfl<;>rfl
end
def jb(a b:ByteArray):Bool:=a.toList==b.toList
structure gP where
 name:ByteArray
 key:ByteArray
 val:Int
structure aK where
 name:ByteArray
 ai:ByteArray
 type:ByteArray
 least:Int
 bq:Int
structure bW where
 op:Int
 a:gP
 b:gP
structure aZ where
 name:ByteArray
 key:ByteArray
structure bm where
 key:ByteArray
 val:Int
structure aI where
 kind:Int
 ah:List aK
 aq:List bW
 af:List aZ
 order:Int
 down:Bool
 skip:Int
 aX:Int
 name:ByteArray
 key:ByteArray
 value:gP
 type:ByteArray
 dest:ByteArray
 ai:ByteArray
 aj:List bm
def e0:ByteArray:=⟨#[]⟩
def wH:Tok:=⟨0,e0,0⟩
def oE:gP:=⟨e0,e0,0⟩
def cV:aK:=⟨e0,e0,e0,0,0⟩
def aB:aI:=⟨0,[],[],[],0,false,0,0,e0,e0,oE,e0,e0,e0,[]⟩
def dK:ByteArray:=⟨#[77,65,84,67,72]⟩
def eD:ByteArray:=⟨#[87,72,69,82,69]⟩
def oF:ByteArray:=⟨#[65,78,68]⟩
def bH:ByteArray:=⟨#[82,69,84,85,82,78]⟩
def eC:ByteArray:=⟨#[79,82,68,69,82]⟩
def L8:ByteArray:=⟨#[66,89]⟩
def kV:ByteArray:=⟨#[68,69,83,67]⟩
def iZ:ByteArray:=⟨#[83,75,73,80]⟩
def gH:ByteArray:=⟨#[76,73,77,73,84]⟩
def fZ:ByteArray:=⟨#[83,69,84]⟩
def bR:ByteArray:=⟨#[68,69,76,69,84,69]⟩
def aW:ByteArray:=⟨#[67,82,69,65,84,69]⟩
def fl:ByteArray:=⟨#[67,65,76,76]⟩
def oZ:ByteArray:=⟨#[73,83]⟩
def ku:ByteArray:=⟨#[78,79,84]⟩
def jM:ByteArray:=⟨#[78,85,76,76]⟩
def iw:ByteArray:=⟨#[67,79,85,78,84]⟩
def bO:ByteArray:=⟨#[40]⟩
def bN:ByteArray:=⟨#[41]⟩
def cD:ByteArray:=⟨#[58]⟩
def aN:ByteArray:=⟨#[44]⟩
def eN:ByteArray:=⟨#[46]⟩
def lW:ByteArray:=⟨#[46,46]⟩
def eP:ByteArray:=⟨#[42]⟩
def jI:ByteArray:=⟨#[45,91]⟩
def dy:ByteArray:=⟨#[93,45,62]⟩
def dC:ByteArray:=⟨#[123]⟩
def iy:ByteArray:=⟨#[125]⟩
def ze:ByteArray:=⟨#[61]⟩
def Lg:ByteArray:=⟨#[60,62]⟩
def Lj:ByteArray:=⟨#[60]⟩
def Le:ByteArray:=⟨#[60,61]⟩
def Lf:ByteArray:=⟨#[62]⟩
def Ld:ByteArray:=⟨#[62,61]⟩
def aC:List ByteArray:=[dK,eD,oF,bH,eC,L8,kV,iZ,gH,fZ,bR,aW,fl,oZ,ku,jM,iw]
def dU(s:ByteArray):Bool:=aC.any fun k=>jb k s
def isWord(s:ByteArray):Bool:=decide (1<=s.size)&&decide (s.size<=8)&&eM (bt s 0)&&decide (∀j,j<s.size->fR (bt s j)=true)
def bB(s:ByteArray):Bool:=isWord s&&decide (97<=bt s 0)
def bI(s:ByteArray):Bool:=isWord s&&decide (bt s 0<97)&&!dU s
structure RS where
 rest:List Tok
 bad:Bool
def RS.bA(st:RS)(b:Bool):RS:=⟨st.rest,st.bad || b⟩
def aO(s:ByteArray)(st:RS):Bool:=
 match st.rest with
 | []=>false
 | t::_=>decide (t.kind≠2)&&jb t.text s
def bz(s:ByteArray)(st:RS):RS:=if aO s st then ⟨st.rest.tail,st.bad⟩ else st
def bG(s:ByteArray)(st:RS):RS:=(bz s st).bA (!aO s st)
def isKind(k:Int)(st:RS):Bool:=
 match st.rest with
 | []=>false
 | t::_=>decide (t.kind=k)
def fX(k:Int)(st:RS):Tok × RS:=if isKind k st then (st.rest.headD wH,⟨st.rest.tail,st.bad⟩) else (wH,⟨st.rest,true⟩)
def cI(st:RS):ByteArray × RS:=((fX 1 st).1.text,(fX 1 st).2.bA (!bB (fX 1 st).1.text))
def fA(st:RS):ByteArray × RS:=((fX 1 st).1.text,(fX 1 st).2.bA (!bI (fX 1 st).1.text))
def fq(lo hi:Int)(st:RS):Int × RS:=((fX 2 st).1.val,(fX 2 st).2.bA (decide ((fX 2 st).1.val<lo) || decide (hi<(fX 2 st).1.val)))
def iz(x:aK)(st:RS):aK × RS:=
 let n:=cI (bG bO st)
 let l:=if aO cD n.2 then fA (bz cD n.2) else (x.ai,n.2)
 (⟨n.1,l.1,x.type,x.least,x.bq⟩,bG bN l.2)
def pU(st:RS):(Int × Int) × RS:=
 if aO eP st then
  let a:=fq 0 4 (bz eP st)
  let b:=fq a.1 4 (bG lW a.2)
  ((a.1,b.1),b.2)
 else ((1,1),st)
def lV(st:RS):aK × RS:=
 let t:=fA st
 let s:=pU t.2
 iz ⟨e0,e0,t.1,s.1.1,s.1.2⟩ (bG dy s.2)
def da:Nat->List aK->RS->List aK × RS
 | 0,out,st=>(out,st)
 | n+1,out,st=>if !st.bad&&aO jI st then da n (out++[(lV (bz jI st)).1]) (lV (bz jI st)).2 else (out,st)
def ie(st:RS):List aK × RS:=da (iz cV st).2.rest.length [(iz cV st).1] (iz cV st).2
def gD(st:RS):gP × RS:=
 if isKind 2 st then (⟨e0,e0,(fX 2 st).1.val⟩,(fX 2 st).2)
 else
  let n:=cI st
  let k:=cI (bG eN n.2)
  (⟨n.1,k.1,0⟩,k.2)
def jD:List ByteArray:=[ze,Lg,Lj,Le,Lf,Ld]
def ef:List ByteArray->Int->RS->Int × RS
 | [],_,st=>(0,st)
 | m::r,i,st=>if aO m st then (i,bz m st) else ef r (i+1) st
def mF(st:RS):bW × RS:=
 let a:=gD st
 if aO oZ a.2 then
  let s:=bz oZ a.2
  (⟨if aO ku s then 8 else 7,a.1,oE⟩,bG jM (bz ku s))
 else
  let o:=ef jD 1 a.2
  let b:=gD (o.2.bA (decide (o.1=0)))
  (⟨o.1,a.1,b.1⟩,b.2)
def dw:Nat->List aK->RS->List aK × RS
 | 0,out,st=>(out,st)
 | n+1,out,st=>
  if st.bad then (out,st)
  else
   let p:=ie st
   if !p.2.bad&&aO aN p.2 then dw n (out++p.1) (bz aN p.2) else (out++p.1,p.2)
def jt:Nat->List bW->RS->List bW × RS
 | 0,out,st=>(out,st)
 | n+1,out,st=>
  let c:=mF st
  if !c.2.bad&&aO oF c.2 then jt n (out++[c.1]) (bz oF c.2) else (out++[c.1],c.2)
def fE(st:RS):(List aK × List bW) × RS:=
 let s:=dw (st.rest.length+1) [] (bG dK st)
 let c:=if !s.2.bad&&aO eD s.2 then jt (st.rest.length+1) [] (bz eD s.2) else ([],s.2)
 ((s.1,c.1),c.2.bA (decide (6<s.1.length) || decide (6<c.1.length)))
def lR(st:RS):aZ × RS:=
 if aO iw st then (⟨e0,e0⟩,bz iw st)
 else
  let n:=cI st
  if !n.2.bad&&aO eN n.2 then
   let k:=cI (bz eN n.2)
   (⟨n.1,k.1⟩,k.2)
  else (⟨n.1,e0⟩,n.2)
def gm:Nat->List aZ->RS->List aZ × RS
 | 0,out,st=>(out,st)
 | n+1,out,st=>
  if st.bad then (out,st)
  else
   let x:=lR st
   if !x.2.bad&&aO aN x.2 then gm n (out++[x.1]) (bz aN x.2) else (out++[x.1],x.2)
def qS(k:Int)(st:RS):(Int × Bool) × RS:=
 if !st.bad&&aO eC st then
  let o:=fq 1 k (bG L8 (bz eC st))
  ((o.1,aO kV o.2),bz kV o.2)
 else ((0,false),st)
def pV(word:ByteArray)(none:Int)(st:RS):Int × RS:=
 if !st.bad&&aO word st then fq 0 1000000000 (bz word st) else (none,st)
structure NI where
 af:List aZ
 order:Int
 down:Bool
 skip:Int
 aX:Int
def jE(st:RS):NI × RS:=
 let x:=gm (st.rest.length+1) [] st
 let o:=qS x.1.length x.2
 let s:=pV iZ 0 o.2
 let l:=pV gH (-1) s.2
 (⟨x.1,o.1.1,o.1.2,s.1,l.1⟩,l.2.bA (decide (6<x.1.length)))
def tG(have_:List bm)(st:RS):bm × RS:=
 let k:=cI st
 let v:=fq (-1000000000) 1000000000 (bG cD k.2)
 (⟨k.1,v.1⟩,v.2.bA (have_.any fun x=>jb x.key k.1))
def eu:Nat->List bm->RS->List bm × RS
 | 0,out,st=>(out,st)
 | n+1,out,st=>
  if st.bad then (out,st)
  else
   let x:=tG out st
   if !x.2.bad&&aO aN x.2 then eu n (out++[x.1]) (bz aN x.2) else (out++[x.1],x.2)
def mv(st:RS):(ByteArray × List bm) × RS:=
 let t:=fA (bG bO st)
 let p:=if aO dC t.2 then eu (st.rest.length+1) [] (bz dC t.2) else ([],t.2)
 let u:=if aO dC t.2 then bG iy p.2 else p.2
 ((t.1,p.1),(bG bN u).bA (decide (6<p.1.length)))
def By(st:RS):(ByteArray × ByteArray × ByteArray) × RS:=
 let n:=cI (bG bO (bG aW st))
 let t:=fA (bG jI (bG bN n.2))
 let o:=cI (bG bO (bG dy t.2))
 ((n.1,t.1,o.1),bG bN o.2)
def OC(st:RS):(ByteArray × ByteArray × gP) × RS:=
 let n:=cI st
 let k:=cI (bG eN n.2)
 let v:=gD (bG ze k.2)
 ((n.1,k.1,v.1),v.2)
def df(q:aI)(st:RS):aI × RS:=
 if aO bH st then
  let x:=jE (bz bH st)
  ({q with kind:=1,af:=x.1.af,order:=x.1.order,down:=x.1.down,skip:=x.1.skip,aX:=x.1.aX},x.2)
 else if aO fZ st then
  let x:=OC (bz fZ st)
  ({q with kind:=2,name:=x.1.1,key:=x.1.2.1,value:=x.1.2.2},x.2)
 else if aO bR st then
  let x:=cI (bz bR st)
  ({q with kind:=3,name:=x.1},x.2)
 else
  let x:=By st
  ({q with kind:=4,name:=x.1.1,type:=x.1.2.1,dest:=x.1.2.2},x.2)
def iS(st:RS):aI × RS:=
 if aO aW st then
  let x:=mv (bz aW st)
  ({aB with kind:=5,ai:=x.1.1,aj:=x.1.2},x.2)
 else if aO fl st then
  let x:=cI (bz fl st)
  ({aB with kind:=6,name:=x.1},x.2)
 else
  let m:=fE st
  let q:={aB with ah:=m.1.1,aq:=m.1.2}
  if m.2.bad then (q,m.2) else df q m.2
def dQ(ah:List aK)(name:ByteArray):Bool:=ah.any fun x=>jb x.name name
def Co(q:aI):List ByteArray:=
 (q.aq.flatMap fun c=>[c.a.name,c.b.name])++q.af.map (fun x=>x.name)++(if 2<=q.kind/\q.kind<=4 then [q.name,q.dest,q.value.name] else [])
def kK(q:aI):Bool:=
 ((Co q).all fun n=>n.toList.isEmpty || dQ q.ah n)&&(q.value.name.toList.isEmpty || jb q.value.name q.name)
def sF(ts:List Tok):aI × Int:=
 let x:=iS ⟨ts,false⟩
 if x.2.bad || !x.2.rest.isEmpty then (aB,3)
 else if kK x.1 then (x.1,0) else (aB,4)
def parseText(t:Option (List Tok)):aI × Int:=
 match t with
 | none=>(aB,3)
 | some ts=>sF ts
section
open Go.RowKit
theorem eL(c:Int)(w:World):Calls prog 46 #[.int .u8 c] w fun e w'=>e=.returned (.bool (eM c))/\w'=w:=by
 by_cases h1:97<=c<;>by_cases a:c<=122<;>by_cases b:65<=c<;>by_cases d:c<=90
 all_goals first|(exfalso;omega)|skip
 all_goals
  (first|rw[EO (by omega)]|rw[fO (by omega)])
  go_enter func46,ntmps46
  go_wp2
  go_ret;exact⟨rfl,rfl⟩
theorem gM(c:Int)(w:World):Calls prog 47 #[.int .u8 c] w fun e w'=>e=.returned (.bool (cm c))/\w'=w:=by
 by_cases h1:48<=c<;>by_cases a:c<=57
 all_goals first|(exfalso;omega)|skip
 all_goals
  (first|rw[oM (by omega)]|rw[lM (by omega)])
  go_enter func47,ntmps47
  go_wp2
  go_ret;exact⟨rfl,rfl⟩
theorem iD(c:Int)(w:World):Calls prog 158 #[.int .u8 c] w fun e w'=>e=.returned (.bool (eM c))/\w'=w:=by
 by_cases h1:97<=c<;>by_cases a:c<=122<;>by_cases b:65<=c<;>by_cases d:c<=90
 all_goals first|(exfalso;omega)|skip
 all_goals
  (first|rw[EO (by omega)]|rw[fO (by omega)])
  go_enter func158,ntmps158
  go_wp2
  go_ret;exact⟨rfl,rfl⟩
theorem isDigit(c:Int)(w:World):Calls prog 159 #[.int .u8 c] w fun e w'=>e=.returned (.bool (cm c))/\w'=w:=by
 by_cases h1:48<=c<;>by_cases a:c<=57
 all_goals first|(exfalso;omega)|skip
 all_goals
  (first|rw[oM (by omega)]|rw[lM (by omega)])
  go_enter func159,ntmps159
  go_wp2
  go_ret;exact⟨rfl,rfl⟩
end
theorem gz(s:ByteArray)(st:RS):(bz s st).rest.length<=st.rest.length:=by
 unfold bz;split
 ·simp[List.length_tail]
 ·exact rm _
theorem lh{st:RS}(h:aO s st=true):(bz s st).rest.length+1=st.rest.length:=by
 unfold bz;rw[a8 h];unfold aO at h;split at h
 ·cases h
 ·rename_i e;rw[e];simp
theorem pq(st:RS)(x:Bool):(st.bA x).rest=st.rest:=rfl
theorem iC(s:ByteArray)(st:RS):(bG s st).rest.length<=st.rest.length:=by
 unfold bG;rw[pq];exact gz s st
theorem rH(k:Int)(st:RS):(fX k st).2.rest.length<=st.rest.length:=by
 unfold fX;split
 ·simp[List.length_tail]
 ·exact rm _
theorem mT(st:RS):(cI st).2.rest.length<=st.rest.length:=rH 1 st
theorem pQ(st:RS):(fA st).2.rest.length<=st.rest.length:=rH 1 st
theorem sL(lo hi:Int)(st:RS):(fq lo hi st).2.rest.length<=st.rest.length:=rH 2 st
theorem rJ(x:aK)(st:RS):(iz x st).2.rest.length<=st.rest.length:=by
 unfold iz;simp only;refine r8 (iC _ _) ?_;have h1:=iC bO st;have a:=mT (bG bO st);split
 ·have b:=pQ (bz cD (cI (bG bO st)).2);have c:=gz cD (cI (bG bO st)).2;omega
 ·simp only;omega
theorem Kk(st:RS):(pU st).2.rest.length<=st.rest.length:=by
 unfold pU;split
 ·simp only;have h1:=gz eP st;have a:=sL 0 4 (bz eP st);have b:=iC lW (fq 0 4 (bz eP st)).2;have c:=sL (fq 0 4 (bz eP st)).1 4 (bG lW (fq 0 4 (bz eP st)).2);omega
 ·exact rm _
theorem oL(st:RS):(lV st).2.rest.length<=st.rest.length:=by
 unfold lV;simp only;refine r8 (rJ _ _) ?_;have h1:=pQ st;have a:=Kk (fA st).2;have b:=iC dy (pU (fA st).2).2;omega
theorem BI(n:Nat):∀(out:List aK) (st:RS),(da n out st).2.rest.length<=st.rest.length:=by
 induction n with
 | zero=>intro out st;exact rm _
 | succ n ih=>
  intro out st;simp only[da];split
  ·have h1:=ih (out++[(lV (bz jI st)).1]) (lV (bz jI st)).2;have a:=oL (bz jI st);have b:=gz jI st;omega
  ·exact rm _
theorem Ao(st:RS):(ie st).2.rest.length<=st.rest.length:=by
 unfold ie;exact r8 (BI _ _ _) (rJ _ _)
theorem AF(st:RS):(gD st).2.rest.length<=st.rest.length:=by
 unfold gD;split
 ·exact rH 2 st
 ·simp only;have h1:=mT st;have a:=iC eN (cI st).2;have b:=mT (bG eN (cI st).2);omega
def bl(s:ByteArray):List UInt8:=s.data.toList
def bP(n:Int):ByteArray:=⟨(Lib.itoa n).toArray⟩
def dF{α β:Type}(f:Bool->α->List β):Bool->List α->List β
 | _,[]=>[]
 | b,x::r=>f b x++dF f false r
def lY(t:gP):List ByteArray:=if t.name.toList.isEmpty then [bP t.val] else [t.name,eN,t.key]
def wZ(s:aK):List ByteArray:=[jI,s.type]++((if s.least=1/\s.bq=1 then [] else [eP,bP s.least,lW,bP s.bq])++[dy])
def rZ(s:aK):List ByteArray:=[bO,s.name]++((if s.ai.toList.isEmpty then [] else [cD,s.ai])++[bN])
def mH(first:Bool)(s:aK):List ByteArray:=(if s.type.toList.isEmpty then (if first then [] else [aN]) else wZ s)++rZ s
def pS(op:Int):ByteArray:=if op=1 then ze else if op=2 then Lg else if op=3 then Lj else if op=4 then Le else if op=5 then Lf else if op=6 then Ld else e0
def Jq(c:bW):List ByteArray:=if c.op=7 then [oZ,jM] else if c.op=8 then [oZ,ku,jM] else pS c.op::lY c.b
def zv(first:Bool)(c:bW):List ByteArray:=(if first then eD else oF)::(lY c.a++Jq c)
def Fm(q:aI):List ByteArray:=dK::(dF mH true q.ah++dF zv true q.aq)
def Jx(x:aZ):List ByteArray:=if x.name.toList.isEmpty then [iw] else if x.key.toList.isEmpty then [x.name] else [x.name,eN,x.key]
def AK(first:Bool)(x:aZ):List ByteArray:=(if first then [] else [aN])++Jx x
def xu(q:aI):List ByteArray:=if q.order=0 then [] else [eC,L8,bP q.order]++(if q.down then [kV] else [])
def Dg(q:aI):List ByteArray:=if q.skip=0 then [] else [iZ,bP q.skip]
def wY(q:aI):List ByteArray:=if q.aX=-1 then [] else [gH,bP q.aX]
def Br(q:aI):List ByteArray:=xu q++(Dg q++wY q)
def Qd(q:aI):List ByteArray:=bH::(dF AK true q.af++Br q)
def DH(first:Bool)(p:bm):List ByteArray:=(if first then [] else [aN])++[p.key,cD,bP p.val]
def xo(q:aI):List ByteArray:=[aW,bO,q.ai]++((if q.aj.isEmpty then [] else dC::(dF DH true q.aj++[iy]))++[bN])
def vh(q:aI):List ByteArray:=
 if q.kind=1 then Qd q else if q.kind=2 then [fZ,q.name,eN,q.key,ze]++lY q.value else if q.kind=3 then [bR,q.name]
 else if q.kind=4 then [aW,bO,q.name,bN,jI,q.type,dy,bO,q.dest,bN] else []
def pw(q:aI):List ByteArray:=if q.kind=6 then [fl,q.name] else if q.kind=5 then xo q else Fm q++vh q
section
open Go.RowKit Go.Maps
abbrev bF:=Int × ByteArray × ByteArray
def vN(r:bF):Value:=.agg #[.int .i64 r.1,.string r.2.1,.string r.2.2]
def G5(r:bF):Lit:=.string (keyBytes [.int .i64 r.1,.string r.2.1.data.toList,.string r.2.2.data.toList])
def N9(r:bF):Prop:=(Lit.int .i64 r.1).wf=true/\r.2.1.size<=maxLen/\r.2.2.size<=maxLen
theorem Nx:prog.keyType 177=true:=by kernel_rfl
theorem Fj:prog.keyTypeAt 3 177=true:=by kernel_rfl
theorem Q0:prog.tiled 3 177=true:=by kernel_rfl
theorem Ng:prog.cellsOf 177=3:=by kernel_rfl
theorem NO:prog.cellsOf 175=1:=by kernel_rfl
theorem RX:prog.cellsOf 9=1:=by kernel_rfl
theorem La:∃m,prog.types.size=m+1:=by
 have h:(prog.types.size==0)=false:=by kernel_rfl
 cases e:prog.types.size with
 | zero=>rw[e] at h;cases h
 | succ m=>exact⟨m,rfl⟩
theorem Px:Keyed prog 177:=Keyed.of_law (deep_law (m:=3) (Rf rfl) Fj Q0 (by rw[underlying177]))
theorem MK{r:bF}(h:N9 r):keyOf prog 177 (vN r)=some (G5 r):=by
 obtain⟨v,a,b⟩:=r;obtain⟨f,c,d⟩:=h;obtain⟨m,hm⟩:=La;have i:(vN (v,a,b)).formed prog 177=true:=by simp[vN,Value.formed,underlying177,Ng]
 unfold keyOf;rw[underlying177];simp only[Nx,i,F9,if_true,hm];have g:(vN (v,a,b)).cells.toList=[.int .i64 v,.string a,.string b]:=rfl;rw[g];simp only at f c d;simp[Program.keyLits,underlying177,underlying175,underlying9,Ng,NO,RX,f,c,d,G5]
theorem Mz{r s:bF}(f:N9 r)(g:N9 s)(h:G5 r=G5 s):r=s:=by
 have:=Px.inj (MK f) (by rw[h];exact MK g);obtain⟨v,a,b⟩:=r;obtain⟨j,i,b'⟩:=s;simp only[vN,Value.agg.injEq] at this;injection this with this
 injection this with h1 c
 injection c with c d
 injection d with d _
 injection h1 with _ h1
 injection c with c
 injection d with d
 subst h1 c d
 rfl
def dl(W:World)(b n:Nat)(S:bF->Bool):Prop:=∃D:DataW Unit,W.ownsMap prog 177 unitElem b n D/\∀r,N9 r->Maps.has D (G5 r)=S r
theorem PD(w:World):(zeroValue 189).run prog w=.ok (.agg #[]) w:=by kernel_rfl
theorem Pu{S:bF->Bool}{nm:ByteArray}{r:bF}(h:dl W b n S)(g:N9 r):
  Calls prog 89 #[.agg #[.string nm,.map (some b)],vN r] W fun e W'=>e=.returned (.bool (S r))/\Below W.heap.size W W':=by
 obtain⟨D,j,i⟩:=h;obtain⟨v,a,c⟩:=r;unfold vN;have k:=i _ g;go_enter func89,ntmps89
 go_wp2_with (at_lookup;refine wpList_lookup_own_unit _ rfl _ _ 102 rfl 177 189 Px underlying102 (PD _) b n D rfl ((j.alloc _).alloc _) _ _ rfl (MK g) ?_;rw[k])
 go_ret;refine⟨rfl,?_⟩;have d:=(r5 W.heap.size W).alloc (rm _) (Obj.cells #[Value.string nm,Value.map (some b)] 104);have f:=d.alloc d.size (Obj.cells #[Value.int .i64 v,Value.string a,Value.string c] 177);exact f.alloc f.size _
end
section
open Go Go.RowKit
theorem aV{T:TypeId}(h:w.ownsRow B T k v n xs):∃ao cap,v=.slice ao n cap:=by
 rcases h.2 with ⟨a,b⟩|⟨g,cap,c,a,_⟩
 ·exact⟨none,0,by rw[a,b]⟩
 ·exact⟨_,cap,a⟩
end
section
open Go.RowKit
def sE(W:World)(b:Nat)(s:ByteArray)(f a:Int)(lv:Value):Prop:=
 W.heap[b]?=some (.cells #[.string s,.int .i64 f,.int .i64 a,lv] 219 (0,0))
structure Inv(w0:World)(b:Nat)(s:ByteArray)(f a:Int)(acc:List Tok)(W:World):Prop where
 below:Below w0.heap.size w0 W
 Qv:w0.heap.size<=b
 cut:∃lv,sE W b s f a lv/\W.ownsRow w0.heap.size 115 3 lv acc.length (dO acc)
theorem sE.lt(h:sE W b s f a lv):b<W.heap.size:=lt_of_block h
theorem sE.cells(h:sE W b s f a lv):
  W.cell? ⟨b,0,none⟩=some (.string s)/\W.cell? ⟨b,1,none⟩=some (.int .i64 f)/\W.cell? ⟨b,2,none⟩=some (.int .i64 a)/\W.cell? ⟨b,3,none⟩=some lv:=by
 unfold sE at h;refine⟨?_,?_,?_,?_⟩<;>simp[World.cell?,h]
theorem sE.free(h:sE W b s f a lv)(j:Nat):W.frozen? ⟨b,j,none⟩=false:=by
 unfold sE at h;simp[World.frozen?,h]
theorem mm{j:Nat}{cs:Array Value}{t:TypeId}{u:Value}(h:w.heap[b]?=some (.cells cs t (0,0))):(w.setCell ⟨b,j,none⟩ u).heap[b]?=some (.cells (cs.setIfInBounds j u) t (0,0)):=by
 simp[World.setCell,Array.getElem?_modify,h]
theorem sE.setAt(h:sE W b s f a lv)(c:Int):sE (W.setCell ⟨b,2,none⟩ (.int .i64 c)) b s f c lv:=mm h
theorem sE.BN(h:sE W b s f a lv)(c:Int):sE (W.setCell ⟨b,1,none⟩ (.int .i64 c)) b s c a lv:=mm h
theorem sE.OM(h:sE W b s f a lv)(c:Value):sE (W.setCell ⟨b,3,none⟩ c) b s f a c:=mm h
theorem sE.old{c:World}(h:sE W b s f a lv)(d:Below W.heap.size W c):sE c b s f a lv:=by
 unfold sE;rw[d.block b h.lt];exact h
theorem sE.ne(h:sE W b s f a lv)(d:W.ownsRow B 115 3 v n xs):v.ownBlock≠some b:=by
 intro he;rcases d.2 with ⟨rfl,_⟩|⟨g,cap,i,rfl,j,c,_⟩
 ·simp[Value.ownBlock] at he
 ·simp[Value.ownBlock] at he;subst he;unfold sE at h;rw[c] at h;simp at h
theorem Inv.drew{acc:List Tok}(h:Inv w0 b s f a acc W)(n:Nat):Inv w0 b s f a acc (W.drewN n):=
 ⟨below_drewN h.below n,h.Qv,h.cut⟩
theorem Inv.old{g W d:World}{b:Nat}{s:ByteArray}{f a:Int}{acc:List Tok}(h:Inv g b s f a acc W)(c:Below W.heap.size W d):Inv g b s f a acc d:=by
 obtain⟨k,j,i⟩:=h.cut;exact⟨h.below.trans (c.mono h.below.size),h.Qv,k,j.old c,vK i c⟩
theorem Inv.setAt{i W:World}{b:Nat}{s:ByteArray}{f a:Int}{acc:List Tok}(h:Inv i b s f a acc W)(c:Int):Inv i b s f c acc (W.setCell ⟨b,2,none⟩ (.int .i64 c)):=by
 obtain⟨j,g,d⟩:=h.cut;exact⟨h.below.setCell h.Qv _,h.Qv,j,g.setAt c,ownsRow_setCell_other d (g.ne d) _⟩
theorem Inv.BN{i W:World}{b:Nat}{s:ByteArray}{f a:Int}{acc:List Tok}(h:Inv i b s f a acc W)(c:Int):Inv i b s c a acc (W.setCell ⟨b,1,none⟩ (.int .i64 c)):=by
 obtain⟨j,g,d⟩:=h.cut;exact⟨h.below.setCell h.Qv _,h.Qv,j,g.BN c,ownsRow_setCell_other d (g.ne d) _⟩
theorem Inv.alloc{c W:World}{b:Nat}{s:ByteArray}{f a:Int}{acc:List Tok}(h:Inv c b s f a acc W)(o:Obj):Inv c b s f a acc (W.alloc o):=
 h.old ((r5 _ _).alloc (rm _) o)
def uA(n:Nat):ByteArray:=⟨#[UInt8.ofNat (n % 256),UInt8.ofNat (n / 256 % 256),UInt8.ofNat (n / 65536 % 256),UInt8.ofNat (n / 16777216 % 256)]⟩
theorem AN(w:World){a c d:Nat}(f:a<256)(g:b<256)(h:c<256)(i:d<256):(convert 101 9 (.slice (some ⟨w.heap.size,0,none⟩) 4 4)).run prog (w.alloc (.cells #[.int .u8 (a:Int),.int .u8 (b:Int),.int .u8 (c:Int),.int .u8 (d:Int)] 5))=.ok (.string ⟨#[UInt8.ofNat a,UInt8.ofNat b,UInt8.ofNat c,UInt8.ofNat d]⟩) (w.alloc (.cells #[.int .u8 (a:Int),.int .u8 (b:Int),.int .u8 (c:Int),.int .u8 (d:Int)] 5)):=by
 refine run_convert_bytes_back (P:=prog) (w.alloc (.cells #[.int .u8 (a:Int),.int .u8 (b:Int),.int .u8 (c:Int),.int .u8 (d:Int)] 5)) 101 9 5 ⟨w.heap.size,0,none⟩ 4 [UInt8.ofNat a,UInt8.ofNat b,UInt8.ofNat c,UInt8.ofNat d] underlying101 underlying5 underlying9 (fun j hj=>?_);have hu:∀{x:Nat},x<256->((UInt8.ofNat x).toNat:Int)=(x:Int):=fun {x} hx=>by simp[UInt8.toNat_ofNat'];omega
 have hm:=World.cell?_alloc_mark w #[.int .u8 (a:Int),.int .u8 (b:Int),.int .u8 (c:Int),.int .u8 (d:Int)] 5 (0,0)
 match j,hj with
 | 0,_=>simp only[r9];rw[hu f];exact hm 0
 | 1,_=>simp only[tk,r9];rw[hu g];exact hm 1
 | 2,_=>simp only[tk,r9];rw[hu h];exact hm 2
 | 3,_=>simp only[tk,r9];rw[hu i];exact hm 3
end
end Go.Proofs.YtbfmmmjkjhjleaaGreatDoor
