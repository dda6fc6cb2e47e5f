/- Mine. -/
import Derived.Test.YtbfmmmjkjhjleaaGreatDoorC04
import Derived.Test.YtbfmmmjkjhjleaaGreatDoorC03
set_option maxRecDepth 100000
set_option maxHeartbeats 0
namespace Go.Proofs.YtbfmmmjkjhjleaaGreatDoor
open Go.Proofs.Tryz
variable {s:ByteArray} {G b:Nat} {st:RS} {W w:World} {t:Tok}
section
open Go.RowKit
theorem Me(h:1<=s.size):s.toList.isEmpty=false:=by
 rw[ByteArray.toList_eq];have:s.data.toList.length=s.size:=dd s;cases b:s.data.toList with
 | nil=>rw[b] at this;simp at this;omega
 | cons a l=>rfl
theorem JI(h:¬1<=s.size):s.toList.isEmpty=true:=by
 rw[ByteArray.toList_eq];have:s.data.toList.length=s.size:=dd s;cases b:s.data.toList with
 | nil=>rfl
 | cons a l=>rw[b] at this;simp at this;omega
theorem fz(s:ByteArray)(w:World):Calls prog 115 #[.string s] w fun e w'=>e=.returned (.bool (isWord s))/\w'=w:=by
 by_cases h1:1<=s.size
 ·have p:=Me h1;by_cases t:s.size<=8
  ·have m:0<s.size:=h1;have n:¬(8:Int)<(s.size:Int):=by omega
   cases f:eM ((s[0]'m).toNat:Int) with
   | true=>
    have q:qv (isWord s=decide (∀j,j<s.size->fR (bt s j)=true)):=AX h1 t (by rw[<-bX m];exact f);go_enter func115,ntmps115
    go_wp2_with (first|(go_at_call 158;refine(iD _ _).mono ?_;rintro e w' ⟨rfl,rfl⟩)|(go_at_call 159;refine(isDigit _ _).mono ?_;rintro e w' ⟨rfl,rfl⟩))
    clear f
    go_loop [19] (fun i=>∃k:Nat,k<=s.size/\i=.int .i64 k/\∀j,j<k->fR (bt s j)=true) (fun i=>s.size - (intOf i).toNat)
    case atStart=>exact⟨0,by omega,rfl,fun j g=>absurd g (by omega)⟩
    case round=>
     obtain⟨k,hk,rfl,a⟩:=hrel;have l:=p9 a;clear a;by_cases b:k<s.size
     ·cases f:eM ((s[k]'b).toNat:Int) with
      | true=>
       have d:qv (∀j,j<k+1->fR (bt s j)=true):=by
        intro j g;by_cases e:j=k
        ·subst e;rw[<-bX b];unfold fR;rw[f];rfl
        ·exact l.o j (by omega)
       go_wp2_with (first|(go_at_call 158;refine(iD _ _).mono ?_;rintro e w' ⟨rfl,rfl⟩)|(go_at_call 159;refine(isDigit _ _).mono ?_;rintro e w' ⟨rfl,rfl⟩))
       go_round
       case rel=>exact⟨k+1,by omega,by go_num,d.o⟩
       case measure=>simp[intOf];omega
      | false=>
       cases r:cm ((s[k]'b).toNat:Int) with
       | true=>
        have d:qv (∀j,j<k+1->fR (bt s j)=true):=by
         intro j g;by_cases e:j=k
         ·subst e;rw[<-bX b];unfold fR;rw[f,r];rfl
         ·exact l.o j (by omega)
        go_wp2_with (first|(go_at_call 158;refine(iD _ _).mono ?_;rintro e w' ⟨rfl,rfl⟩)|(go_at_call 159;refine(isDigit _ _).mono ?_;rintro e w' ⟨rfl,rfl⟩))
        go_round
        case rel=>exact⟨k+1,by omega,by go_num,d.o⟩
        case measure=>simp[intOf];omega
       | false=>
        have c:qv (isWord s=false):=by
         show _=_;rw[q.o];apply decide_eq_false;intro a;have:=a k b;rw[<-bX b] at this;unfold fR at this;rw[f,r] at this;cases this
        go_wp2_with (first|(go_at_call 158;refine(iD _ _).mono ?_;rintro e w' ⟨rfl,rfl⟩)|(go_at_call 159;refine(isDigit _ _).mono ?_;rintro e w' ⟨rfl,rfl⟩))
        go_ret;exact⟨dW c.o.symm,rfl⟩
     ·have c:qv (isWord s=true):=by
       show _=_;rw[q.o];apply decide_eq_true;intro j g;exact l.o j (by omega)
      go_wp2
      go_ret;exact⟨dW c.o.symm,rfl⟩
   | false=>
    have c:qv (isWord s=false):=kh (by rintro ⟨_,_,h⟩;rw[<-bX m,f] at h;cases h);go_enter func115,ntmps115
    go_wp2_with (first|(go_at_call 158;refine(iD _ _).mono ?_;rintro e w' ⟨rfl,rfl⟩)|(go_at_call 159;refine(isDigit _ _).mono ?_;rintro e w' ⟨rfl,rfl⟩))
    go_ret;exact⟨dW c.o.symm,rfl⟩
  ·have c:qv (isWord s=false):=kh (by omega);have n:(8:Int)<(s.size:Int):=by omega
   go_enter func115,ntmps115
   go_wp2_with (first|(go_at_call 158;refine(iD _ _).mono ?_;rintro e w' ⟨rfl,rfl⟩)|(go_at_call 159;refine(isDigit _ _).mono ?_;rintro e w' ⟨rfl,rfl⟩))
   go_ret;exact⟨dW c.o.symm,rfl⟩
 ·have c:qv (isWord s=false):=kh (by omega);have p:=JI h1;go_enter func115,ntmps115
  go_wp2_with (first|(go_at_call 158;refine(iD _ _).mono ?_;rintro e w' ⟨rfl,rfl⟩)|(go_at_call 159;refine(isDigit _ _).mono ?_;rintro e w' ⟨rfl,rfl⟩))
  go_ret;exact⟨dW c.o.symm,rfl⟩
def bM(s:ByteArray):Int:=if isWord s then (if 97<=bt s 0 then 1 else if dU s then 3 else 2) else 0
theorem BB(h:isWord s=true):1<=s.size/\eM (bt s 0)=true:=by
 unfold isWord at h;simp only[wa,decide_eq_true_eq] at h;exact⟨h.1.1.1,h.1.2⟩
theorem M2(s:ByteArray):nU s=if bM s=1 then 1 else if bM s=2 then 2 else 3:=by
 unfold nU bM bB bI;cases hw:isWord s with
 | false=>simp
 | true=>
  by_cases b:97<=bt s 0
  ·simp[b]
  ·have a:bt s 0<97:=by omega
   cases hk:dU s<;>simp[b,a]
theorem Nb(w:World)(a:qv (isWord s=false)):Calls prog 71 #[.string s] w fun e w'=>e=.returned (.int .i64 0)/\w'=w:=by
 go_enter func71,ntmps71
 go_wp2_with (go_at_call 115;refine(fz _ _).mono ?_;rintro e w' ⟨rfl,rfl⟩;rw[a.o])
 go_ret;exact⟨rfl,rfl⟩
theorem Fo(w:World)(b:qv (isWord s=true))(a:0<s.size)(c:(97:Int)<=((s[0]'a).toNat:Int))(d:((s[0]'a).toNat:Int)<=122):Calls prog 71 #[.string s] w fun e w'=>e=.returned (.int .i64 1)/\w'=w:=by
 go_enter func71,ntmps71
 go_wp2_with (go_at_call 115;refine(fz _ _).mono ?_;rintro e w' ⟨rfl,rfl⟩;rw[b.o])
 go_ret;exact⟨rfl,rfl⟩
theorem GY(w:World)(b:qv (isWord s=true))(a:0<s.size)(d:¬(97:Int)<=((s[0]'a).toNat:Int))(c:(s.toList==[77,65,84,67,72])=true):Calls prog 71 #[.string s] w fun e w'=>e=.returned (.int .i64 3)/\w'=w:=by
 go_enter func71,ntmps71
 go_wp2_with (go_at_call 115;refine(fz _ _).mono ?_;rintro e w' ⟨rfl,rfl⟩;rw[b.o])
 go_ret;exact⟨rfl,rfl⟩
theorem FH(w:World)(b:qv (isWord s=true))(a:0<s.size)(d:¬(97:Int)<=((s[0]'a).toNat:Int))(c:(s.toList==[77,65,84,67,72])=false)(h1:(s.toList==[87,72,69,82,69])=true):Calls prog 71 #[.string s] w fun e w'=>e=.returned (.int .i64 3)/\w'=w:=by
 go_enter func71,ntmps71
 go_wp2_with (go_at_call 115;refine(fz _ _).mono ?_;rintro e w' ⟨rfl,rfl⟩;rw[b.o])
 go_ret;exact⟨rfl,rfl⟩
theorem FV(w:World)(b:qv (isWord s=true))(a:0<s.size)(f:¬(97:Int)<=((s[0]'a).toNat:Int))(c:(s.toList==[77,65,84,67,72])=false)(h1:(s.toList==[87,72,69,82,69])=false)(d:(s.toList==[65,78,68])=true):Calls prog 71 #[.string s] w fun e w'=>e=.returned (.int .i64 3)/\w'=w:=by
 go_enter func71,ntmps71
 go_wp2_with (go_at_call 115;refine(fz _ _).mono ?_;rintro e w' ⟨rfl,rfl⟩;rw[b.o])
 go_ret;exact⟨rfl,rfl⟩
theorem Gg(w:World)(b:qv (isWord s=true))(a:0<s.size)(g:¬(97:Int)<=((s[0]'a).toNat:Int))(c:(s.toList==[77,65,84,67,72])=false)(h1:(s.toList==[87,72,69,82,69])=false)(d:(s.toList==[65,78,68])=false)(f:(s.toList==[82,69,84,85,82,78])=true):Calls prog 71 #[.string s] w fun e w'=>e=.returned (.int .i64 3)/\w'=w:=by
 go_enter func71,ntmps71
 go_wp2_with (go_at_call 115;refine(fz _ _).mono ?_;rintro e w' ⟨rfl,rfl⟩;rw[b.o])
 go_ret;exact⟨rfl,rfl⟩
theorem Gn(w:World)(b:qv (isWord s=true))(a:0<s.size)(h:¬(97:Int)<=((s[0]'a).toNat:Int))(c:(s.toList==[77,65,84,67,72])=false)(h1:(s.toList==[87,72,69,82,69])=false)(d:(s.toList==[65,78,68])=false)(f:(s.toList==[82,69,84,85,82,78])=false)(g:(s.toList==[79,82,68,69,82])=true):Calls prog 71 #[.string s] w fun e w'=>e=.returned (.int .i64 3)/\w'=w:=by
 go_enter func71,ntmps71
 go_wp2_with (go_at_call 115;refine(fz _ _).mono ?_;rintro e w' ⟨rfl,rfl⟩;rw[b.o])
 go_ret;exact⟨rfl,rfl⟩
theorem FF(w:World)(b:qv (isWord s=true))(a:0<s.size)(i:¬(97:Int)<=((s[0]'a).toNat:Int))(c:(s.toList==[77,65,84,67,72])=false)(h1:(s.toList==[87,72,69,82,69])=false)(d:(s.toList==[65,78,68])=false)(f:(s.toList==[82,69,84,85,82,78])=false)(g:(s.toList==[79,82,68,69,82])=false)(h:(s.toList==[66,89])=true):Calls prog 71 #[.string s] w fun e w'=>e=.returned (.int .i64 3)/\w'=w:=by
 go_enter func71,ntmps71
 go_wp2_with (go_at_call 115;refine(fz _ _).mono ?_;rintro e w' ⟨rfl,rfl⟩;rw[b.o])
 go_ret;exact⟨rfl,rfl⟩
theorem Fh(w:World)(b:qv (isWord s=true))(a:0<s.size)(j:¬(97:Int)<=((s[0]'a).toNat:Int))(c:(s.toList==[77,65,84,67,72])=false)(h1:(s.toList==[87,72,69,82,69])=false)(d:(s.toList==[65,78,68])=false)(f:(s.toList==[82,69,84,85,82,78])=false)(g:(s.toList==[79,82,68,69,82])=false)(h:(s.toList==[66,89])=false)(i:(s.toList==[68,69,83,67])=true):Calls prog 71 #[.string s] w fun e w'=>e=.returned (.int .i64 3)/\w'=w:=by
 go_enter func71,ntmps71
 go_wp2_with (go_at_call 115;refine(fz _ _).mono ?_;rintro e w' ⟨rfl,rfl⟩;rw[b.o])
 go_ret;exact⟨rfl,rfl⟩
theorem Gc(w:World)(b:qv (isWord s=true))(a:0<s.size)(k:¬(97:Int)<=((s[0]'a).toNat:Int))(c:(s.toList==[77,65,84,67,72])=false)(h1:(s.toList==[87,72,69,82,69])=false)(d:(s.toList==[65,78,68])=false)(f:(s.toList==[82,69,84,85,82,78])=false)(g:(s.toList==[79,82,68,69,82])=false)(h:(s.toList==[66,89])=false)(i:(s.toList==[68,69,83,67])=false)(j:(s.toList==[83,75,73,80])=true):Calls prog 71 #[.string s] w fun e w'=>e=.returned (.int .i64 3)/\w'=w:=by
 go_enter func71,ntmps71
 go_wp2_with (go_at_call 115;refine(fz _ _).mono ?_;rintro e w' ⟨rfl,rfl⟩;rw[b.o])
 go_ret;exact⟨rfl,rfl⟩
theorem Gv(w:World)(b:qv (isWord s=true))(a:0<s.size)(l:¬(97:Int)<=((s[0]'a).toNat:Int))(c:(s.toList==[77,65,84,67,72])=false)(h1:(s.toList==[87,72,69,82,69])=false)(d:(s.toList==[65,78,68])=false)(f:(s.toList==[82,69,84,85,82,78])=false)(g:(s.toList==[79,82,68,69,82])=false)(h:(s.toList==[66,89])=false)(i:(s.toList==[68,69,83,67])=false)(j:(s.toList==[83,75,73,80])=false)(k:(s.toList==[76,73,77,73,84])=true):Calls prog 71 #[.string s] w fun e w'=>e=.returned (.int .i64 3)/\w'=w:=by
 go_enter func71,ntmps71
 go_wp2_with (go_at_call 115;refine(fz _ _).mono ?_;rintro e w' ⟨rfl,rfl⟩;rw[b.o])
 go_ret;exact⟨rfl,rfl⟩
theorem Fl(w:World)(b:qv (isWord s=true))(a:0<s.size)(m:¬(97:Int)<=((s[0]'a).toNat:Int))(c:(s.toList==[77,65,84,67,72])=false)(h1:(s.toList==[87,72,69,82,69])=false)(d:(s.toList==[65,78,68])=false)(f:(s.toList==[82,69,84,85,82,78])=false)(g:(s.toList==[79,82,68,69,82])=false)(h:(s.toList==[66,89])=false)(i:(s.toList==[68,69,83,67])=false)(j:(s.toList==[83,75,73,80])=false)(k:(s.toList==[76,73,77,73,84])=false)(l:(s.toList==[83,69,84])=true):Calls prog 71 #[.string s] w fun e w'=>e=.returned (.int .i64 3)/\w'=w:=by
 go_enter func71,ntmps71
 go_wp2_with (go_at_call 115;refine(fz _ _).mono ?_;rintro e w' ⟨rfl,rfl⟩;rw[b.o])
 go_ret;exact⟨rfl,rfl⟩
theorem D9(w:World)(b:qv (isWord s=true))(a:0<s.size)(n:¬(97:Int)<=((s[0]'a).toNat:Int))(d:(s.toList==[77,65,84,67,72])=false)(h1:(s.toList==[87,72,69,82,69])=false)(f:(s.toList==[65,78,68])=false)(g:(s.toList==[82,69,84,85,82,78])=false)(h:(s.toList==[79,82,68,69,82])=false)(i:(s.toList==[66,89])=false)(j:(s.toList==[68,69,83,67])=false)(k:(s.toList==[83,75,73,80])=false)(l:(s.toList==[76,73,77,73,84])=false)(m:(s.toList==[83,69,84])=false)(c:(s.toList==[68,69,76,69,84,69])=true):Calls prog 71 #[.string s] w fun e w'=>e=.returned (.int .i64 3)/\w'=w:=by
 go_enter func71,ntmps71
 go_wp2_with (go_at_call 115;refine(fz _ _).mono ?_;rintro e w' ⟨rfl,rfl⟩;rw[b.o])
 go_ret;exact⟨rfl,rfl⟩
theorem DF(w:World)(b:qv (isWord s=true))(a:0<s.size)(p:¬(97:Int)<=((s[0]'a).toNat:Int))(f:(s.toList==[77,65,84,67,72])=false)(h1:(s.toList==[87,72,69,82,69])=false)(g:(s.toList==[65,78,68])=false)(h:(s.toList==[82,69,84,85,82,78])=false)(i:(s.toList==[79,82,68,69,82])=false)(j:(s.toList==[66,89])=false)(k:(s.toList==[68,69,83,67])=false)(l:(s.toList==[83,75,73,80])=false)(m:(s.toList==[76,73,77,73,84])=false)(n:(s.toList==[83,69,84])=false)(c:(s.toList==[68,69,76,69,84,69])=false)(d:(s.toList==[67,82,69,65,84,69])=true):Calls prog 71 #[.string s] w fun e w'=>e=.returned (.int .i64 3)/\w'=w:=by
 go_enter func71,ntmps71
 go_wp2_with (go_at_call 115;refine(fz _ _).mono ?_;rintro e w' ⟨rfl,rfl⟩;rw[b.o])
 go_ret;exact⟨rfl,rfl⟩
theorem Dt(w:World)(b:qv (isWord s=true))(a:0<s.size)(q:¬(97:Int)<=((s[0]'a).toNat:Int))(g:(s.toList==[77,65,84,67,72])=false)(h1:(s.toList==[87,72,69,82,69])=false)(h:(s.toList==[65,78,68])=false)(i:(s.toList==[82,69,84,85,82,78])=false)(j:(s.toList==[79,82,68,69,82])=false)(k:(s.toList==[66,89])=false)(l:(s.toList==[68,69,83,67])=false)(m:(s.toList==[83,75,73,80])=false)(n:(s.toList==[76,73,77,73,84])=false)(p:(s.toList==[83,69,84])=false)(c:(s.toList==[68,69,76,69,84,69])=false)(d:(s.toList==[67,82,69,65,84,69])=false)(f:(s.toList==[67,65,76,76])=true):Calls prog 71 #[.string s] w fun e w'=>e=.returned (.int .i64 3)/\w'=w:=by
 go_enter func71,ntmps71
 go_wp2_with (go_at_call 115;refine(fz _ _).mono ?_;rintro e w' ⟨rfl,rfl⟩;rw[b.o])
 go_ret;exact⟨rfl,rfl⟩
theorem EI(w:World)(b:qv (isWord s=true))(a:0<s.size)(r:¬(97:Int)<=((s[0]'a).toNat:Int))(h:(s.toList==[77,65,84,67,72])=false)(h1:(s.toList==[87,72,69,82,69])=false)(i:(s.toList==[65,78,68])=false)(j:(s.toList==[82,69,84,85,82,78])=false)(k:(s.toList==[79,82,68,69,82])=false)(l:(s.toList==[66,89])=false)(m:(s.toList==[68,69,83,67])=false)(n:(s.toList==[83,75,73,80])=false)(p:(s.toList==[76,73,77,73,84])=false)(q:(s.toList==[83,69,84])=false)(c:(s.toList==[68,69,76,69,84,69])=false)(d:(s.toList==[67,82,69,65,84,69])=false)(f:(s.toList==[67,65,76,76])=false)(g:(s.toList==[73,83])=true):Calls prog 71 #[.string s] w fun e w'=>e=.returned (.int .i64 3)/\w'=w:=by
 go_enter func71,ntmps71
 go_wp2_with (go_at_call 115;refine(fz _ _).mono ?_;rintro e w' ⟨rfl,rfl⟩;rw[b.o])
 go_ret;exact⟨rfl,rfl⟩
theorem DV(w:World)(b:qv (isWord s=true))(a:0<s.size)(t:¬(97:Int)<=((s[0]'a).toNat:Int))(i:(s.toList==[77,65,84,67,72])=false)(h1:(s.toList==[87,72,69,82,69])=false)(j:(s.toList==[65,78,68])=false)(k:(s.toList==[82,69,84,85,82,78])=false)(l:(s.toList==[79,82,68,69,82])=false)(m:(s.toList==[66,89])=false)(n:(s.toList==[68,69,83,67])=false)(p:(s.toList==[83,75,73,80])=false)(q:(s.toList==[76,73,77,73,84])=false)(r:(s.toList==[83,69,84])=false)(c:(s.toList==[68,69,76,69,84,69])=false)(d:(s.toList==[67,82,69,65,84,69])=false)(f:(s.toList==[67,65,76,76])=false)(g:(s.toList==[73,83])=false)(h:(s.toList==[78,79,84])=true):Calls prog 71 #[.string s] w fun e w'=>e=.returned (.int .i64 3)/\w'=w:=by
 go_enter func71,ntmps71
 go_wp2_with (go_at_call 115;refine(fz _ _).mono ?_;rintro e w' ⟨rfl,rfl⟩;rw[b.o])
 go_ret;exact⟨rfl,rfl⟩
theorem C0(w:World)(b:qv (isWord s=true))(a:0<s.size)(u:¬(97:Int)<=((s[0]'a).toNat:Int))(j:(s.toList==[77,65,84,67,72])=false)(h1:(s.toList==[87,72,69,82,69])=false)(k:(s.toList==[65,78,68])=false)(l:(s.toList==[82,69,84,85,82,78])=false)(m:(s.toList==[79,82,68,69,82])=false)(n:(s.toList==[66,89])=false)(p:(s.toList==[68,69,83,67])=false)(q:(s.toList==[83,75,73,80])=false)(r:(s.toList==[76,73,77,73,84])=false)(t:(s.toList==[83,69,84])=false)(c:(s.toList==[68,69,76,69,84,69])=false)(d:(s.toList==[67,82,69,65,84,69])=false)(f:(s.toList==[67,65,76,76])=false)(g:(s.toList==[73,83])=false)(h:(s.toList==[78,79,84])=false)(i:(s.toList==[78,85,76,76])=true):Calls prog 71 #[.string s] w fun e w'=>e=.returned (.int .i64 3)/\w'=w:=by
 go_enter func71,ntmps71
 go_wp2_with (go_at_call 115;refine(fz _ _).mono ?_;rintro e w' ⟨rfl,rfl⟩;rw[b.o])
 go_ret;exact⟨rfl,rfl⟩
theorem DM(w:World)(b:qv (isWord s=true))(a:0<s.size)(v:¬(97:Int)<=((s[0]'a).toNat:Int))(k:(s.toList==[77,65,84,67,72])=false)(h1:(s.toList==[87,72,69,82,69])=false)(l:(s.toList==[65,78,68])=false)(m:(s.toList==[82,69,84,85,82,78])=false)(n:(s.toList==[79,82,68,69,82])=false)(p:(s.toList==[66,89])=false)(q:(s.toList==[68,69,83,67])=false)(r:(s.toList==[83,75,73,80])=false)(t:(s.toList==[76,73,77,73,84])=false)(u:(s.toList==[83,69,84])=false)(c:(s.toList==[68,69,76,69,84,69])=false)(d:(s.toList==[67,82,69,65,84,69])=false)(f:(s.toList==[67,65,76,76])=false)(g:(s.toList==[73,83])=false)(h:(s.toList==[78,79,84])=false)(i:(s.toList==[78,85,76,76])=false)(j:(s.toList==[67,79,85,78,84])=true):Calls prog 71 #[.string s] w fun e w'=>e=.returned (.int .i64 3)/\w'=w:=by
 go_enter func71,ntmps71
 go_wp2_with (go_at_call 115;refine(fz _ _).mono ?_;rintro e w' ⟨rfl,rfl⟩;rw[b.o])
 go_ret;exact⟨rfl,rfl⟩
theorem DN(w:World)(b:qv (isWord s=true))(a:0<s.size)(v:¬(97:Int)<=((s[0]'a).toNat:Int))(k:(s.toList==[77,65,84,67,72])=false)(h1:(s.toList==[87,72,69,82,69])=false)(l:(s.toList==[65,78,68])=false)(m:(s.toList==[82,69,84,85,82,78])=false)(n:(s.toList==[79,82,68,69,82])=false)(p:(s.toList==[66,89])=false)(q:(s.toList==[68,69,83,67])=false)(r:(s.toList==[83,75,73,80])=false)(t:(s.toList==[76,73,77,73,84])=false)(u:(s.toList==[83,69,84])=false)(c:(s.toList==[68,69,76,69,84,69])=false)(d:(s.toList==[67,82,69,65,84,69])=false)(f:(s.toList==[67,65,76,76])=false)(g:(s.toList==[73,83])=false)(h:(s.toList==[78,79,84])=false)(i:(s.toList==[78,85,76,76])=false)(j:(s.toList==[67,79,85,78,84])=false):Calls prog 71 #[.string s] w fun e w'=>e=.returned (.int .i64 2)/\w'=w:=by
 go_enter func71,ntmps71
 go_wp2_with (go_at_call 115;refine(fz _ _).mono ?_;rintro e w' ⟨rfl,rfl⟩;rw[b.o])
 go_ret;exact⟨rfl,rfl⟩
theorem Ot:dK.toList=[77,65,84,67,72]:=by decide +kernel
theorem PB:eD.toList=[87,72,69,82,69]:=by decide +kernel
theorem SN:oF.toList=[65,78,68]:=by decide +kernel
theorem N2:bH.toList=[82,69,84,85,82,78]:=by decide +kernel
theorem Ow:eC.toList=[79,82,68,69,82]:=by decide +kernel
theorem Tp:L8.toList=[66,89]:=by decide +kernel
theorem QB:kV.toList=[68,69,83,67]:=by decide +kernel
theorem QT:iZ.toList=[83,75,73,80]:=by decide +kernel
theorem OE:gH.toList=[76,73,77,73,84]:=by decide +kernel
theorem SH:fZ.toList=[83,69,84]:=by decide +kernel
theorem Nz:bR.toList=[68,69,76,69,84,69]:=by decide +kernel
theorem Np:aW.toList=[67,82,69,65,84,69]:=by decide +kernel
theorem QS:fl.toList=[67,65,76,76]:=by decide +kernel
theorem TE:oZ.toList=[73,83]:=by decide +kernel
theorem SZ:ku.toList=[78,79,84]:=by decide +kernel
theorem QG:jM.toList=[78,85,76,76]:=by decide +kernel
theorem Pg:iw.toList=[67,79,85,78,84]:=by decide +kernel
theorem QC(k s:ByteArray):jb k s=(s.toList==k.toList):=by
 unfold jb;rw[Ft];simp only[beq_iff_eq];exact eq_comm
theorem gj(s:ByteArray)(w:World):Calls prog 71 #[.string s] w fun e w'=>e=.returned (.int .i64 (bM s))/\w'=w:=by
 cases hw:isWord s with
 | false=>rw[show bM s=0 by unfold bM;rw[hw];rfl];exact Nb w hw
 | true=>
  obtain⟨h1,v⟩:=BB hw;have a:0<s.size:=h1;have y:=bX a;have x:=I0 v;by_cases m:97<=bt s 0
  ·rw[show bM s=1 by unfold bM;rw[hw,a8 m];rfl];exact Fo w hw a (by omega) (by omega)
  ·have b:¬(97:Int)<=((s[0]'a).toNat:Int):=by omega
   have hk:bM s=if dU s then 3 else 2:=by unfold bM;rw[hw,bk m];rfl
   rw[hk];have u:dU s=((s.toList==[77,65,84,67,72]) || ((s.toList==[87,72,69,82,69]) || ((s.toList==[65,78,68]) || ((s.toList==[82,69,84,85,82,78]) || ((s.toList==[79,82,68,69,82]) || ((s.toList==[66,89]) || ((s.toList==[68,69,83,67]) || ((s.toList==[83,75,73,80]) || ((s.toList==[76,73,77,73,84]) || ((s.toList==[83,69,84]) || ((s.toList==[68,69,76,69,84,69]) || ((s.toList==[67,82,69,65,84,69]) || ((s.toList==[67,65,76,76]) || ((s.toList==[73,83]) || ((s.toList==[78,79,84]) || ((s.toList==[78,85,76,76]) || ((s.toList==[67,79,85,78,84])))))))))))))))))):=by
    unfold dU aC;simp only[List.any_cons,List.any_nil,Bool.or_false,QC,Ot,PB,SN,N2,Ow,Tp,QB,QT,OE,SH,Nz,Np,QS,TE,SZ,QG,Pg]
   rw[u];cases c:(s.toList==[77,65,84,67,72]) with
   | true=>simpa using GY w hw a b c
   | false=>
    cases h1:(s.toList==[87,72,69,82,69]) with
    | true=>simpa using FH w hw a b c h1
    | false=>
     cases f:(s.toList==[65,78,68]) with
     | true=>simpa using FV w hw a b c h1 f
     | false=>
      cases h:(s.toList==[82,69,84,85,82,78]) with
      | true=>simpa using Gg w hw a b c h1 f h
      | false=>
       cases i:(s.toList==[79,82,68,69,82]) with
       | true=>simpa using Gn w hw a b c h1 f h i
       | false=>
        cases k:(s.toList==[66,89]) with
        | true=>simpa using FF w hw a b c h1 f h i k
        | false=>
         cases l:(s.toList==[68,69,83,67]) with
         | true=>simpa using Fh w hw a b c h1 f h i k l
         | false=>
          cases o:(s.toList==[83,75,73,80]) with
          | true=>simpa using Gc w hw a b c h1 f h i k l o
          | false=>
           cases p:(s.toList==[76,73,77,73,84]) with
           | true=>simpa using Gv w hw a b c h1 f h i k l o p
           | false=>
            cases m:(s.toList==[83,69,84]) with
            | true=>simpa using Fl w hw a b c h1 f h i k l o p m
            | false=>
             cases d:(s.toList==[68,69,76,69,84,69]) with
             | true=>simpa using D9 w hw a b c h1 f h i k l o p m d
             | false=>
              cases g:(s.toList==[67,82,69,65,84,69]) with
              | true=>simpa using DF w hw a b c h1 f h i k l o p m d g
              | false=>
               cases j:(s.toList==[67,65,76,76]) with
               | true=>simpa using Dt w hw a b c h1 f h i k l o p m d g j
               | false=>
                cases n:(s.toList==[73,83]) with
                | true=>simpa using EI w hw a b c h1 f h i k l o p m d g j n
                | false=>
                 cases q:(s.toList==[78,79,84]) with
                 | true=>simpa using DV w hw a b c h1 f h i k l o p m d g j n q
                 | false=>
                  cases r:(s.toList==[78,85,76,76]) with
                  | true=>simpa using C0 w hw a b c h1 f h i k l o p m d g j n q r
                  | false=>
                   cases t:(s.toList==[67,79,85,78,84]) with
                   | true=>simpa using DM w hw a b c h1 f h i k l o p m d g j n q r t
                   | false=>
                    simpa using DN w hw a b c h1 f h i k l o p m d g j n q r t
def tQ(G:Nat)(ao:Option Addr)(l:List Tok)(w:World):Prop:=
 ∀j,(hj:j<l.length)->∃o,ao=some ⟨G,o,none⟩/\w.cell? ⟨G,o+j*3,none⟩=some (.int .i64 l[j].kind)/\w.cell? ⟨G,o+j*3+1,none⟩=some (.string l[j].text)/\w.cell? ⟨G,o+j*3+2,none⟩=some (.int .i64 l[j].val)
structure PI(b G:Nat)(st:RS)(w:World):Prop where
 box:∃ao c,Loc w b #[.slice ao st.rest.length c,.bool st.bad] 156/\st.rest.length<=c/\tQ G ao st.rest w
 EA:G≠b/\G<w.heap.size
theorem PI.kept{f:World}{r:Option Nat}(h:PI b G st w)(d:w.grownBy f r)(h1:some b≠r)(i:some G≠r):PI b G st f:=by
 obtain⟨ao,c,l,a,n⟩:=h.box;refine⟨⟨ao,c,l.grown d h1,a,?_⟩,⟨h.EA.1,vH h.EA.2 d.size⟩⟩;intro j m;obtain⟨o,e,a0,g,a2⟩:=n j m;have k:=d.block G h.EA.2 i;have a:∀x,f.cell? ⟨G,x,none⟩=w.cell? ⟨G,x,none⟩:=fun x=>by simp[World.cell?,k]
 exact⟨o,e,by rw[a];exact a0,by rw[a];exact g,by rw[a];exact a2⟩
theorem PI.quiet{a:World}(h:PI b G st w)(c:w.grownBy a none):PI b G st a:=h.kept c (by simp) (by simp)
theorem tQ.tail{g o:Nat}{l:List Tok}(h:tQ G (some ⟨g,o,none⟩) (t::l) w):tQ G (some ⟨g,o+3,none⟩) l w:=by
 intro j d;obtain⟨f,e,a0,a,a2⟩:=h (j+1) (by simpa using d);injection e with e
 injection e with b c
 subst b;subst c;refine⟨o+3,rfl,?_,?_,?_⟩
 ·rw[show o+3+j*3=o+(j+1)*3 by omega];simpa using a0
 ·rw[show o+3+j*3=o+(j+1)*3 by omega];simpa using a
 ·rw[show o+3+j*3=o+(j+1)*3 by omega];simpa using a2
theorem tQ.set{ao:Option Addr}{l:List Tok}(h:tQ G ao l w)(f:G≠b)(j:Nat)(u:Value):tQ G ao l (w.setCell ⟨b,j,none⟩ u):=by
 intro k hk;obtain⟨o,e,a0,c,a2⟩:=h k hk;have d:=Below.heap_setCell w ⟨b,j,none⟩ u G f;have a:∀x,(w.setCell ⟨b,j,none⟩ u).cell? ⟨G,x,none⟩=w.cell? ⟨G,x,none⟩:=fun x=>by simp only[World.cell?,d]
 exact⟨o,e,by rw[a];exact a0,by rw[a];exact c,by rw[a];exact a2⟩
theorem PI.Tm{r:List Tok}{ao:Option Addr}{c:Nat}{v:Value}(h:PI b G st W)(_:st.rest=t::r)(d:Loc W b #[v,.bool st.bad] 156)(f:r.length<=c)(g:tQ G ao r W):PI b G ⟨r,st.bad⟩ (W.setCell ⟨b,0,none⟩ (.slice ao r.length c)):=by
 have a:=h.EA;exact⟨⟨ao,c,d.set 0 _,f,g.set a.1 0 _⟩,⟨a.1,by simpa [World.setCell] using a.2⟩⟩
theorem PI.SB{v:Value}(h:PI b G st W)(a:Loc W b #[v,.bool st.bad] 156):PI b G eh ((W.setCell ⟨b,0,none⟩ (.slice none 0 0)).setCell ⟨b,1,none⟩ (.bool true)):=
 ⟨⟨none,0,(a.set 0 _).set 1 _,rm _,fun j hj=>by simp[eh] at hj⟩,⟨h.EA.1,by simpa [World.setCell] using h.EA.2⟩⟩
theorem qj(h:PI b G st W):
  Calls prog 167 #[.pointer (some ⟨b,0,none⟩)] W fun e W'=>e=.returned (.tuple #[])/\PI b G eh W'/\W.grownBy W' (some b):=by
 obtain⟨ao,c,a,g,i⟩:=h.box;have j:=a.at_ 0 (.slice ao st.rest.length c) rfl;have c1:=a.at_ 1 (.bool st.bad) rfl;have f0:W.frozen? ⟨b,0,none⟩=false:=a.free 0;have f1:W.frozen? ⟨b,1,none⟩=false:=a.free 1;have d:=p9 a;have f:=p9 h;clear i h g a;go_enter func167,ntmps167
 go_wp2_with fail;go_end0;exact⟨rfl,f.o.SB d.o,ay (aE _ _ _ _) (aE _ _ _ _)⟩
theorem J6(h:PI b G st W)(hp:aP s st=true):
  Calls prog 117 #[.pointer (some ⟨b,0,none⟩),.string s] W fun e W'=>e=.returned (.bool true)/\PI b G (ar s st) W'/\W.grownBy W' (some b):=by
 obtain⟨ao,c,f,i,g⟩:=h.box;cases d:st.rest with
 | nil=>unfold aP at hp;rw[d] at hp;cases hp
 | cons t r=>
  have z:(t.text.toList==s.toList)=true:=by unfold aP at hp;rw[d] at hp;exact hp
  have m:qv (ar s st=⟨r,st.bad⟩):=by show _=_;unfold ar;rw[a8 hp,d];rfl
  rw[d] at g i f;obtain⟨o,rfl,a0,u,a2⟩:=g 0 (by simp);have C:W.cell? ⟨G,o+1,none⟩=some (.string t.text):=by simpa using u
  have A:=f.at_ 0 (.slice (some ⟨G,o,none⟩) (r.length+1) c) rfl;have f0:W.frozen? ⟨b,0,none⟩=false:=f.free 0;have y:r.length+1<=c:=i;have n:=p9 f;have x:=p9 g;have p:=p9 h;have q:=p9 d;clear g h i f a0 u a2 hp d;by_cases k:c=1
  ·have a:r=[]:=List.length_eq_zero_iff.1 (by omega);subst k;have w:=p9 a;have l:r.length=0:=by rw[a];rfl
   clear a;go_enter func117,ntmps117
   go_wp2_with fail;refine bodyPost_ret (v:=.bool true) ?_ rfl ⟨rfl,?_,aE _ _ _ _⟩
   ·simp[results,results117,go_sem]
   ·rw[m.o];have h:=p.o.Tm q.o n.o (ao:=some ⟨G,o,none⟩) (c:=0) (by omega) (by intro j B;omega);rw[l] at h;exact h
  ·go_enter func117,ntmps117
   go_wp2_with fail;refine bodyPost_ret (v:=.bool true) ?_ rfl ⟨rfl,?_,aE _ _ _ _⟩
   ·simp[results,results117,go_sem]
   ·rw[m.o];exact p.o.Tm q.o n.o (by omega) x.o.tail
theorem Mr(h:PI b G st W)(hp:aP s st=false):
  Calls prog 117 #[.pointer (some ⟨b,0,none⟩),.string s] W fun e W'=>e=.returned (.bool false)/\PI b G (ar s st) W'/\W.grownBy W' (some b):=by
 obtain⟨ao,c,a,g,f⟩:=h.box;have i:qv (ar s st=st):=by show _=_;unfold ar;rw[hp];rfl
 have j:=p9 h;cases d:st.rest with
 | nil=>
  rw[d] at a;have l:=a.at_ 0 (.slice ao 0 c) rfl;clear f h g a hp d;go_enter func117,ntmps117
  go_wp2_with fail;refine bodyPost_ret (v:=.bool false) ?_ rfl ⟨rfl,by rw[i.o];exact j.o,nu _ _⟩;simp[results,results117,go_sem]
 | cons t r=>
  have m:(t.text.toList==s.toList)=false:=by unfold aP at hp;rw[d] at hp;exact hp
  rw[d] at f g a;obtain⟨o,rfl,a0,k,a2⟩:=f 0 (by simp);have n:W.cell? ⟨G,o+1,none⟩=some (.string t.text):=by simpa using k
  have l:=a.at_ 0 (.slice (some ⟨G,o,none⟩) (r.length+1) c) rfl;clear f h g a a0 k a2 hp d;go_enter func117,ntmps117
  go_wp2_with fail;refine bodyPost_ret (v:=.bool false) ?_ rfl ⟨rfl,by rw[i.o];exact j.o,nu _ _⟩;simp[results,results117,go_sem]
theorem bg(h:PI b G st W)(s:ByteArray)(m:Bool)(hm:aP s st=m):
  Calls prog 117 #[.pointer (some ⟨b,0,none⟩),.string s] W fun e W'=>e=.returned (.bool m)/\PI b G (ar s st) W'/\W.grownBy W' (some b):=by
 cases m with
 | true=>exact J6 h hm
 | false=>exact Mr h hm
theorem fj(h:PI b G st W)(s:ByteArray):
  Calls prog 120 #[.pointer (some ⟨b,0,none⟩),.string s] W fun e W'=>e=.returned (.tuple #[])/\PI b G (aM s st) W'/\W.grownBy W' (some b):=by
 have f:=p9 h;clear h;cases hm:aP s st with
 | true=>
  have d:=p9 hm;have c:qv (aM s st=ar s st):=by show _=_;unfold aM;rw[a8 hm]
  clear hm;go_enter func120,ntmps120
  go_wp2_with fail;refine(bg f.o s true d.o).mono ?_;rintro e k ⟨rfl,h1,g1⟩;have H1:=p9 h1;have a:=p9 g1;clear h1 g1;go_wp2_with fail;go_end0;exact⟨rfl,by rw[c.o];exact H1.o,a.o⟩
 | false=>
  have d:=p9 hm;have c:qv (aM s st=eh):=by show _=_;unfold aM;rw[hm];rfl
  clear hm;go_enter func120,ntmps120
  go_wp2_with fail;refine(bg f.o s false d.o).mono ?_;rintro e k ⟨rfl,h1,g1⟩;have H1:=p9 h1;have a:=p9 g1;clear h1 g1;go_wp2_with fail;refine(qj H1.o).mono ?_;rintro e l ⟨rfl,g,g2⟩;have j:=p9 g;have i:=p9 g2;clear g g2;go_wp2_with fail;go_end0;exact⟨rfl,by rw[c.o];exact j.o,ay a.o i.o⟩
theorem xS(s:ByteArray):bM s=0\/bM s=1\/bM s=2\/bM s=3:=by
 unfold bM
 repeat' split
 all_goals simp
theorem Du(s:ByteArray)(w:World):Calls prog 299 #[.string s] w fun e w'=>e=.returned (.int .i64 (nU s))/\w'=w:=by
 rcases xS s with h|h|h|h
 all_goals
  have a:=p9 h;have b:=p9 (M2 s);clear h;go_enter func299,ntmps299
  go_wp2_with (go_at_call 71;refine(gj _ _).mono ?_;rintro e w' ⟨rfl,rfl⟩;rw[a.o])
  go_ret;exact⟨by rw[b.o,a.o];rfl,rfl⟩
theorem PF(t:Tok)(w:World):Calls prog 270 #[.agg #[.int .i64 t.kind,.string t.text,.int .i64 t.val]] w fun e w'=>e=.returned (.int .i64 (gF t))/\Below w.heap.size w w':=by
 have c:qv (Below w.heap.size w (w.alloc (.cells #[.int .i64 t.kind,.string t.text,.int .i64 t.val] 115))):=FD (r5 _ _) (rm _) _;by_cases b:t.kind=2
 ·have a:qv (gF t=4):=by show _=_;unfold gF;rw[a8 b]
  go_enter func270,ntmps270
  go_wp2_with fail;refine bodyPost_ret (v:=.int .i64 4) ?_ rfl ⟨by rw[a.o],?_⟩
  ·simp[results,results270,go_sem]
  ·simpa [b] using c.o
 ·by_cases d:t.kind=3
  ·have a:qv (gF t=5):=by show _=_;unfold gF;rw[bk b,a8 d]
   go_enter func270,ntmps270
   go_wp2_with fail;refine bodyPost_ret (v:=.int .i64 5) ?_ rfl ⟨by rw[a.o],?_⟩
   ·simp[results,results270,go_sem]
   ·simpa [d] using c.o
  ·by_cases h1:t.kind=1
   ·have a:qv (gF t=nU t.text):=by show _=_;unfold gF;rw[bk b,bk d,a8 h1]
    go_enter func270,ntmps270
    go_wp2_with (go_at_call 299;refine(Du _ _).mono ?_;rintro e w' ⟨rfl,rfl⟩)
    refine bodyPost_ret (v:=.int .i64 (nU t.text)) ?_ rfl ⟨by rw[a.o],?_⟩
    ·simp[results,results270,go_sem]
    ·simpa [h1] using c.o
   ·have a:qv (gF t=0):=by show _=_;unfold gF;rw[bk b,bk d,bk h1]
    go_enter func270,ntmps270
    go_wp2_with fail;refine bodyPost_ret (v:=.int .i64 0) ?_ rfl ⟨by rw[a.o],c.o⟩;simp[results,results270,go_sem]
theorem IJ(h:PI b G st W)(k:Int)(m:Bool)(hm:jG k st=m):
  Calls prog 222 #[.pointer (some ⟨b,0,none⟩),.int .i64 k] W fun e W'=>e=.returned (.bool m)/\PI b G st W'/\W.grownBy W' (some b):=by
 obtain⟨ao,c,a,l,j⟩:=h.box;have p:=p9 h;cases d:st.rest with
 | nil=>
  rw[d] at a;have n:m=false:=by rw[<-hm];unfold jG;rw[d]
  subst n;have u:=a.at_ 0 (.slice ao 0 c) rfl;clear j h l a hm d;go_enter func222,ntmps222
  go_wp2_with fail;refine bodyPost_ret (v:=.bool false) ?_ rfl ⟨rfl,p.o,nu _ _⟩;simp[results,results222,go_sem]
 | cons t r=>
  have i:m=decide (gF t=k):=by rw[<-hm];unfold jG;rw[d]
  have s:=p9 i;rw[d] at j l a;obtain⟨o,rfl,a0,q,a2⟩:=j 0 (by simp);have x:W.cell? ⟨G,o,none⟩=some (.int .i64 t.kind):=by simpa using a0
  have y:W.cell? ⟨G,o+1,none⟩=some (.string t.text):=by simpa using q
  have z:W.cell? ⟨G,o+2,none⟩=some (.int .i64 t.val):=by simpa using a2
  have u:=a.at_ 0 (.slice (some ⟨G,o,none⟩) (r.length+1) c) rfl;clear j h l a a0 q a2 hm d i;go_enter func222,ntmps222
  go_wp2_with fail;refine(PF t W).mono ?_;rintro e w ⟨rfl,g⟩;have f:=p9 g;clear g;go_wp2_with fail;refine bodyPost_ret (v:=.bool (decide (gF t=k))) ?_ rfl ⟨by rw[s.o],p.o.quiet (ag f.o none),ag f.o _⟩;simp[results,results222,go_sem];by_cases hk:gF t=k<;>simp[hk]
theorem PI.ne{x:Nat}(h:PI b G st W)(d:W.heap.size<=x):b≠x/\G≠x:=by
 obtain⟨ao,c,a,_⟩:=h.box;have:=a.lt;exact⟨by omega,by have:=h.EA.2;omega⟩
theorem Rr(h:PI b G st W)(k:Int)(hm:jG k st=false):
  Calls prog 162 #[.pointer (some ⟨b,0,none⟩),.int .i64 k] W fun e W'=>e=.returned (.agg #[.int .i64 0,.string ⟨#[]⟩,.int .i64 0])/\PI b G eh W'/\W.grownBy W' (some b):=by
 have g0:=aD W (.cells #[.int .i64 0,.string ⟨#[]⟩,.int .i64 0] 115) none;have i:=p9 (aD W (.cells #[.int .i64 0,.string ⟨#[]⟩,.int .i64 0] 115) (some b));have n:=p9 (h.quiet g0);have c:=p9 (Loc.new W #[.int .i64 0,.string ⟨#[]⟩,.int .i64 0] 115);have d:=p9 (h.ne (rm _)).1;have l:=p9 (h.ne (rm _)).2;have D:=p9 hm;clear h g0 hm;go_enter func162,ntmps162
 go_wp2_with fail;obtain⟨X,w⟩:∃X,X=W.heap.size:=⟨_,rfl⟩;rw[<-w] at c d l⊢;have f:W.heap.size<=X:=by omega
 clear w;generalize W.alloc (.cells #[.int .i64 0,.string ⟨#[]⟩,.int .i64 0] 115)=E at n c i⊢;refine(IJ n.o k false D.o).mono ?_;rintro e F ⟨rfl,q,g2⟩;have p:=p9 q;have A:=p9 (ay i.o g2);have j:=p9 (c.o.grown g2 (by intro e;injection e with e;exact d.o e.symm));clear q g2 n c;go_wp2_with fail;refine(qj p.o).mono ?_;rintro e g ⟨rfl,s,g3⟩;have C:=p9 s;have B:=p9 (ay A.o g3);have a:=p9 (j.o.grown g3 (by intro e;injection e with e;exact d.o e.symm));have H:=a.o.at_ 0 (.int .i64 0) rfl;have c1:=a.o.at_ 1 (.string ⟨#[]⟩) rfl;have c2:=a.o.at_ 2 (.int .i64 0) rfl;have f0:g.frozen? ⟨X,0,none⟩=false:=a.o.free 0;have f1:g.frozen? ⟨X,1,none⟩=false:=a.o.free 1;have f2:g.frozen? ⟨X,2,none⟩=false:=a.o.free 2;clear s g3 p j;go_wp2_with fail;have m:Loc (((g.setCell ⟨X,0,none⟩ (.int .i64 0)).setCell ⟨X,1,none⟩ (.string ⟨#[]⟩)).setCell ⟨X,2,none⟩ (.int .i64 0)) X #[.int .i64 0,.string ⟨#[]⟩,.int .i64 0] 115:=((a.o.set 0 _).set 1 _).set 2 _;have u:PI b G eh (((g.setCell ⟨X,0,none⟩ (.int .i64 0)).setCell ⟨X,1,none⟩ (.string ⟨#[]⟩)).setCell ⟨X,2,none⟩ (.int .i64 0)):=C.o.kept (r:=some X) (ay (ay (aE _ _ _ _) (aE _ _ _ _)) (aE _ _ _ _)) (by intro e;injection e with e;exact d.o e) (by intro e;injection e with e;exact l.o e);have t:=bU (bU (bU B.o f 0 (.int .i64 0)) f 1 (.string ⟨#[]⟩)) f 2 (.int .i64 0);generalize (((g.setCell ⟨X,0,none⟩ (.int .i64 0)).setCell ⟨X,1,none⟩ (.string ⟨#[]⟩)).setCell ⟨X,2,none⟩ (.int .i64 0))=WF at m u t⊢;refine bodyPost_ret (v:=.agg #[.int .i64 0,.string ⟨#[]⟩,.int .i64 0]) ?_ rfl ⟨rfl,u,t⟩;have x:=m.cell 0;have y:=m.cell 1;have z:=m.cell 2;simp at x y z;simp[results,results162,go_sem,x,y,z]
theorem Pe(h:PI b G st W)(k:Int)(hm:jG k st=true){r:List Tok}(hr:st.rest=t::r):
  Calls prog 162 #[.pointer (some ⟨b,0,none⟩),.int .i64 k] W fun e W'=>e=.returned (.agg #[.int .i64 t.kind,.string t.text,.int .i64 t.val])/\PI b G ⟨r,st.bad⟩ W'/\W.grownBy W' (some b):=by
 have g0:=aD W (.cells #[.int .i64 0,.string ⟨#[]⟩,.int .i64 0] 115) none;have D:=p9 (aD W (.cells #[.int .i64 0,.string ⟨#[]⟩,.int .i64 0] 115) (some b));have H0:=p9 (h.quiet g0);have q:=p9 (Loc.new W #[.int .i64 0,.string ⟨#[]⟩,.int .i64 0] 115);have g:=p9 (h.ne (rm _)).1;have z:=p9 (h.ne (rm _)).2;have HM:=p9 hm;have HR:=p9 hr;clear h g0 hm hr;go_enter func162,ntmps162
 go_wp2_with fail;obtain⟨X,hX⟩:∃X,X=W.heap.size:=⟨_,rfl⟩;rw[<-hX] at q g z⊢;have l:W.heap.size<=X:=by omega
 clear hX;generalize W.alloc (.cells #[.int .i64 0,.string ⟨#[]⟩,.int .i64 0] 115)=W1 at H0 q D⊢;refine(IJ H0.o k true HM.o).mono ?_;rintro e p ⟨rfl,h2,g2⟩;have H2:=p9 h2;have G2:=p9 (ay D.o g2);have E:=p9 (q.o.grown g2 (by intro e;injection e with e;exact g.o e.symm));obtain⟨ao,c,S,hc,T⟩:=h2.box;rw[HR.o] at S hc T;obtain⟨o,rfl,a0,Q,a2⟩:=T 0 (by simp);have U:p.cell? ⟨G,o,none⟩=some (.int .i64 t.kind):=by simpa using a0
 have V:p.cell? ⟨G,o+1,none⟩=some (.string t.text):=by simpa using Q
 have Z:p.cell? ⟨G,o+2,none⟩=some (.int .i64 t.val):=by simpa using a2
 have R:=S.at_ 0 (.slice (some ⟨G,o,none⟩) (r.length+1) c) rfl;have A3:r.length+1<=c:=hc;have HB:=p9 S;have HS:=p9 T;clear h2 g2 H0 q S hc T a0 Q a2;go_upto_region 5 with fail;obtain⟨Y,hY⟩:∃Y,Y=p.heap.size:=⟨_,rfl⟩;have g3:=aD p (.cells #[.int .i64 t.kind,.string t.text,.int .i64 t.val] 115) none;have G3:=p9 (ay G2.o (aD p (.cells #[.int .i64 t.kind,.string t.text,.int .i64 t.val] 115) (some b)));have H3:=p9 (H2.o.quiet g3);have w:=p9 (E.o.grown g3 (by simp));have n:=p9 (HB.o.grown g3 (by simp));have P:=p9 (Loc.new p #[.int .i64 t.kind,.string t.text,.int .i64 t.val] 115);have H:qv (Y≠b):=by have:=HB.o.lt;show Y≠b;omega
 have F:qv (tQ G (some ⟨G,o,none⟩) (t::r) (p.alloc (.cells #[.int .i64 t.kind,.string t.text,.int .i64 t.val] 115))):=by
  intro j hj;obtain⟨o',e,a0,Q,a2⟩:=HS.o j hj;have A1:=H2.o.EA.2;have hB:=g3.block G A1 (by simp);have B:∀x,(p.alloc (.cells #[.int .i64 t.kind,.string t.text,.int .i64 t.val] 115)).cell? ⟨G,x,none⟩=p.cell? ⟨G,x,none⟩:=fun x=>by simp only[World.cell?,hB]
  exact⟨o',e,by rw[B];exact a0,by rw[B];exact Q,by rw[B];exact a2⟩
 rw[<-hY] at P⊢;clear hY g3;generalize p.alloc (.cells #[.int .i64 t.kind,.string t.text,.int .i64 t.val] 115)=A at H3 w n P F G3⊢;clear R U V Z HB HS H2 E G2;have R:=n.o.at_ 0 (.slice (some ⟨G,o,none⟩) (r.length+1) c) rfl;have I:A.frozen? ⟨b,0,none⟩=false:=n.o.free 0;have U:True:=trivial;have V:True:=trivial;have Z:True:=trivial;by_cases A0:c=1
 ·subst A0;have L:r=[]:=List.length_eq_zero_iff.1 (by omega);have A2:r.length=0:=by rw[L];rfl
  clear L;have m:PI b G ⟨r,st.bad⟩ (A.setCell ⟨b,0,none⟩ (.slice (some ⟨G,o,none⟩) 0 0)):=by have h:=H3.o.Tm HR.o n.o (ao:=some ⟨G,o,none⟩) (c:=0) (by omega) (by intro j hj;omega);rw[A2] at h;exact h
  have C:=p9 m;have d:=(P.o.aY H.o 0 (.slice (some ⟨G,o,none⟩) 0 0));have a:=(w.o.aY (fun e=>g.o e.symm) 0 (.slice (some ⟨G,o,none⟩) 0 0));have f:=ay G3.o (aE A b 0 (.slice (some ⟨G,o,none⟩) 0 0));go_upto_region 6 with fail;generalize A.setCell ⟨b,0,none⟩ (.slice (some ⟨G,o,none⟩) 0 0)=i at C d a f⊢;clear m U V Z R I;have y0:=d.at_ 0 (.int .i64 t.kind) rfl;have y1:=d.at_ 1 (.string t.text) rfl;have y2:=d.at_ 2 (.int .i64 t.val) rfl;have x0:=a.at_ 0 (.int .i64 0) rfl;have x1:=a.at_ 1 (.string ⟨#[]⟩) rfl;have x2:=a.at_ 2 (.int .i64 0) rfl;have f0:i.frozen? ⟨X,0,none⟩=false:=a.free 0;have f1:i.frozen? ⟨X,1,none⟩=false:=a.free 1;have f2:i.frozen? ⟨X,2,none⟩=false:=a.free 2;have y:=p9 a;have u:=p9 f;clear d a f;go_wp2_with fail;have s:Loc (((i.setCell ⟨X,0,none⟩ (.int .i64 t.kind)).setCell ⟨X,1,none⟩ (.string t.text)).setCell ⟨X,2,none⟩ (.int .i64 t.val)) X #[.int .i64 t.kind,.string t.text,.int .i64 t.val] 115:=((y.o.set 0 _).set 1 _).set 2 _;have K:PI b G ⟨r,st.bad⟩ (((i.setCell ⟨X,0,none⟩ (.int .i64 t.kind)).setCell ⟨X,1,none⟩ (.string t.text)).setCell ⟨X,2,none⟩ (.int .i64 t.val)):=C.o.kept (r:=some X) (ay (ay (aE _ _ _ _) (aE _ _ _ _)) (aE _ _ _ _)) (by intro e;injection e with e;exact g.o e) (by intro e;injection e with e;exact z.o e);have J:=bU (bU (bU u.o l 0 (.int .i64 t.kind)) l 1 (.string t.text)) l 2 (.int .i64 t.val);generalize (((i.setCell ⟨X,0,none⟩ (.int .i64 t.kind)).setCell ⟨X,1,none⟩ (.string t.text)).setCell ⟨X,2,none⟩ (.int .i64 t.val))=WF at s K J⊢;refine bodyPost_ret (v:=.agg #[.int .i64 t.kind,.string t.text,.int .i64 t.val]) ?_ rfl ⟨rfl,K,J⟩;have M:=s.cell 0;have N:=s.cell 1;have O:=s.cell 2;simp at M N O;simp[results,results162,go_sem,M,N,O]
 ·have m:PI b G ⟨r,st.bad⟩ (A.setCell ⟨b,0,none⟩ (.slice (some ⟨G,o+3,none⟩) r.length (c - 1))):=H3.o.Tm HR.o n.o (by omega) F.o.tail;have C:=p9 m;have d:=(P.o.aY H.o 0 (.slice (some ⟨G,o+3,none⟩) r.length (c - 1)));have a:=(w.o.aY (fun e=>g.o e.symm) 0 (.slice (some ⟨G,o+3,none⟩) r.length (c - 1)));have f:=ay G3.o (aE A b 0 (.slice (some ⟨G,o+3,none⟩) r.length (c - 1)));go_upto_region 6 with fail;generalize A.setCell ⟨b,0,none⟩ (.slice (some ⟨G,o+3,none⟩) r.length (c - 1))=i at C d a f⊢;clear m U V Z R I;have y0:=d.at_ 0 (.int .i64 t.kind) rfl;have y1:=d.at_ 1 (.string t.text) rfl;have y2:=d.at_ 2 (.int .i64 t.val) rfl;have x0:=a.at_ 0 (.int .i64 0) rfl;have x1:=a.at_ 1 (.string ⟨#[]⟩) rfl;have x2:=a.at_ 2 (.int .i64 0) rfl;have f0:i.frozen? ⟨X,0,none⟩=false:=a.free 0;have f1:i.frozen? ⟨X,1,none⟩=false:=a.free 1;have f2:i.frozen? ⟨X,2,none⟩=false:=a.free 2;have y:=p9 a;have u:=p9 f;clear d a f;go_wp2_with fail;have s:Loc (((i.setCell ⟨X,0,none⟩ (.int .i64 t.kind)).setCell ⟨X,1,none⟩ (.string t.text)).setCell ⟨X,2,none⟩ (.int .i64 t.val)) X #[.int .i64 t.kind,.string t.text,.int .i64 t.val] 115:=((y.o.set 0 _).set 1 _).set 2 _;have K:PI b G ⟨r,st.bad⟩ (((i.setCell ⟨X,0,none⟩ (.int .i64 t.kind)).setCell ⟨X,1,none⟩ (.string t.text)).setCell ⟨X,2,none⟩ (.int .i64 t.val)):=C.o.kept (r:=some X) (ay (ay (aE _ _ _ _) (aE _ _ _ _)) (aE _ _ _ _)) (by intro e;injection e with e;exact g.o e) (by intro e;injection e with e;exact z.o e);have J:=bU (bU (bU u.o l 0 (.int .i64 t.kind)) l 1 (.string t.text)) l 2 (.int .i64 t.val);generalize (((i.setCell ⟨X,0,none⟩ (.int .i64 t.kind)).setCell ⟨X,1,none⟩ (.string t.text)).setCell ⟨X,2,none⟩ (.int .i64 t.val))=WF at s K J⊢;refine bodyPost_ret (v:=.agg #[.int .i64 t.kind,.string t.text,.int .i64 t.val]) ?_ rfl ⟨rfl,K,J⟩;have M:=s.cell 0;have N:=s.cell 1;have O:=s.cell 2;simp at M N O;simp[results,results162,go_sem,M,N,O]
theorem DC(h:PI b G st W)(k:Int):
  Calls prog 162 #[.pointer (some ⟨b,0,none⟩),.int .i64 k] W fun e W'=>e=.returned (.agg #[.int .i64 (fw k st).1.kind,.string (fw k st).1.text,.int .i64 (fw k st).1.val])/\PI b G (fw k st).2 W'/\W.grownBy W' (some b):=by
 cases hm:jG k st with
 | false=>
  have e:fw k st=(wH,eh):=by unfold fw;rw[hm];rfl
  rw[e];exact Rr h k hm
 | true=>
  cases a:st.rest with
  | nil=>unfold jG at hm;rw[a] at hm;cases hm
  | cons t r=>
   have e:fw k st=(t,⟨r,st.bad⟩):=by unfold fw;rw[hm,a];rfl
   rw[e];exact Pe h k hm a
end
end Go.Proofs.YtbfmmmjkjhjleaaGreatDoor
