/- Mine. -/
import Derived.Test.YtbfmmmjkjhjleaaGreatDoorC01
set_option maxRecDepth 100000
set_option maxHeartbeats 0
namespace Go.Proofs.YtbfmmmjkjhjleaaGreatDoor
open Go.Proofs.Tryz
variable {s w:ByteArray} {a b:Nat} {w0 W:World} {f d:Int} {acc:List Tok} {p:Int->Bool}
section
open Go.RowKit
theorem GW(c d:Int)(p:Nat)(w:World)(hp:w.cell? ⟨p,0,none⟩=some (.int .u8 d)):Calls prog 217 #[.int .u8 c,.pointer (some ⟨p,0,none⟩)] w fun e w'=>e=.returned (.bool (c==d))/\w'=w:=by
 go_enter func217,ntmps217
 go_wp2
 go_ret;exact⟨rfl,rfl⟩
theorem ju(hp:p (bt s a)=true)(b:p (-1)=false):a<s.size:=by
 by_cases h:a<s.size
 ·exact h
 ·rw[yB h,b] at hp;cases hp
theorem Ea:eM (-1)=false:=fO (by omega)
theorem tC:cm (-1)=false:=lM (by omega)
theorem zK(hinv:Inv w0 b s f (a:Nat) acc W)(l:s.size<=2000)(hp:eM (bt s a)=true):
  Calls prog 216 #[.pointer (some ⟨b,0,none⟩),.func (.func 158) #[] #[]] W fun e W'=>e=.returned (.bool true)/\Inv w0 b s f ((a+1:Nat):Int) acc W':=by
 have c:a<s.size:=ju hp Ea;rw[<-bX c] at hp;have g:qv (Inv w0 b s f (a:Nat) acc W):=hinv;obtain⟨m,d,j⟩:=hinv.cut;obtain⟨k,c1,c2,h⟩:=d.cells;have f2:=d.free 2;clear hinv d j c1 h;have i:((a:Int)==(s.size:Int))=false:=by simp;omega
 go_enter func216,ntmps216
 go_wp2
 go_quiet ((go_at_call 158;exact Calls.quiet_of_same (iD _ _)))
 go_wp2
 go_ret;exact⟨rfl,(g.o.drew nq).setAt _⟩
theorem pN(hinv:Inv w0 b s f (a:Nat) acc W)(l:a<=s.size)(hp:eM (bt s a)=false):
  Calls prog 216 #[.pointer (some ⟨b,0,none⟩),.func (.func 158) #[] #[]] W fun e W'=>e=.returned (.bool false)/\Inv w0 b s f (a:Nat) acc W':=by
 have g:qv (Inv w0 b s f (a:Nat) acc W):=hinv;obtain⟨m,h,j⟩:=hinv.cut;obtain⟨k,c1,c2,i⟩:=h.cells;clear hinv h j c1 i;by_cases c:a<s.size
 ·rw[<-bX c] at hp;have d:((a:Int)==(s.size:Int))=false:=by simp;omega
  go_enter func216,ntmps216
  go_wp2
  go_quiet ((go_at_call 158;exact Calls.quiet_of_same (iD _ _)))
  go_wp2
  go_ret;exact⟨rfl,g.o.drew nq⟩
 ·clear hp;have d:((a:Int)==(s.size:Int))=true:=by simp;omega
  go_enter func216,ntmps216
  go_wp2
  go_quiet ((go_at_call 158;exact Calls.quiet_of_same (iD _ _)))
  go_wp2
  go_ret;exact⟨rfl,g.o.drew nq⟩
theorem o6(hinv:Inv w0 b s f (a:Nat) acc W)(l:s.size<=2000)(hp:cm (bt s a)=true):
  Calls prog 216 #[.pointer (some ⟨b,0,none⟩),.func (.func 159) #[] #[]] W fun e W'=>e=.returned (.bool true)/\Inv w0 b s f ((a+1:Nat):Int) acc W':=by
 have c:a<s.size:=ju hp tC;rw[<-bX c] at hp;have g:qv (Inv w0 b s f (a:Nat) acc W):=hinv;obtain⟨m,d,j⟩:=hinv.cut;obtain⟨k,c1,c2,h⟩:=d.cells;have f2:=d.free 2;clear hinv d j c1 h;have i:((a:Int)==(s.size:Int))=false:=by simp;omega
 go_enter func216,ntmps216
 go_wp2
 go_quiet ((go_at_call 159;exact Calls.quiet_of_same (isDigit _ _)))
 go_wp2
 go_ret;exact⟨rfl,(g.o.drew nq).setAt _⟩
theorem mj(hinv:Inv w0 b s f (a:Nat) acc W)(l:a<=s.size)(hp:cm (bt s a)=false):
  Calls prog 216 #[.pointer (some ⟨b,0,none⟩),.func (.func 159) #[] #[]] W fun e W'=>e=.returned (.bool false)/\Inv w0 b s f (a:Nat) acc W':=by
 have g:qv (Inv w0 b s f (a:Nat) acc W):=hinv;obtain⟨m,h,j⟩:=hinv.cut;obtain⟨k,c1,c2,i⟩:=h.cells;clear hinv h j c1 i;by_cases c:a<s.size
 ·rw[<-bX c] at hp;have d:((a:Int)==(s.size:Int))=false:=by simp;omega
  go_enter func216,ntmps216
  go_wp2
  go_quiet ((go_at_call 159;exact Calls.quiet_of_same (isDigit _ _)))
  go_wp2
  go_ret;exact⟨rfl,g.o.drew nq⟩
 ·clear hp;have d:((a:Int)==(s.size:Int))=true:=by simp;omega
  go_enter func216,ntmps216
  go_wp2
  go_quiet ((go_at_call 159;exact Calls.quiet_of_same (isDigit _ _)))
  go_wp2
  go_ret;exact⟨rfl,g.o.drew nq⟩
theorem Er{q:Nat}(n:0<=d)(l:W.cell? ⟨q,0,none⟩=some (.int .u8 d))(hinv:Inv w0 b s f (a:Nat) acc W)(r:s.size<=2000)(hp:((bt s a)==d)=true):
  Calls prog 216 #[.pointer (some ⟨b,0,none⟩),.func (.func 217) #[] #[.pointer (some ⟨q,0,none⟩)]] W fun e W'=>e=.returned (.bool true)/\Inv w0 b s f ((a+1:Nat):Int) acc W':=by
 have c:a<s.size:=ju (p:=fun x=>x==d) hp (by simp;omega);rw[<-bX c] at hp;have h:qv (Inv w0 b s f (a:Nat) acc W):=hinv;obtain⟨t,g,k⟩:=hinv.cut;obtain⟨m,c1,c2,i⟩:=g.cells;have f2:=g.free 2;clear hinv g k c1 i;have j:((a:Int)==(s.size:Int))=false:=by simp;omega
 go_enter func216,ntmps216
 go_wp2
 go_quiet ((go_at_call 217;exact Calls.quiet_of_same (GW _ _ _ _ l)))
 go_wp2
 go_ret;exact⟨rfl,(h.o.drew nq).setAt _⟩
theorem F4{q:Nat}(i:W.cell? ⟨q,0,none⟩=some (.int .u8 d))(hinv:Inv w0 b s f (a:Nat) acc W)(n:a<=s.size)(hp:((bt s a)==d)=false):
  Calls prog 216 #[.pointer (some ⟨b,0,none⟩),.func (.func 217) #[] #[.pointer (some ⟨q,0,none⟩)]] W fun e W'=>e=.returned (.bool false)/\Inv w0 b s f (a:Nat) acc W':=by
 have h:qv (Inv w0 b s f (a:Nat) acc W):=hinv;obtain⟨p,j,l⟩:=hinv.cut;obtain⟨m,c1,c2,k⟩:=j.cells;clear hinv j l c1 k;by_cases c:a<s.size
 ·rw[<-bX c] at hp;have g:((a:Int)==(s.size:Int))=false:=by simp;omega
  go_enter func216,ntmps216
  go_wp2
  go_quiet ((go_at_call 217;exact Calls.quiet_of_same (GW _ _ _ _ i)))
  go_wp2
  go_ret;exact⟨rfl,h.o.drew nq⟩
 ·clear hp;have g:((a:Int)==(s.size:Int))=true:=by simp;omega
  go_enter func216,ntmps216
  go_wp2
  go_quiet ((go_at_call 217;exact Calls.quiet_of_same (GW _ _ _ _ i)))
  go_wp2
  go_ret;exact⟨rfl,h.o.drew nq⟩
theorem lQ(h:0<=d)(hinv:Inv w0 b s f (a:Nat) acc W)(i:s.size<=2000)(hp:(bt s a==d)=true):
  Calls prog 160 #[.pointer (some ⟨b,0,none⟩),.int .u8 d] W fun e W'=>e=.returned (.bool true)/\Inv w0 b s f ((a+1:Nat):Int) acc W':=by
 have c:qv (Inv w0 b s f (a:Nat) acc W):=hinv;have g:qv ((bt s a==d)=true):=hp;clear hinv hp;go_enter func160,ntmps160
 go_wp2_with (go_at_call 216;refine(Er h (by simp) (c.o.alloc _) i g.o).mono ?_;rintro e W' ⟨rfl,h1⟩)
 go_ret;exact⟨rfl,h1⟩
theorem mM(hinv:Inv w0 b s f (a:Nat) acc W)(h:a<=s.size)(hp:(bt s a==d)=false):
  Calls prog 160 #[.pointer (some ⟨b,0,none⟩),.int .u8 d] W fun e W'=>e=.returned (.bool false)/\Inv w0 b s f (a:Nat) acc W':=by
 have c:qv (Inv w0 b s f (a:Nat) acc W):=hinv;have g:qv ((bt s a==d)=false):=hp;clear hinv hp;go_enter func160,ntmps160
 go_wp2_with (go_at_call 216;refine(F4 (by simp) (c.o.alloc _) h g.o).mono ?_;rintro e W' ⟨rfl,h1⟩)
 go_ret;exact⟨rfl,h1⟩
end
namespace Pure
structure nK(w:ByteArray)(t:Tok):Prop where
 ne:0<w.size
 nb:bt w 0≠32
 cut:∀(s:ByteArray) (k:Nat),(∀j,j<w.size->bt s (k+j)=bt w j)->k+w.size<=s.size->(bt s (k+w.size)=32\/k+w.size=s.size)->one s k=some (k+w.size,t)
theorem jJ{k:Nat}(h:∀j,j<w.size->bt s (k+j)=bt w j)(hk:k+w.size<=s.size):s.extract k (k+w.size)=w:=by
 have a:=de s k (k+w.size) hk;refine CN (by omega) fun j hj=>?_;rw[gq s k (k+w.size) j hk (by omega),h j (by omega)]
theorem wT{p:Int->Bool}{s:ByteArray}{e:Nat}:∀(n k:Nat),k+n=e->e<=s.size->(∀j,k<=j->j<e->p (bt s j)=true)->(e<s.size->p (bt s e)=false)->span p s k=e
 | 0,k,h,he,_,hs=>by
  obtain rfl:k=e:=by omega
  exact kt hs
 | n+1,k,h,he,hp,hs=>by
  rw[jZ (by omega) (hp k (rm _) (by omega))];exact wT n (k+1) (by omega) he (fun j hj h2=>hp j (by omega) h2) hs
theorem xG{e:Nat}(a:p 32=false)(h:bt s e=32\/e=s.size):e<s.size->p (bt s e)=false:=by
 intro b;rcases h with h|h
 ·rw[h];exact a
 ·omega
theorem mJ(h:isWord w=true):1<=w.size/\w.size<=8/\eM (bt w 0)=true/\∀j,j<w.size->fR (bt w j)=true:=by
 unfold isWord at h;simp only[wa,decide_eq_true_eq] at h;exact⟨h.1.1.1,h.1.1.2,h.1.2,h.2⟩
theorem wR(h:isWord w=true):nK w ⟨1,w,0⟩:=by
 obtain⟨h1,f,a,d⟩:=mJ h;refine⟨h1,?_,?_⟩
 ·intro e;rw[e] at a;exact absurd a (by decide)
 ·intro s k hw hk he;have b:eM (bt s k)=true:=by have:=hw 0 (by omega);rw[Bs] at this;rw[this];exact a
  have c:span fR s k=k+w.size:=wT w.size k rfl hk (fun j hj h2=>by
   have:=hw (j - k) (by omega);rw[show k+(j - k)=j by omega] at this;rw[this];exact d _ (by omega)) (xG (by decide) he)
  unfold one;rw[a8 b,c,bk (by omega),jJ hw hk]
theorem BP:aC.all isWord=true:=by decide +kernel
theorem QX(h:w∈aC):nK w ⟨1,w,0⟩:=wR (List.all_eq_true.1 BP w h)
def marks:List ByteArray:=[bO,bN,cD,aN,eN,lW,eP,jI,dy,dC,iy,ze,Lg,Lj,Le,Lf,Ld]
theorem oS{c:UInt8}(h:c.toNat=46\/c.toNat=60\/c.toNat=62\/c.toNat=40\/c.toNat=41\/c.toNat=58\/c.toNat=44\/c.toNat=61\/c.toNat=42\/c.toNat=123\/c.toNat=125):nK ⟨#[c]⟩ ⟨3,⟨#[c]⟩,0⟩:=by
 have g:(⟨#[c]⟩:ByteArray).size=1:=rfl;have a:bt (⟨#[c]⟩:ByteArray) 0=(c.toNat:Int):=rfl;refine⟨by omega,by omega,?_⟩;intro s k hw hk he;have ex:=jJ hw hk;rw[g] at hw hk he ex⊢;have b:=hw 0 (by omega);rw[Bs,a] at b;have i:bt s (k+1)=32\/bt s (k+1)=-1:=by
  rcases he with e|e
  ·exact ad e
  ·exact a6 (yB (by omega))
 have hm:aG s k=1:=by
  unfold aG;simp only
  repeat' split
  all_goals omega
 have f:eM (bt s k)=false:=fO (by omega);have d:cm (bt s k)=false:=lM (by omega);unfold one;rw[f,d,hm,ex];simp;omega
theorem E7{c d:UInt8}(h:(c.toNat=45/\d.toNat=91)\/(c.toNat=46/\d.toNat=46)\/(c.toNat=60/\d.toNat=61)\/(c.toNat=60/\d.toNat=62)\/(c.toNat=62/\d.toNat=61)):nK ⟨#[c,d]⟩ ⟨3,⟨#[c,d]⟩,0⟩:=by
 have l:(⟨#[c,d]⟩:ByteArray).size=2:=rfl;have b:bt (⟨#[c,d]⟩:ByteArray) 0=(c.toNat:Int):=rfl;have h1:bt (⟨#[c,d]⟩:ByteArray) 1=(d.toNat:Int):=rfl;refine⟨by omega,by omega,?_⟩;intro s k hw hk he;have ex:=jJ hw hk;rw[l] at hw hk he ex⊢;have f:=hw 0 (by omega);have g:=hw 1 (by omega);rw[Bs,b] at f;rw[h1] at g;have hm:aG s k=2:=by
  unfold aG;simp only
  repeat' split
  all_goals omega
 have j:eM (bt s k)=false:=fO (by omega);have i:cm (bt s k)=false:=lM (by omega);have a:cm (bt s (k+1))=false:=lM (by omega);unfold one;rw[j,i,a,hm,ex];simp
theorem Sr:nK dy ⟨3,dy,0⟩:=by
 have j:dy.size=3:=rfl;have b:bt dy 0=93:=rfl;have h1:bt dy 1=45:=rfl;have c:bt dy 2=62:=rfl;refine⟨by omega,by omega,?_⟩;intro s k hw hk he;have ex:=jJ hw hk;rw[j] at hw hk he ex⊢;have d:=hw 0 (by omega);have f:=hw 1 (by omega);have g:=hw 2 (by omega);rw[Bs,b] at d;rw[h1] at f;rw[c] at g;have hm:aG s k=3:=by
  unfold aG;simp only
  repeat' split
  all_goals omega
 have i:eM (bt s k)=false:=fO (by omega);have h:cm (bt s k)=false:=lM (by omega);have a:cm (bt s (k+1))=false:=lM (by omega);unfold one;rw[i,h,a,hm,ex];simp
theorem Pm(h:w∈marks):nK w ⟨3,w,0⟩:=by
 simp only[marks,List.mem_cons,List.not_mem_nil,or_false] at h;rcases h with rfl|rfl|rfl|rfl|rfl|rfl|rfl|rfl|rfl|rfl|rfl|rfl|rfl|rfl|rfl|rfl|rfl
 ·exact oS (by decide)
 ·exact oS (by decide)
 ·exact oS (by decide)
 ·exact oS (by decide)
 ·exact oS (by decide)
 ·exact E7 (by decide)
 ·exact oS (by decide)
 ·exact E7 (by decide)
 ·exact Sr
 ·exact oS (by decide)
 ·exact oS (by decide)
 ·exact oS (by decide)
 ·exact E7 (by decide)
 ·exact oS (by decide)
 ·exact E7 (by decide)
 ·exact oS (by decide)
 ·exact E7 (by decide)
theorem OJ{u:Nat}(h:¬u<10):Lib.decDigits u=Lib.decDigits (u / 10)++[UInt8.ofNat (48+u % 10)]:=by rw[Lib.decDigits,dif_neg h]
theorem nI(n:Nat)(h:n<256):(UInt8.ofNat n).toNat=n:=by simp;omega
theorem yM(n:Nat):∀u,u<=n->(∀c∈Lib.decDigits u,48<=c.toNat/\c.toNat<=57)/\fQ 0 (Lib.decDigits u)=u/\(∃c r,Lib.decDigits u=c::r/\(c.toNat=48->u=0/\r=[])):=by
 induction n with
 | zero=>
  intro u hu;obtain rfl:u=0:=by omega
  rw[Lib.decDigits_one (by omega)];refine⟨?_,?_,_,_,rfl,fun _=>⟨rfl,rfl⟩⟩
  ·intro c a;rw[List.mem_singleton.1 a,nI _ (by omega)];omega
  ·rw[oK,oI,yn,nI _ (by omega)]
 | succ n ih=>
  intro u hu;by_cases h:u<10
  ·rw[Lib.decDigits_one h];refine⟨?_,?_,_,_,rfl,fun e=>⟨?_,rfl⟩⟩
   ·intro c a;rw[List.mem_singleton.1 a,nI _ (by omega)];omega
   ·rw[oK,oI,yn,nI _ (by omega)];omega
   ·rw[nI _ (by omega)] at e;omega
  ·rw[OJ h];obtain⟨f,g,c,r,d,a⟩:=ih (u / 10) (by omega);refine⟨?_,?_,?_⟩
   ·intro x b;rcases List.mem_append.1 b with b|b
    ·exact f x b
    ·rw[List.mem_singleton.1 b,nI _ (by omega)];omega
   ·rw[AZ,g,yn,nI _ (by omega)];omega
   ·rw[d];exact⟨c,r++[UInt8.ofNat (48+u % 10)],rfl,fun e=>absurd (a e).1 (by omega)⟩
end Pure
end Go.Proofs.YtbfmmmjkjhjleaaGreatDoor
