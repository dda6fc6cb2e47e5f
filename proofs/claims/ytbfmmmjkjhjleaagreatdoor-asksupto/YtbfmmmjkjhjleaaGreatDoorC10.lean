/- Mine. -/
import Derived.Test.YtbfmmmjkjhjleaaGreatDoorC06
set_option maxRecDepth 100000
set_option maxHeartbeats 0
namespace Go.Proofs.YtbfmmmjkjhjleaaGreatDoor
open Go.Proofs.Tryz
section
open Go.RowKit
theorem AE(t:ByteArray)(w:World)(c:t.size<=maxLen)(h:nR t):
  Calls prog 48 #[.string t] w fun e w'=>e=.returned (GB (je t.data.toList))/\w'=w:=by
 rcases h with ⟨d,b⟩|⟨h1,a,b⟩
 ·exact xC t w c d b
 ·exact zG t w c (by omega) h1 a b
theorem zX(t:ByteArray)(w:World)(v:Int)(a:t.size<=maxLen)(h:nR t)(b:je t.data.toList=some v):
  Calls prog 48 #[.string t] w fun e w'=>e=.returned (.tuple #[.int .i64 v,.bool true])/\w'=w:=by
 have:=AE t w a h;rw[b] at this;exact this
theorem Ae(t:ByteArray)(w:World)(a:t.size<=maxLen)(h:nR t)(b:je t.data.toList=none):
  Calls prog 48 #[.string t] w fun e w'=>e=.returned (.tuple #[.int .i64 0,.bool false])/\w'=w:=by
 have:=AE t w a h;rw[b] at this;exact this
theorem A7(s:ByteArray)(k:Nat)(h:k<s.size)(w:World):
  Calls prog 49 #[.string (s.extract k s.size)] w fun e w'=>e=.returned (.string (s.extract k (k+aG s k)))/\Below w.heap.size w w':=by
 have:=OR (s.extract k s.size) w;rw[K9 s k h] at this;exact this
theorem KB(s:ByteArray)(w:World)(r:s.size<=2000):
  Calls prog 18 #[.string s] w (wP s w):=by
 obtain⟨i0,hi,K,L,M⟩:=info_parts Tryz.MC;go_enter func18,ntmps18
 go_wp2
 go_loopw [4,5] (fun v i wr=>∃k acc,k<=s.size/\i=.int .i64 (k:Nat)/\kr s k acc/\acc.length<=k/\Below w.heap.size w wr/\wr.ownsRow w.heap.size 115 3 v acc.length (dO acc)) (fun _ i _=>s.size - (intOf i).toNat)
 case atStart=>exact⟨0,[],by omega,rfl,wC s,by simp,r5 _ _,tj _ _ _ _⟩
 case round=>
  obtain⟨k,acc,hk,rfl,Y,A9,hB,f⟩:=hrel;have t:qv (kr s k acc):=Y;have E:qv (Below w.heap.size w wr):=hB;have Z:=hB.size;clear Y hB;by_cases a:k<s.size
  ·by_cases A:((s[k]'a).toNat:Int)=32
   ·have hb:(((s[k]'a).toNat:Int)==32)=true:=by simp[A]
    have A1:qv (bt s k=32):=by rw[<-bX a];exact A
    clear A
    go_wp2
    go_roundw
    case rel=>exact⟨k+1,acc,by omega,by go_num,t.o.blank a A1.o,by omega,E.o,f⟩
    case measure=>simp[intOf];omega
   ·have hb:(((s[k]'a).toNat:Int)==32)=false:=by simp[A]
    have z:qv (bt s k≠32):=by rw[<-bX a];exact A
    clear A;by_cases hl:eM ((s[k]'a).toNat:Int)=true
    ·go_wp2_with (go_at_call 46;refine(eL _ _).mono ?_;rintro e p ⟨rfl,rfl⟩)
     rename_i w1
     go_loop [7] (fun i=>∃e:Nat,k<=e/\e<=s.size/\i=.int .i64 e/\span fR s e=span fR s k) (fun i=>s.size - (intOf i).toNat)
     case atStart=>exact⟨k,rm _,by omega,rfl,rfl⟩
     case round=>
      obtain⟨e,A3,U,rfl,C⟩:=hrel;have B:qv (span fR s e=span fR s k):=C;clear C;by_cases c:∃h:e<s.size,eM ((s[e]'h).toNat:Int)=true\/cm ((s[e]'h).toNat:Int)=true
      ·obtain⟨het,c⟩:=c;have D:qv (span fR s (e+1)=span fR s k):=Ah het (by unfold fR;rcases c with h|h<;>rw[h]<;>simp) B.o;by_cases I:eM ((s[e]'het).toNat:Int)=true
       ·clear c;go_wp2_with (go_at_call 46;refine(eL _ _).mono ?_;rintro e p ⟨rfl,rfl⟩)
        go_round
        case rel=>exact⟨e+1,by omega,by omega,by go_num,D.o⟩
        case measure=>simp[intOf];omega
       ·have Aa:cm ((s[e]'het).toNat:Int)=true:=by rcases c with h|h;exact absurd h I;exact h
        have A8:eM ((s[e]'het).toNat:Int)=false:=by simpa using I
        clear c I;go_wp2_with (first|(go_at_call 46;refine(eL _ _).mono ?_;rintro e p ⟨rfl,rfl⟩)|(go_at_call 47;refine(gM _ _).mono ?_;rintro e p ⟨rfl,rfl⟩))
        go_round
        case rel=>exact⟨e+1,by omega,by omega,by go_num,D.o⟩
        case measure=>simp[intOf];omega
      ·have N:qv (span fR s k=e):=Bc (fun h=>by
        unfold fR;cases h1:eM ((s[e]'h).toNat:Int) with
        | true=>exact absurd ⟨h,ad h1⟩ c
        | false=>cases O:cm ((s[e]'h).toNat:Int) with
         | true=>exact absurd ⟨h,a6 O⟩ c
         | false=>rfl) B.o
       have G:∀h:e<s.size,eM ((s[e]'h).toNat:Int)=false/\cm ((s[e]'h).toNat:Int)=false:=by
        intro h;refine⟨?_,?_⟩
        ·cases h1:eM ((s[e]'h).toNat:Int) with
         | true=>exact absurd ⟨_,ad h1⟩ c
         | false=>rfl
        ·cases h1:cm ((s[e]'h).toNat:Int) with
         | true=>exact absurd ⟨_,a6 h1⟩ c
         | false=>rfl
       have P:qv (∀h:e<s.size,eM ((s[e]'h).toNat:Int)=false/\cm ((s[e]'h).toNat:Int)=false):=G;clear c G;have l:(∃h:e<s.size,eM ((s[e]'h).toNat:Int)=false/\cm ((s[e]'h).toNat:Int)=false)\/¬e<s.size:=by
        by_cases h:e<s.size
        ·exact ad ⟨h,P.o h⟩
        ·exact a6 h
       by_cases h8:8<e - k
       ·have b:qv (one s k=none):=tR a hl N.o h8;rcases l with ⟨het,J,A5⟩|het
        all_goals
         go_wp2_with (first|(go_at_call 46;refine(eL _ _).mono ?_;rintro e p ⟨rfl,rfl⟩)|(go_at_call 47;refine(gM _ _).mono ?_;rintro e p ⟨rfl,rfl⟩))
         go_ret2;exact⟨E.o,ad ⟨rD r (t.o.bad a z.o b.o),rfl⟩⟩
       ·have b:qv (one s k=some (e,⟨1,s.extract k e,0⟩)):=ES a hl N.o (by omega);have Af:k<e:=(qo b.o a).1;rcases l with ⟨het,J,A5⟩|het
        all_goals
         go_wp2_with (first|(go_at_call 46;refine(eL _ _).mono ?_;rintro e p ⟨rfl,rfl⟩)|(go_at_call 47;refine(gM _ _).mono ?_;rintro e p ⟨rfl,rfl⟩)|(at_builtin;refine wpList_append_own _ rfl _ _ 86 rfl w.heap.size 115 i0 (.agg #[.int .i64 0,.string ⟨#[]⟩,.int .i64 0]) 3 32 underlying86 hi K L M rfl (by decide) _ _ _ rfl (f.alloc _) _ 1 1 [.int .i64 1,.string (s.extract k e),.int .i64 0] rfl rfl nN rN (by unfold maxLen;omega) (by omega) (by simp;omega) ?_;intro v' w2 g d _))
         have R:=pJ E.o (rm _) f g d;clear g d f
         go_wp2
         go_roundw
         case rel=>exact⟨e,_,by omega,by go_num,t.o.tok a z.o b.o,by simp;omega,R.1,R.2⟩
         case measure=>simp[intOf];omega
    ·have A4:eM ((s[k]'a).toNat:Int)=false:=by simpa using hl
     have HL:qv (eM (bt s k)=false):=by rw[<-bX a];exact A4
     clear hl;by_cases y:i6 s k
     ·have q:qv (i6 s k):=y;have j:cm ((s[k]'a).toNat:Int)=true\/(cm ((s[k]'a).toNat:Int)=false/\(((s[k]'a).toNat:Int)==45)=true/\∃h:k+1<s.size,cm ((s[k+1]'h).toNat:Int)=true):=by
       rw[bX a];rcases y with h|⟨h1,O⟩
       ·exact ad h
       ·have h3:k+1<s.size:=AW (by have:=rO O;omega);refine a6 ⟨lM (by omega),by rw[h1];rfl,h3,?_⟩;rw[bX h3];exact O
      clear y;rcases j with hd|⟨hd,u,Ab,T⟩
      all_goals
       go_wp2_with (first|(go_at_call 46;refine(eL _ _).mono ?_;rintro e p ⟨rfl,rfl⟩)|(go_at_call 47;refine(gM _ _).mono ?_;rintro e p ⟨rfl,rfl⟩))
       go_loop [7] (fun i=>∃e:Nat,k+1<=e/\e<=s.size/\i=.int .i64 e/\span cm s e=span cm s (k+1)) (fun i=>s.size - (intOf i).toNat)
       case atStart=>exact⟨k+1,rm _,by omega,by go_num,rfl⟩
       case round=>
        obtain⟨e,A3,U,rfl,C⟩:=hrel;have B:qv (span cm s e=span cm s (k+1)):=C;clear C;by_cases c:∃h:e<s.size,cm ((s[e]'h).toNat:Int)=true
        ·obtain⟨het,c⟩:=c;have D:qv (span cm s (e+1)=span cm s (k+1)):=Ah het c B.o;go_wp2_with (first|(go_at_call 46;refine(eL _ _).mono ?_;rintro e p ⟨rfl,rfl⟩)|(go_at_call 47;refine(gM _ _).mono ?_;rintro e p ⟨rfl,rfl⟩))
         go_round
         case rel=>exact⟨e+1,by omega,by omega,by go_num,D.o⟩
         case measure=>simp[intOf];omega
        ·have N:qv (span cm s (k+1)=e):=Bc (fun h=>by
          cases h1:cm ((s[e]'h).toNat:Int) with
          | true=>exact absurd ⟨h,h1⟩ c
          | false=>rfl) B.o
         have l:(∃h:e<s.size,cm ((s[e]'h).toNat:Int)=false)\/¬e<s.size:=by
          by_cases h:e<s.size
          ·left;refine⟨h,?_⟩
           cases h1:cm ((s[e]'h).toNat:Int) with
           | true=>exact absurd ⟨h,h1⟩ c
           | false=>rfl
          ·exact a6 h
         clear c;have F:qv (nR (s.extract k e)):=yK a q.o N.o;have A0:=de s k e U;have S:qv ((s.extract k e).size<=maxLen):=by show _<=maxLen;rw[A0];unfold maxLen;omega
         clear A0;cases hv:je (s.extract k e).data.toList with
         | none=>
          have Q:qv (je (s.extract k e).data.toList=none):=hv;clear hv;have b:qv (one s k=none):=wg HL.o q.o N.o Q.o;rcases l with ⟨het,J⟩|het
          all_goals
           go_wp2_with (first|(go_at_call 46;refine(eL _ _).mono ?_;rintro e p ⟨rfl,rfl⟩)|(go_at_call 47;refine(gM _ _).mono ?_;rintro e p ⟨rfl,rfl⟩)|(go_at_call 48;refine(Ae _ _ S.o F.o Q.o).mono ?_;rintro e p ⟨rfl,rfl⟩))
           go_ret2;exact⟨E.o,ad ⟨rD r (t.o.bad a z.o b.o),rfl⟩⟩
         | some v=>
          have Q:qv (je (s.extract k e).data.toList=some v):=hv;clear hv;have b:qv (one s k=some (e,⟨2,s.extract k e,v⟩)):=one_num HL.o q.o N.o Q.o;rcases l with ⟨het,J⟩|het
          all_goals
           go_wp2_with (first|(go_at_call 46;refine(eL _ _).mono ?_;rintro e p ⟨rfl,rfl⟩)|(go_at_call 47;refine(gM _ _).mono ?_;rintro e p ⟨rfl,rfl⟩)|(go_at_call 48;refine(zX _ _ v S.o F.o Q.o).mono ?_;rintro e p ⟨rfl,rfl⟩)|(at_builtin;refine wpList_append_own _ rfl _ _ 86 rfl w.heap.size 115 i0 (.agg #[.int .i64 0,.string ⟨#[]⟩,.int .i64 0]) 3 32 underlying86 hi K L M rfl (by decide) _ _ _ rfl (f.alloc _) _ 1 1 [.int .i64 2,.string (s.extract k e),.int .i64 v] rfl rfl nN rN (by unfold maxLen;omega) (by omega) (by simp;omega) ?_;intro v' w2 g d _))
           have R:=pJ E.o (rm _) f g d;clear g d f
           go_wp2
           go_roundw
           case rel=>exact⟨e,_,by omega,by go_num,t.o.tok a z.o b.o,by simp;omega,R.1,R.2⟩
           case measure=>simp[intOf];omega
     ·have q:qv (¬i6 s k):=y;have j:cm ((s[k]'a).toNat:Int)=false/\((((s[k]'a).toNat:Int)==45)=false\/((((s[k]'a).toNat:Int)==45)=true/\((∃h:k+1<s.size,cm ((s[k+1]'h).toNat:Int)=false)\/¬k+1<s.size))):=by
       have h0:cm ((s[k]'a).toNat:Int)=false:=by
        cases h1:cm ((s[k]'a).toNat:Int) with
        | true=>exact absurd (ad (by rw[<-bX a];exact h1)) y
        | false=>rfl
       refine⟨h0,?_⟩;by_cases u:((s[k]'a).toNat:Int)=45
       ·refine a6 ⟨by rw[u];rfl,?_⟩;by_cases h1:k+1<s.size
        ·left;refine⟨h1,?_⟩
         cases O:cm ((s[k+1]'h1).toNat:Int) with
         | true=>exact absurd (a6 ⟨by rw[<-bX a];exact u,by rw[<-bX h1];exact O⟩) y
         | false=>rfl
        ·exact a6 h1
       ·exact ad (by simpa using u)
      clear y;have X:=pG a;have H:qv ((s.extract k (k+aG s k)).size=aG s k):=by show _=_;rw[de s k _ X];omega
      obtain⟨hd,j⟩:=j;by_cases V:aG s k=0
      ·have b:qv (one s k=none):=kD HL.o q.o V;rcases j with u|⟨u,⟨h1,T⟩|h1⟩
       all_goals
        go_wp2_with (first|(go_at_call 46;refine(eL _ _).mono ?_;rintro e p ⟨rfl,rfl⟩)|(go_at_call 47;refine(gM _ _).mono ?_;rintro e p ⟨rfl,rfl⟩)|(go_at_call 49;refine(A7 s k a _).mono ?_;rintro e w2 ⟨rfl,x⟩))
        go_ret2;exact⟨E.o.trans (x.mono Z),ad ⟨rD r (t.o.bad a z.o b.o),rfl⟩⟩
      ·have b:qv (one s k=some (k+aG s k,⟨3,s.extract k (k+aG s k),0⟩)):=Dn HL.o q.o (by omega);obtain⟨n,hn⟩:∃n,n=aG s k:=⟨_,rfl⟩;rw[<-hn] at X H b V;obtain⟨m,hm⟩:∃m,m=s.extract k (k+n):=⟨_,rfl⟩;rw[<-hm] at H b;have Ad:m.size<=n/\n<=m.size:=by have:=H.o;omega
       have Ac:m.toList.isEmpty=false:=by
        rw[ByteArray.toList_eq];cases hx:m.data.toList with
        | nil=>
         have:=dd m;rw[hx,yd] at this;omega
        | cons _ _=>rfl
       have hM:∀W:World,Calls prog 49 #[.string (s.extract k s.size)] W fun e p=>e=.returned (.string m)/\Below W.heap.size W p:=fun W=>by rw[hm,hn];exact A7 s k a W
       have A2:=p9 hM;clear hM hm hn;rcases j with u|⟨u,⟨h1,T⟩|h1⟩
       all_goals
        go_wp2_with (first|(go_at_call 46;refine(eL _ _).mono ?_;rintro e p ⟨rfl,rfl⟩)|(go_at_call 47;refine(gM _ _).mono ?_;rintro e p ⟨rfl,rfl⟩)|(go_at_call 49;refine(A2.o _).mono ?_;rintro e w2 ⟨rfl,x⟩;have A6:=x.size)|(at_builtin;refine wpList_append_own _ rfl _ _ 86 rfl w.heap.size 115 i0 (.agg #[.int .i64 0,.string ⟨#[]⟩,.int .i64 0]) 3 32 underlying86 hi K L M rfl (by decide) _ _ _ rfl ((vK f x).alloc _) _ 1 1 [.int .i64 3,.string m,.int .i64 0] rfl rfl nN rN (by unfold maxLen;omega) (by omega) (by simp;omega) ?_;intro v' w3 g d _))
        have R:=pJ (E.o.trans (x.mono Z)) (rm _) (vK f x) g d;clear g d f x
        go_wp2
        go_roundw
        case rel=>exact⟨k+n,_,by omega,by go_num,t.o.tok a z.o b.o,by simp;omega,R.1,R.2⟩
        case measure=>simp[intOf];omega
  ·go_wp2
   go_ret2;exact⟨E.o,a6 ⟨acc,_,Aw r (t.o.fin a),rfl,f⟩⟩
theorem Ad(s:ByteArray)(w:World)(b:s.size<=maxLen)(a:2000<s.size):
  Calls prog 18 #[.string s] w (wP s w):=by
 unfold maxLen at b;go_enter func18,ntmps18
 go_wp2
 go_ret2;exact⟨r5 _ _,ad ⟨by unfold dN;rw[a8 a],rfl⟩⟩
theorem uD(s:ByteArray)(w:World)(a:s.size<=maxLen):Calls prog 18 #[.string s] w (wP s w):=by
 by_cases h:s.size<=2000
 ·exact KB s w h
 ·exact Ad s w a (by omega)
end
end Go.Proofs.YtbfmmmjkjhjleaaGreatDoor
