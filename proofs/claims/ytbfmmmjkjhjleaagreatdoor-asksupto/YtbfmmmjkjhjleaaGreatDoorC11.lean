/- Mine. -/
import Derived.Test.YtbfmmmjkjhjleaaGreatDoorC06
import Derived.Test.YtbfmmmjkjhjleaaGreatDoorC05
import Derived.Test.YtbfmmmjkjhjleaaGreatDoorC03
set_option maxRecDepth 100000
set_option maxHeartbeats 0
namespace Go.Proofs.YtbfmmmjkjhjleaaGreatDoor
open Go.Proofs.Tryz
variable {w s:ByteArray} {ev:Value} {k b:Nat} {w0 W:World} {f n:Int} {acc:List Tok}
section
open Go.RowKit
def Fr(b:Nat)(a:Act):Prop:=
 ∃u3 u4 u5 u6 u7 u8 u9 u10 u11 u12 u13 u14 u15 u16 u17 u18 u19 u20 u21 u22 u23 u24 u25 u26 u27 u28 u29 u30 u31 u32 u33 u34 u35 u36 u37 u38 u39 u40 u41 u42 u43 u44 u45 u46 u47 u48 u49 u50 u51 u52 u53 u54 u55 u56 u57 u58 u59 u60 u61 u62 u63 u64 u65 u66 u67 u68 u69 u70 u71 u72:Value,a={tmps:=#[.pointer (some ⟨b,0,none⟩),undef,.bool false,u3,u4,u5,u6,u7,u8,u9,u10,u11,u12,u13,u14,u15,u16,u17,u18,u19,u20,u21,u22,u23,u24,u25,u26,u27,u28,u29,u30,u31,u32,u33,u34,u35,u36,u37,u38,u39,u40,u41,u42,u43,u44,u45,u46,u47,u48,u49,u50,u51,u52,u53,u54,u55,u56,u57,u58,u59,u60,u61,u62,u63,u64,u65,u66,u67,u68,u69,u70,u71,u72],defers:=[]}
def JT(w0:World)(b:Nat)(s:ByteArray)(k:Nat)(acc:List Tok)(l n:Nat)(a:Act)(W:World):Prop:=
 Fr b a/\match l with
 | 0=>∃e:Nat,k<e/\e<=s.size/\n=s.size - e+1/\span fR s e=span fR s k/\eM (bt s k)=true/\Inv w0 b s (k:Nat) (e:Nat) acc W
 | 1=>∃e:Nat,k<e/\e<=s.size/\n=s.size - e+1/\span cm s e=span cm s (k+1)/\i6 s k/\eM (bt s k)=false/\Inv w0 b s (k:Nat) (e:Nat) acc W
 | 2=>n=s.size+2/\bt s k=45/\Inv w0 b s (k:Nat) ((k+1:Nat):Int) acc W
 | 3=>n=1/\bt s k=93/\Inv w0 b s (k:Nat) ((k+1:Nat):Int) acc W
 | 4=>n=1/\bt s k=46/\Inv w0 b s (k:Nat) ((k+1:Nat):Int) acc W
 | 5=>n=2/\bt s k=60/\Inv w0 b s (k:Nat) ((k+1:Nat):Int) acc W
 | 6=>n=1/\(bt s k=62\/(bt s k=60/\bt s (k+1)≠62))/\Inv w0 b s (k:Nat) ((k+1:Nat):Int) acc W
 | 7=>n=0/\eM (bt s k)=false/\¬i6 s k/\0<aG s k/\Inv w0 b s (k:Nat) ((k+aG s k:Nat):Int) acc W
 | _=>False
def Ja(w0:World)(b:Nat)(s:ByteArray)(k:Nat)(acc:List Tok)(e:Ending)(W:World):Prop:=
 (e=.returned (.bool true)/\∃en t,one s k=some (en,t)/\Inv w0 b s (k:Nat) (en:Nat) (acc++[t]) W)\/
 (e=.returned (.bool false)/\one s k=none/\Below w0.heap.size w0 W)
def BM(c o:Int):Prop:=
 (o=0->eM c=false/\cm c=false/\c≠45/\c≠93/\c≠46/\c≠60/\c≠62/\c≠40/\c≠41/\c≠58/\c≠44/\c≠61/\c≠42/\c≠123/\c≠125)/\
 (o=1->eM c=true)/\(o=2->cm c=true/\eM c=false)/\(o=3->c=45)/\(o=4->c=93)/\(o=5->c=46)/\(o=6->c=60)/\(o=7->c=62)/\
 (o=8->c=40\/c=41\/c=58\/c=44\/c=61\/c=42\/c=123\/c=125)
theorem QV(c:Int):BM c (lZ c):=by
 unfold BM lZ;by_cases h1:c=45
 ·subst h1;simp
 by_cases b:c=93
 ·subst b;simp
 by_cases d:c=46
 ·subst d;simp
 by_cases f:c=60
 ·subst f;simp
 by_cases g:c=62
 ·subst g;simp
 rw[bk h1,bk b,bk d,bk f,bk g];by_cases a:c=40\/c=41\/c=58\/c=44\/c=61\/c=42\/c=123\/c=125
 ·rw[a8 a];simp;exact a
 ·rw[bk a];cases i:eM c with
  | true=>simp
  | false=>
   cases h:cm c with
   | true=>simp
   | false=>simp;omega
theorem ne_of_beq_false{x y:Int}(h:(x==y)=false):x≠y:=by simpa using h
theorem KW(c:Int):lZ c=0\/lZ c=1\/lZ c=2\/lZ c=3\/lZ c=4\/lZ c=5\/lZ c=6\/lZ c=7\/lZ c=8:=by
 unfold lZ;repeat' split
 all_goals simp
theorem jY(h1:¬(48<=bt s k/\bt s k<=57))(a:bt s k≠45\/cm (bt s (k+1))=false):¬i6 s k:=by
 rintro (h|⟨h,b⟩)
 ·exact h1 (rO h)
 ·rcases a with a|a
  ·exact a h
  ·rw[a] at b;cases b
theorem SO(h:bt s k≠45/\bt s k≠93/\bt s k≠46/\bt s k≠60/\bt s k≠62/\bt s k≠40/\bt s k≠41/\bt s k≠58/\bt s k≠44/\bt s k≠61/\bt s k≠42/\bt s k≠123/\bt s k≠125):aG s k=0:=by
 unfold aG;simp only
 repeat' split
 all_goals omega
theorem oS(h:bt s k=40\/bt s k=41\/bt s k=58\/bt s k=44\/bt s k=61\/bt s k=42\/bt s k=123\/bt s k=125):aG s k=1:=by
 unfold aG;simp only
 repeat' split
 all_goals omega
theorem token(hg:w0.cell? ⟨7,0,none⟩=some ev)(A0:ev=.nilIface\/∃te pe,ev=.iface te pe) 
  (hinv:Inv w0 b s f (k:Nat) acc W) (D:s.size<=2000) (hk:k<s.size) (S:acc.length<=2000):
  Calls prog 161 #[.pointer (some ⟨b,0,none⟩)] W (Ja w0 b s k acc):=by
 have HG:qv (w0.cell? ⟨7,0,none⟩=some ev):=hg;have A2:qv (ev=.nilIface\/∃te pe,ev=.iface te pe):=A0;clear hg A0;go_enter func161,ntmps161
 go_wp2
 refine wD (JT w0 b s k acc) ?_ ?_
 ·have i:qv (Inv w0 b s f (k:Nat) acc W):=hinv;obtain⟨lv,U,J⟩:=hinv.cut;obtain⟨c0,c1,c2,c3⟩:=U.cells;have f1:=U.free 1;have f2:=U.free 2;clear hinv U J c3
  go_wp2
  have a:Inv w0 b s (k:Nat) ((k+1:Nat):Int) acc ((W.setCell ⟨b,1,none⟩ (.int .i64 (k:Int))).setCell ⟨b,2,none⟩ (.int .i64 ((k:Int)+1))):=by
   rw[show ((k+1:Nat):Int)=(k:Int)+1 from by omega];exact(i.o.BN (k:Int)).setAt ((k:Int)+1)
  generalize (W.setCell ⟨b,1,none⟩ (.int .i64 (k:Int))).setCell ⟨b,2,none⟩ (.int .i64 ((k:Int)+1))=C at a⊢;clear i c0 c1 c2 f1 f2;have i:qv (Inv w0 b s (k:Nat) ((k+1:Nat):Int) acc C):=a;obtain⟨A8,U,J⟩:=a.cut;obtain⟨c0,c1,c2,c3⟩:=U.cells;clear a U J c2 c3;have HC:qv (BM (bt s k) (lZ (bt s k))):=QV _;have T:=KW ((s[k]'hk).toNat:Int);go_quiet ((go_at_call 218;exact Calls.quiet_of_same (PA _ _)))
  rcases T with J|J|J|J|J|J|J|J|J
  all_goals
   have L:qv (BM (bt s k) (lZ ((s[k]'hk).toNat:Int))):=by rw[bX hk];exact HC.o
   rw[J] at L;clear HC
  ·go_wp2
   simp only[iA];go_ret;obtain⟨h1,h2,h3⟩:=L.o.1 rfl;have h4:=Gs h2;exact a6 ⟨rfl,kD h1 (jY h4 (ad h3.1)) (SO h3),(i.o.drew nq).below⟩
  ·go_wp2
   go_step3
   have h1:=L.o.2.1 rfl;exact⟨_,⟨_,_,_,_,_,_,_,_,_,_,_,_,_,_,_,_,_,_,_,_,_,_,_,_,_,_,_,_,_,_,_,_,_,_,_,_,_,_,_,_,_,_,_,_,_,_,_,_,_,_,_,_,_,_,_,_,_,_,_,_,_,_,_,_,_,_,_,_,_,_,rfl⟩,k+1,by omega,by omega,rfl,(jZ hk (by unfold fR;rw[h1];rfl)).symm,h1,i.o.drew nq⟩
  ·go_wp2
   go_step3
   have h1:=L.o.2.2.1 rfl;exact⟨_,⟨_,_,_,_,_,_,_,_,_,_,_,_,_,_,_,_,_,_,_,_,_,_,_,_,_,_,_,_,_,_,_,_,_,_,_,_,_,_,_,_,_,_,_,_,_,_,_,_,_,_,_,_,_,_,_,_,_,_,_,_,_,_,_,_,_,_,_,_,_,_,rfl⟩,k+1,by omega,by omega,rfl,rfl,ad h1.1,h1.2,i.o.drew nq⟩
  ·go_wp2
   go_step3
   exact⟨_,⟨_,_,_,_,_,_,_,_,_,_,_,_,_,_,_,_,_,_,_,_,_,_,_,_,_,_,_,_,_,_,_,_,_,_,_,_,_,_,_,_,_,_,_,_,_,_,_,_,_,_,_,_,_,_,_,_,_,_,_,_,_,_,_,_,_,_,_,_,_,_,rfl⟩,rfl,L.o.2.2.2.1 rfl,i.o.drew nq⟩
  ·go_wp2
   go_step3
   exact⟨_,⟨_,_,_,_,_,_,_,_,_,_,_,_,_,_,_,_,_,_,_,_,_,_,_,_,_,_,_,_,_,_,_,_,_,_,_,_,_,_,_,_,_,_,_,_,_,_,_,_,_,_,_,_,_,_,_,_,_,_,_,_,_,_,_,_,_,_,_,_,_,_,rfl⟩,rfl,L.o.2.2.2.2.1 rfl,i.o.drew nq⟩
  ·go_wp2
   go_step3
   exact⟨_,⟨_,_,_,_,_,_,_,_,_,_,_,_,_,_,_,_,_,_,_,_,_,_,_,_,_,_,_,_,_,_,_,_,_,_,_,_,_,_,_,_,_,_,_,_,_,_,_,_,_,_,_,_,_,_,_,_,_,_,_,_,_,_,_,_,_,_,_,_,_,_,rfl⟩,rfl,L.o.2.2.2.2.2.1 rfl,i.o.drew nq⟩
  ·go_wp2
   go_step3
   exact⟨_,⟨_,_,_,_,_,_,_,_,_,_,_,_,_,_,_,_,_,_,_,_,_,_,_,_,_,_,_,_,_,_,_,_,_,_,_,_,_,_,_,_,_,_,_,_,_,_,_,_,_,_,_,_,_,_,_,_,_,_,_,_,_,_,_,_,_,_,_,_,_,_,rfl⟩,rfl,L.o.2.2.2.2.2.2.1 rfl,i.o.drew nq⟩
  ·go_wp2
   go_step3
   exact⟨_,⟨_,_,_,_,_,_,_,_,_,_,_,_,_,_,_,_,_,_,_,_,_,_,_,_,_,_,_,_,_,_,_,_,_,_,_,_,_,_,_,_,_,_,_,_,_,_,_,_,_,_,_,_,_,_,_,_,_,_,_,_,_,_,_,_,_,_,_,_,_,_,rfl⟩,rfl,ad (L.o.2.2.2.2.2.2.2.1 rfl),i.o.drew nq⟩
  ·go_wp2
   go_step3
   have h1:=L.o.2.2.2.2.2.2.2.2 rfl;have h2:=oS h1;exact⟨_,⟨_,_,_,_,_,_,_,_,_,_,_,_,_,_,_,_,_,_,_,_,_,_,_,_,_,_,_,_,_,_,_,_,_,_,_,_,_,_,_,_,_,_,_,_,_,_,_,_,_,_,_,_,_,_,_,_,_,_,_,_,_,_,_,_,_,_,_,_,_,_,rfl⟩,rfl,fO (by omega),jY (by omega) (ad (by omega)),by omega,by rw[h2];exact i.o.drew nq⟩
 ·intro n l a' R hJ;obtain⟨A4,A⟩:=hJ;obtain⟨u3,u4,u5,u6,u7,u8,u9,A9,Aa,Ab,Ad,Ae,Af,u16,Ag,Ah,Ai,Aj,Ak,Al,Am,An,Ao,Ap,Aq,Ar,As,At,Au,u32,Av,Aw,Ax,Ay,Az,B0,B1,B2,B3,B4,B5,B6,B7,B8,B9,Ba,Bb,Bc,Bd,Be,Bf,Bg,Bh,Bi,Bj,Bk,Bl,Bm,Bn,Bo,Bp,u64,Bq,Br,Bs,Bt,Bu,Bv,Bw,Bx,rfl⟩:=A4
  match l,A with
  | 0,A=>
   obtain⟨e,A3,q,rfl,K,hl,u⟩:=A;have i:qv (Inv w0 b s (k:Nat) (e:Nat) acc R):=u;have I:qv (span fR s e=span fR s k):=K;have P:qv (eM (bt s k)=true):=hl;clear u K hl;refine⟨_,rfl,?_⟩;cases z:eM (bt s e) with
   | true=>
    have Z:qv (eM (bt s e)=true):=z;have het:e<s.size:=ju z Ea;have F:qv (span fR s (e+1)=span fR s k):=by show _=_;rw[<-I.o];exact(jZ het (by unfold fR;rw[z];rfl)).symm
    clear z;go_wp2_with (first|(go_at_call_of 216 (Value.func (Fn.func (158:Nat)) #[] #[]);refine(zK i.o D Z.o).mono ?_;rintro H C ⟨rfl,a⟩;have c:=p9 a;clear a))
    go_step3
    exact⟨_,by omega,⟨_,_,_,_,_,_,_,_,_,_,_,_,_,_,_,_,_,_,_,_,_,_,_,_,_,_,_,_,_,_,_,_,_,_,_,_,_,_,_,_,_,_,_,_,_,_,_,_,_,_,_,_,_,_,_,_,_,_,_,_,_,_,_,_,_,_,_,_,_,_,rfl⟩,e+1,by omega,by omega,rfl,F.o,P.o,c.o⟩
   | false=>
    have Z:qv (eM (bt s e)=false):=z;cases g:cm (bt s e) with
    | true=>
     have G:qv (cm (bt s e)=true):=g;have het:e<s.size:=ju g tC;have F:qv (span fR s (e+1)=span fR s k):=by show _=_;rw[<-I.o];exact(jZ het (by unfold fR;rw[z,g];rfl)).symm
     clear z g;go_wp2_with (first|(go_at_call_of 216 (Value.func (Fn.func (158:Nat)) #[] #[]);refine(pN i.o q Z.o).mono ?_;rintro H C ⟨rfl,a⟩;have c:=p9 a;clear a)|(go_at_call_of 216 (Value.func (Fn.func (159:Nat)) #[] #[]);refine(o6 c.o D G.o).mono ?_;rintro O N ⟨rfl,d⟩;have j:=p9 d;clear d))
     go_step3
     exact⟨_,by omega,⟨_,_,_,_,_,_,_,_,_,_,_,_,_,_,_,_,_,_,_,_,_,_,_,_,_,_,_,_,_,_,_,_,_,_,_,_,_,_,_,_,_,_,_,_,_,_,_,_,_,_,_,_,_,_,_,_,_,_,_,_,_,_,_,_,_,_,_,_,_,_,rfl⟩,e+1,by omega,by omega,rfl,F.o,P.o,j.o⟩
    | false=>
     have G:qv (cm (bt s e)=false):=g;have V:qv (span fR s k=e):=by show _=_;rw[<-I.o];exact kt (fun _=>by unfold fR;rw[z,g];rfl)
     clear z g;by_cases h8:8<e - k
     ·have h:qv (one s k=none):=tR hk (by rw[bX hk];exact P.o) V.o h8;go_wp2_with (first|(go_at_call_of 216 (Value.func (Fn.func (158:Nat)) #[] #[]);refine(pN i.o q Z.o).mono ?_;rintro H C ⟨rfl,a⟩;have c:=p9 a;clear a)|(go_at_call_of 216 (Value.func (Fn.func (159:Nat)) #[] #[]);refine(mj c.o q G.o).mono ?_;rintro O N ⟨rfl,d⟩;have j:=p9 d;clear d)|(go_at_call 219;refine(JC j.o D (by omega) q h8).mono ?_;rintro e3 W3 ⟨rfl,w⟩;have E:=p9 w;clear w))
      simp only[iA];go_ret;exact a6 ⟨rfl,h.o,E.o.below⟩
     ·have h:qv (one s k=some (e,⟨1,s.extract k e,0⟩)):=ES hk (by rw[bX hk];exact P.o) V.o (by omega);go_wp2_with (first|(go_at_call_of 216 (Value.func (Fn.func (158:Nat)) #[] #[]);refine(pN i.o q Z.o).mono ?_;rintro H C ⟨rfl,a⟩;have c:=p9 a;clear a)|(go_at_call_of 216 (Value.func (Fn.func (159:Nat)) #[] #[]);refine(mj c.o q G.o).mono ?_;rintro O N ⟨rfl,d⟩;have j:=p9 d;clear d)|(go_at_call 219;refine(Fk j.o D (by omega) q S (by omega)).mono ?_;rintro e3 W3 ⟨rfl,w⟩;have E:=p9 w;clear w))
      simp only[iA];go_ret;exact ad ⟨rfl,e,_,h.o,E.o⟩
  | 1,A=>
   obtain⟨e,A3,q,rfl,K,A1,hl,u⟩:=A;have i:qv (Inv w0 b s (k:Nat) (e:Nat) acc R):=u;have I:qv (span cm s e=span cm s (k+1)):=K;have M:qv (i6 s k):=A1;have P:qv (eM (bt s k)=false):=hl;clear u K hl A1;refine⟨_,rfl,?_⟩;cases g:cm (bt s e) with
   | true=>
    have G:qv (cm (bt s e)=true):=g;have het:e<s.size:=ju g tC;have F:qv (span cm s (e+1)=span cm s (k+1)):=by show _=_;rw[<-I.o];exact(jZ het g).symm
    clear g;go_wp2_with (first|(go_at_call_of 216 (Value.func (Fn.func (159:Nat)) #[] #[]);refine(o6 i.o D G.o).mono ?_;rintro O N ⟨rfl,d⟩;have j:=p9 d;clear d))
    go_step3
    exact⟨_,by omega,⟨_,_,_,_,_,_,_,_,_,_,_,_,_,_,_,_,_,_,_,_,_,_,_,_,_,_,_,_,_,_,_,_,_,_,_,_,_,_,_,_,_,_,_,_,_,_,_,_,_,_,_,_,_,_,_,_,_,_,_,_,_,_,_,_,_,_,_,_,_,_,rfl⟩,e+1,by omega,by omega,rfl,F.o,M.o,P.o,j.o⟩
   | false=>
    have G:qv (cm (bt s e)=false):=g;have V:qv (span cm s (k+1)=e):=by show _=_;rw[<-I.o];exact kt (fun _=>g)
    clear g;have Q:qv (nR (s.extract k e)):=yK hk M.o V.o;cases X:je (s.extract k e).data.toList with
    | none=>
     have HV:qv (je (s.extract k e).data.toList=none):=X;have h:qv (one s k=none):=wg P.o M.o V.o X;clear X;go_wp2_with (first|(go_at_call_of 216 (Value.func (Fn.func (159:Nat)) #[] #[]);refine(mj i.o q G.o).mono ?_;rintro O N ⟨rfl,d⟩;have j:=p9 d;clear d)|(go_at_call 220;refine(zL HG.o A2.o j.o D (by omega) q rfl Q.o HV.o).mono ?_;rintro e3 W3 ⟨rfl,w⟩;have E:=p9 w;clear w))
     simp only[iA];go_ret;exact a6 ⟨rfl,h.o,E.o.below⟩
    | some v=>
     have HV:qv (je (s.extract k e).data.toList=some v):=X;have h:qv (one s k=some (e,⟨2,s.extract k e,v⟩)):=one_num P.o M.o V.o X;clear X;go_wp2_with (first|(go_at_call_of 216 (Value.func (Fn.func (159:Nat)) #[] #[]);refine(mj i.o q G.o).mono ?_;rintro O N ⟨rfl,d⟩;have j:=p9 d;clear d)|(go_at_call 220;refine(Ac j.o D (by omega) q S rfl Q.o HV.o).mono ?_;rintro e3 W3 ⟨rfl,w⟩;have E:=p9 w;clear w))
     simp only[iA];go_ret;exact ad ⟨rfl,e,_,h.o,E.o⟩
  | 2,A=>
   obtain⟨rfl,r,u⟩:=A;have i:qv (Inv w0 b s (k:Nat) ((k+1:Nat):Int) acc R):=u;have m:qv (bt s k=45):=r;clear u r;refine⟨_,rfl,?_⟩;cases t:(bt s (k+1)==91) with
   | true=>
    have p:qv ((bt s (k+1)==91)=true):=t;clear t;have y:qv (aG s k=2):=by
     have r:=m.o;have B:=eq_of_beq p.o;show aG s k=2;unfold aG;simp only
     repeat' split
     all_goals omega
    have HD:qv (cm (bt s (k+1))=false):=lM (by have:=eq_of_beq p.o;omega);go_wp2_with (first|(go_at_call_of 160 (Value.int IntKind.u8 91);refine(lQ (by omega) i.o D p.o).mono ?_;rintro H C ⟨rfl,a⟩;have c:=p9 a;clear a))
    go_step3
    exact⟨_,by omega,⟨_,_,_,_,_,_,_,_,_,_,_,_,_,_,_,_,_,_,_,_,_,_,_,_,_,_,_,_,_,_,_,_,_,_,_,_,_,_,_,_,_,_,_,_,_,_,_,_,_,_,_,_,_,_,_,_,_,_,_,_,_,_,_,_,_,_,_,_,_,_,rfl⟩,rfl,fO (by have:=m.o;omega),jY (by have:=m.o;omega) (a6 HD.o),by rw[y.o];omega,by rw[y.o];exact c.o⟩
   | false=>
    have p:qv ((bt s (k+1)==91)=false):=t;clear t;cases g:cm (bt s (k+1)) with
    | true=>
     have G:qv (cm (bt s (k+1))=true):=g;have het:k+1<s.size:=ju g tC;have F:qv (span cm s (k+1+1)=span cm s (k+1)):=(jZ het g).symm;clear g;go_wp2_with (first|(go_at_call_of 160 (Value.int IntKind.u8 91);refine(mM i.o (by omega) p.o).mono ?_;rintro H C ⟨rfl,a⟩;have c:=p9 a;clear a)|(go_at_call_of 216 (Value.func (Fn.func (159:Nat)) #[] #[]);refine(o6 c.o D G.o).mono ?_;rintro O N ⟨rfl,d⟩;have j:=p9 d;clear d))
     go_step3
     exact⟨_,by omega,⟨_,_,_,_,_,_,_,_,_,_,_,_,_,_,_,_,_,_,_,_,_,_,_,_,_,_,_,_,_,_,_,_,_,_,_,_,_,_,_,_,_,_,_,_,_,_,_,_,_,_,_,_,_,_,_,_,_,_,_,_,_,_,_,_,_,_,_,_,_,_,rfl⟩,k+1+1,by omega,by omega,rfl,F.o,a6 ⟨m.o,G.o⟩,fO (by have:=m.o;omega),j.o⟩
    | false=>
     have G:qv (cm (bt s (k+1))=false):=g;clear g;have h:qv (one s k=none):=by
      have r:=m.o;have B:=ne_of_beq_false p.o;refine kD (fO (by omega)) (jY (by omega) (a6 G.o)) ?_;unfold aG;simp only
      repeat' split
      all_goals omega
     go_wp2_with (first|(go_at_call_of 160 (Value.int IntKind.u8 91);refine(mM i.o (by omega) p.o).mono ?_;rintro H C ⟨rfl,a⟩;have c:=p9 a;clear a)|(go_at_call_of 216 (Value.func (Fn.func (159:Nat)) #[] #[]);refine(mj c.o (by omega) G.o).mono ?_;rintro O N ⟨rfl,d⟩;have j:=p9 d;clear d))
     simp only[iA];go_ret;exact a6 ⟨rfl,h.o,j.o.below⟩
  | 3,A=>
   obtain⟨rfl,r,u⟩:=A;have i:qv (Inv w0 b s (k:Nat) ((k+1:Nat):Int) acc R):=u;have m:qv (bt s k=93):=r;clear u r;refine⟨_,rfl,?_⟩;cases t:(bt s (k+1)==45) with
   | true=>
    have p:qv ((bt s (k+1)==45)=true):=t;clear t;have het:k+1<s.size:=AW (by have:=eq_of_beq p.o;omega);cases hr:(bt s (k+1+1)==62) with
    | true=>
     have Y:qv ((bt s (k+1+1)==62)=true):=hr;clear hr;have y:qv (aG s k=3):=by
      have r:=m.o;have B:=eq_of_beq p.o;have A6:bt s (k+2)=62:=eq_of_beq Y.o;show aG s k=3;unfold aG;simp only
      repeat' split
      all_goals omega
     go_wp2_with (first|(go_at_call_of 160 (Value.int IntKind.u8 45);refine(lQ (by omega) i.o D p.o).mono ?_;rintro H C ⟨rfl,a⟩;have c:=p9 a;clear a)|(go_at_call_of 160 (Value.int IntKind.u8 62);refine(lQ (by omega) c.o D Y.o).mono ?_;rintro O N ⟨rfl,d⟩;have j:=p9 d;clear d))
     go_step3
     exact⟨_,by omega,⟨_,_,_,_,_,_,_,_,_,_,_,_,_,_,_,_,_,_,_,_,_,_,_,_,_,_,_,_,_,_,_,_,_,_,_,_,_,_,_,_,_,_,_,_,_,_,_,_,_,_,_,_,_,_,_,_,_,_,_,_,_,_,_,_,_,_,_,_,_,_,rfl⟩,rfl,fO (by have:=m.o;omega),jY (by have:=m.o;omega) (ad (by have:=m.o;omega)),by rw[y.o];omega,by rw[y.o];exact j.o⟩
    | false=>
     have Y:qv ((bt s (k+1+1)==62)=false):=hr;clear hr;have h:qv (one s k=none):=by
      have r:=m.o;have B:=eq_of_beq p.o;have A6:bt s (k+2)≠62:=ne_of_beq_false Y.o;refine kD (fO (by omega)) (jY (by omega) (ad (by omega))) ?_;unfold aG;simp only
      repeat' split
      all_goals omega
     go_wp2_with (first|(go_at_call_of 160 (Value.int IntKind.u8 45);refine(lQ (by omega) i.o D p.o).mono ?_;rintro H C ⟨rfl,a⟩;have c:=p9 a;clear a)|(go_at_call_of 160 (Value.int IntKind.u8 62);refine(mM c.o (by omega) Y.o).mono ?_;rintro O N ⟨rfl,d⟩;have j:=p9 d;clear d))
     simp only[iA];go_ret;exact a6 ⟨rfl,h.o,j.o.below⟩
   | false=>
    have p:qv ((bt s (k+1)==45)=false):=t;clear t;have h:qv (one s k=none):=by
     have r:=m.o;have B:=ne_of_beq_false p.o;refine kD (fO (by omega)) (jY (by omega) (ad (by omega))) ?_;unfold aG;simp only
     repeat' split
     all_goals omega
    go_wp2_with (first|(go_at_call_of 160 (Value.int IntKind.u8 45);refine(mM i.o (by omega) p.o).mono ?_;rintro H C ⟨rfl,a⟩;have c:=p9 a;clear a))
    simp only[iA];go_ret;exact a6 ⟨rfl,h.o,c.o.below⟩
  | 4,A=>
   obtain⟨rfl,r,u⟩:=A;have i:qv (Inv w0 b s (k:Nat) ((k+1:Nat):Int) acc R):=u;have m:qv (bt s k=46):=r;clear u r;refine⟨_,rfl,?_⟩;cases t:(bt s (k+1)==46) with
   | true=>
    have p:qv ((bt s (k+1)==46)=true):=t;clear t;have y:qv (aG s k=2):=by
     have r:=m.o;have B:=eq_of_beq p.o;show aG s k=2;unfold aG;simp only
     repeat' split
     all_goals omega
    go_wp2_with (first|(go_at_call_of 160 (Value.int IntKind.u8 46);refine(lQ (by omega) i.o D p.o).mono ?_;rintro H C ⟨rfl,a⟩;have c:=p9 a;clear a))
    go_step3
    exact⟨_,by omega,⟨_,_,_,_,_,_,_,_,_,_,_,_,_,_,_,_,_,_,_,_,_,_,_,_,_,_,_,_,_,_,_,_,_,_,_,_,_,_,_,_,_,_,_,_,_,_,_,_,_,_,_,_,_,_,_,_,_,_,_,_,_,_,_,_,_,_,_,_,_,_,rfl⟩,rfl,fO (by have:=m.o;omega),jY (by have:=m.o;omega) (ad (by have:=m.o;omega)),by rw[y.o];omega,by rw[y.o];exact c.o⟩
   | false=>
    have p:qv ((bt s (k+1)==46)=false):=t;clear t;have y:qv (aG s k=1):=by
     have r:=m.o;have B:=ne_of_beq_false p.o;show aG s k=1;unfold aG;simp only
     repeat' split
     all_goals omega
    go_wp2_with (first|(go_at_call_of 160 (Value.int IntKind.u8 46);refine(mM i.o (by omega) p.o).mono ?_;rintro H C ⟨rfl,a⟩;have c:=p9 a;clear a))
    go_step3
    exact⟨_,by omega,⟨_,_,_,_,_,_,_,_,_,_,_,_,_,_,_,_,_,_,_,_,_,_,_,_,_,_,_,_,_,_,_,_,_,_,_,_,_,_,_,_,_,_,_,_,_,_,_,_,_,_,_,_,_,_,_,_,_,_,_,_,_,_,_,_,_,_,_,_,_,_,rfl⟩,rfl,fO (by have:=m.o;omega),jY (by have:=m.o;omega) (ad (by have:=m.o;omega)),by rw[y.o];omega,by rw[y.o];exact c.o⟩
  | 5,A=>
   obtain⟨rfl,r,u⟩:=A;have i:qv (Inv w0 b s (k:Nat) ((k+1:Nat):Int) acc R):=u;have m:qv (bt s k=60):=r;clear u r;refine⟨_,rfl,?_⟩;cases t:(bt s (k+1)==62) with
   | true=>
    have p:qv ((bt s (k+1)==62)=true):=t;clear t;have y:qv (aG s k=2):=by
     have r:=m.o;have B:=eq_of_beq p.o;show aG s k=2;unfold aG;simp only
     repeat' split
     all_goals omega
    go_wp2_with (first|(go_at_call_of 160 (Value.int IntKind.u8 62);refine(lQ (by omega) i.o D p.o).mono ?_;rintro H C ⟨rfl,a⟩;have c:=p9 a;clear a))
    go_step3
    exact⟨_,by omega,⟨_,_,_,_,_,_,_,_,_,_,_,_,_,_,_,_,_,_,_,_,_,_,_,_,_,_,_,_,_,_,_,_,_,_,_,_,_,_,_,_,_,_,_,_,_,_,_,_,_,_,_,_,_,_,_,_,_,_,_,_,_,_,_,_,_,_,_,_,_,_,rfl⟩,rfl,fO (by have:=m.o;omega),jY (by have:=m.o;omega) (ad (by have:=m.o;omega)),by rw[y.o];omega,by rw[y.o];exact c.o⟩
   | false=>
    have p:qv ((bt s (k+1)==62)=false):=t;clear t;go_wp2_with (first|(go_at_call_of 160 (Value.int IntKind.u8 62);refine(mM i.o (by omega) p.o).mono ?_;rintro H C ⟨rfl,a⟩;have c:=p9 a;clear a))
    go_step3
    exact⟨_,by omega,⟨_,_,_,_,_,_,_,_,_,_,_,_,_,_,_,_,_,_,_,_,_,_,_,_,_,_,_,_,_,_,_,_,_,_,_,_,_,_,_,_,_,_,_,_,_,_,_,_,_,_,_,_,_,_,_,_,_,_,_,_,_,_,_,_,_,_,_,_,_,_,rfl⟩,rfl,a6 ⟨m.o,ne_of_beq_false p.o⟩,c.o⟩
  | 6,A=>
   obtain⟨rfl,r,u⟩:=A;have i:qv (Inv w0 b s (k:Nat) ((k+1:Nat):Int) acc R):=u;have m:qv (bt s k=62\/(bt s k=60/\bt s (k+1)≠62)):=r;clear u r;refine⟨_,rfl,?_⟩;cases t:(bt s (k+1)==61) with
   | true=>
    have p:qv ((bt s (k+1)==61)=true):=t;clear t;have y:qv (aG s k=2):=by
     have r:=m.o;have B:=eq_of_beq p.o;show aG s k=2;unfold aG;simp only
     repeat' split
     all_goals omega
    go_wp2_with (first|(go_at_call_of 160 (Value.int IntKind.u8 61);refine(lQ (by omega) i.o D p.o).mono ?_;rintro H C ⟨rfl,a⟩;have c:=p9 a;clear a))
    go_step3
    exact⟨_,by omega,⟨_,_,_,_,_,_,_,_,_,_,_,_,_,_,_,_,_,_,_,_,_,_,_,_,_,_,_,_,_,_,_,_,_,_,_,_,_,_,_,_,_,_,_,_,_,_,_,_,_,_,_,_,_,_,_,_,_,_,_,_,_,_,_,_,_,_,_,_,_,_,rfl⟩,rfl,fO (by have:=m.o;omega),jY (by have:=m.o;omega) (ad (by have:=m.o;omega)),by rw[y.o];omega,by rw[y.o];exact c.o⟩
   | false=>
    have p:qv ((bt s (k+1)==61)=false):=t;clear t;have y:qv (aG s k=1):=by
     have r:=m.o;have B:=ne_of_beq_false p.o;show aG s k=1;unfold aG;simp only
     repeat' split
     all_goals omega
    go_wp2_with (first|(go_at_call_of 160 (Value.int IntKind.u8 61);refine(mM i.o (by omega) p.o).mono ?_;rintro H C ⟨rfl,a⟩;have c:=p9 a;clear a))
    go_step3
    exact⟨_,by omega,⟨_,_,_,_,_,_,_,_,_,_,_,_,_,_,_,_,_,_,_,_,_,_,_,_,_,_,_,_,_,_,_,_,_,_,_,_,_,_,_,_,_,_,_,_,_,_,_,_,_,_,_,_,_,_,_,_,_,_,_,_,_,_,_,_,_,_,_,_,_,_,rfl⟩,rfl,fO (by have:=m.o;omega),jY (by have:=m.o;omega) (ad (by have:=m.o;omega)),by rw[y.o];omega,by rw[y.o];exact c.o⟩
  | 7,A=>
   obtain⟨rfl,h1,h2,A5,u⟩:=A;have i:qv (Inv w0 b s (k:Nat) ((k+aG s k:Nat):Int) acc R):=u;clear u;have A7:=pG hk;refine⟨_,rfl,?_⟩;go_wp2_with (go_at_call 221;refine(add 3 0 i.o D (by omega) (by omega) S).mono ?_;rintro e W3 ⟨rfl,h3⟩)
   simp only[iA];go_ret;exact ad ⟨rfl,_,_,Dn h1 h2 A5,h3⟩
  | x+8,A=>exact A.elim
theorem M7(l:w0.cell? ⟨7,0,none⟩=some ev)(c:ev=.nilIface\/∃te pe,ev=.iface te pe){d:Nat}{t:Tok} 
  (hinv:Inv w0 b s f (k:Nat) acc W) (m:s.size<=2000) (hk:k<s.size) (a:acc.length<=2000) (g:one s k=some (d,t)):
  Calls prog 161 #[.pointer (some ⟨b,0,none⟩)] W fun e W'=>e=.returned (.bool true)/\Inv w0 b s (k:Nat) (d:Nat) (acc++[t]) W':=by
 refine(token l c hinv m hk a).mono ?_;rintro e W' (⟨he,h,n,h1,i⟩|⟨_,h1,_⟩)
 ·rw[g] at h1;injection h1 with h1;injection h1 with h1 j;subst h1;subst j
  exact⟨he,i⟩
 ·rw[g] at h1;cases h1
theorem PS(h:w0.cell? ⟨7,0,none⟩=some ev)(c:ev=.nilIface\/∃te pe,ev=.iface te pe) 
  (hinv:Inv w0 b s f (k:Nat) acc W) (j:s.size<=2000) (hk:k<s.size) (a:acc.length<=2000) (i:one s k=none):
  Calls prog 161 #[.pointer (some ⟨b,0,none⟩)] W fun e W'=>e=.returned (.bool false)/\Below w0.heap.size w0 W':=by
 refine(token h c hinv j hk a).mono ?_;rintro e W' (⟨he,g,l,h1,d⟩|⟨he,_,d⟩)
 ·rw[i] at h1;cases h1
 ·exact⟨he,d⟩
def OH(w0:World)(b:Nat)(s:ByteArray)(e:Ending)(W:World):Prop:=
 (e=.returned (.bool true)/\∃ts f k,run s 0=some ts/\Inv w0 b s f k ts W)\/(e=.returned (.bool false)/\run s 0=none/\Below w0.heap.size w0 W)
theorem cut{n W:World}{ev:Value}(G:n.cell? ⟨7,0,none⟩=some ev)(w:ev=.nilIface\/∃te pe,ev=.iface te pe){b:Nat}{s:ByteArray}{f:Int}(hinv:Inv n b s f ((0:Nat):Int) [] W)(C:s.size<=2000):
  Calls prog 116 #[.pointer (some ⟨b,0,none⟩)] W (OH n b s):=by
 have D:qv (n.cell? ⟨7,0,none⟩=some ev):=G;have q:qv (ev=.nilIface\/∃te pe,ev=.iface te pe):=w;have r:qv (Inv n b s f ((0:Nat):Int) [] W):=hinv;clear G w hinv;go_enter func116,ntmps116
 go_wp2
 go_loopg [2] s.size (fun g u wr=>u=.bool false/\∃(k:Nat) (f:Int) (acc:List Tok),k<=s.size/\g=s.size - k/\kr s k acc/\acc.length<=k/\Inv n b s f (k:Nat) acc wr)
 case atStart=>exact⟨rfl,0,f,[],by omega,by omega,wC s,by simp,r.o⟩
 case round=>
  obtain⟨rfl,k,f,acc,hk,rfl,x,L,B⟩:=hrel;have j:qv (kr s k acc):=x;have y:qv (Inv n b s f (k:Nat) acc wr):=B;obtain⟨P,H,N⟩:=B.cut;obtain⟨O,c1,c2,J⟩:=H.cells;clear B H N c1 J x r;by_cases d:k<s.size
  ·go_wp2
   go_quiet (fail)
   cases z:(bt s k==32) with
   | true=>
    have l:qv ((bt s k==32)=true):=z;clear z;go_wp2_with (go_at_call 160;refine(lQ (by omega) (y.o.drew nq) C l.o).mono ?_;rintro F E ⟨rfl,a⟩;have h:=p9 a;clear a)
    go_roundg (s.size - (k+1))
    case measure=>omega
    case rel=>exact⟨rfl,k+1,f,acc,by omega,rfl,j.o.blank d (eq_of_beq l.o),by omega,h.o⟩
   | false=>
    have l:qv ((bt s k==32)=false):=z;clear z;cases c:one s k with
    | none=>
     have v:qv (one s k=none):=c;clear c;go_wp2_with (first|(go_at_call 160;refine(mM (y.o.drew nq) hk l.o).mono ?_;rintro F E ⟨rfl,a⟩;have h:=p9 a;clear a)|(go_at_call 161;refine(PS D.o q.o h.o C d (by omega) v.o).mono ?_;rintro K I ⟨rfl,i⟩;have m:=p9 i;clear i))
     go_ret;exact a6 ⟨rfl,j.o.bad d (ne_of_beq_false l.o) v.o,m.o⟩
    | some p=>
     obtain⟨A,t⟩:=p;have v:qv (one s k=some (A,t)):=c;have M:=qo c d;clear c;go_wp2_with (first|(go_at_call 160;refine(mM (y.o.drew nq) hk l.o).mono ?_;rintro F E ⟨rfl,a⟩;have h:=p9 a;clear a)|(go_at_call 161;refine(M7 D.o q.o h.o C d (by omega) v.o).mono ?_;rintro K I ⟨rfl,i⟩;have m:=p9 i;clear i))
     go_roundg (s.size - A)
     case measure=>omega
     case rel=>exact⟨rfl,A,_,_,by omega,rfl,j.o.tok d (ne_of_beq_false l.o) v.o,by simp;omega,m.o⟩
  ·go_wp2
   go_quiet (fail)
   go_wp2
   go_ret;exact ad ⟨rfl,acc,f,k,j.o.fin d,y.o.drew nq⟩
theorem PU(h:w0.cell? ⟨7,0,none⟩=some ev)(a:ev=.nilIface\/∃te pe,ev=.iface te pe){d:List Tok}(hinv:Inv w0 b s f ((0:Nat):Int) [] W)(i:s.size<=2000)(c:run s 0=some d):
  Calls prog 116 #[.pointer (some ⟨b,0,none⟩)] W fun e W'=>e=.returned (.bool true)/\∃f k,Inv w0 b s f k d W':=by
 refine(cut h a hinv i).mono ?_;rintro e W' (⟨he,j,f,k,h1,g⟩|⟨_,h1,_⟩)
 ·rw[c] at h1;injection h1 with h1;subst h1;exact⟨he,f,k,g⟩
 ·rw[c] at h1;cases h1
theorem Oh(d:w0.cell? ⟨7,0,none⟩=some ev)(a:ev=.nilIface\/∃te pe,ev=.iface te pe)(hinv:Inv w0 b s f ((0:Nat):Int) [] W)(h:s.size<=2000)(g:run s 0=none):
  Calls prog 116 #[.pointer (some ⟨b,0,none⟩)] W fun e W'=>e=.returned (.bool false)/\Below w0.heap.size w0 W':=by
 refine(cut d a hinv h).mono ?_;rintro e W' (⟨he,i,f,k,h1,c⟩|⟨he,_,c⟩)
 ·rw[g] at h1;cases h1
 ·exact⟨he,c⟩
theorem Hu(w:World)(s:ByteArray):Inv w w.heap.size s 0 ((0:Nat):Int) [] (w.alloc (.cells #[.string s,.int .i64 0,.int .i64 0,.slice none 0 0] 219)):=
 ⟨(r5 _ _).alloc (rm _) _,rm _,.slice none 0 0,heap_alloc_new w _,tj _ _ _ _⟩
theorem tokens(s:ByteArray)(w:World)(l:w.cell? ⟨7,0,none⟩=some ev)(d:ev=.nilIface\/∃te pe,ev=.iface te pe)(hm:s.size<=maxLen):
  Calls prog 74 #[.string s] w (wP s w):=by
 unfold maxLen at hm;have k:qv (w.cell? ⟨7,0,none⟩=some ev):=l;have b:qv (ev=.nilIface\/∃te pe,ev=.iface te pe):=d;clear l d;by_cases g:s.size<=2000
 ·cases f:run s 0 with
  | none=>
   have c:qv (run s 0=none):=f;clear f;go_enter func74,ntmps74
   go_wp2_with (go_at_call 116;refine(Oh k.o b.o (Hu w s) g c.o).mono ?_;rintro q p ⟨rfl,j⟩)
   go_ret2;exact⟨j,ad ⟨rD g c.o,rfl⟩⟩
  | some ts=>
   have c:qv (run s 0=some ts):=f;clear f;go_enter func74,ntmps74
   go_wp2_with (go_at_call 116;refine(PU k.o b.o (Hu w s) g c.o).mono ?_;rintro q p ⟨rfl,f1,u,a⟩;have h:=p9 a;obtain⟨r,n,m⟩:=a.cut;have t:=n.cells.2.2.2;have i:=p9 m;clear a n m)
   go_ret2;exact⟨h.o.below,a6 ⟨ts,r,Aw g c.o,rfl,i.o⟩⟩
 ·go_enter func74,ntmps74
  go_wp2
  go_ret2;exact⟨r5 _ _,ad ⟨by unfold dN;rw[a8 (by omega)],rfl⟩⟩
end
namespace Pure
theorem RF{P:Int->Prop}(h:∀c∈w.data.toList,P (c.toNat:Int)):∀j,j<w.size->P (bt w j):=by
 intro j b;have a:j<w.data.toList.length:=by rw[dd];exact b
 rw[mr a];exact h _ (sT a)
theorem Kd(A:-1000000000<=n)(h1:n<=1000000000):nK (bP n) ⟨2,bP n,n⟩:=by
 have d:(bP n).data.toList=Lib.itoa n:=by simp[bP]
 by_cases B:n<0
 ·obtain⟨u,rfl⟩:∃u:Nat,n=-(u:Int):=⟨n.natAbs,by omega⟩;have hi:Lib.itoa (-(u:Int))=45::Lib.decDigits u:=by unfold Lib.itoa;rw[a8 (by omega)];simp
  obtain⟨o,l,c,r,a,h⟩:=yM u u (rm _);rw[hi] at d;have p:(bP (-(u:Int))).size=(c::r).length+1:=by rw[<-dd,d,a];rfl
  have hcut:∀j,j<(bP (-(u:Int))).size->bt (bP (-(u:Int))) j=(((45::Lib.decDigits u)[j]?.getD 0).toNat:Int):=by
   intro j m;have y:j<(bP (-(u:Int))).data.toList.length:=by rw[dd];exact m
   rw[mr y];have e:(45::Lib.decDigits u)[j]?=some ((bP (-(u:Int))).data.toList[j]):=by rw[<-d];exact r6 y
   rw[e];rfl
  have q:bt (bP (-(u:Int))) 0=45:=by rw[hcut 0 (by omega)];rfl
  have g:∀j,1<=j->j<(bP (-(u:Int))).size->48<=bt (bP (-(u:Int))) j/\bt (bP (-(u:Int))) j<=57:=by
   intro j h1 m;obtain⟨i,rfl⟩:∃i,j=i+1:=⟨j - 1,by omega⟩;rw[hcut _ m,List.getElem?_cons_succ];have hi:i<(Lib.decDigits u).length:=by rw[a];omega
   rw[r6 hi];have:=o _ (sT hi);simp only[xp];omega
  refine⟨by omega,by omega,?_⟩;intro s k hw hk he;have s0:bt s k=45:=by have:=hw 0 (by omega);rw[Bs,q] at this;exact this
  have s1:cm (bt s (k+1))=true:=by rw[hw 1 (by rw[p];simp)];exact oM (g 1 (by omega) (by rw[p];simp))
  have f:span cm s (k+1)=k+(bP (-(u:Int))).size:=wT ((bP (-(u:Int))).size - 1) (k+1) (by omega) hk (fun j m h2=>by
   have:=hw (j - k) (by omega);rw[show k+(j - k)=j by omega] at this;rw[this];exact oM (g _ (by omega) (by omega))) (xG (by decide) he)
  have v:je (bP (-(u:Int))).data.toList=some (-(u:Int)):=by
   rw[d];have t:(45:UInt8).toNat=45:=rfl;unfold je;simp only;rw[a8 t,bk,l];rintro (e|e)
   ·rw[a] at e;simp only[List.head?_cons,Option.map_some,Option.some.injEq] at e;have:=(h e).1;omega
   ·rw[l] at e;omega
  unfold one;rw[s0,s1,f,jJ hw hk,v]
  rfl
 ·obtain⟨u,rfl⟩:∃u:Nat,n=(u:Int):=⟨n.toNat,by omega⟩;have hi:Lib.itoa (u:Int)=Lib.decDigits u:=by unfold Lib.itoa;rw[bk (by omega)];simp
  obtain⟨o,l,c,r,a,h⟩:=yM u u (rm _);rw[hi] at d;have p:(bP (u:Int)).size=(c::r).length:=by rw[<-dd,d,a]
  have b:0<(bP (u:Int)).size:=by rw[p];simp
  have g:∀j,j<(bP (u:Int)).size->48<=bt (bP (u:Int)) j/\bt (bP (u:Int)) j<=57:=
   RF (P:=fun x=>48<=x/\x<=57) (by rw[d];intro c h;have:=o c h;omega)
  have q:=g 0 b;refine⟨b,by omega,?_⟩;intro s k hw hk he;have s0:bt s k=bt (bP (u:Int)) 0:=by have:=hw 0 b;rw[Bs] at this;exact this
  have f:span cm s (k+1)=k+(bP (u:Int)).size:=wT ((bP (u:Int)).size - 1) (k+1) (by omega) hk (fun j m h2=>by
   have:=hw (j - k) (by omega);rw[show k+(j - k)=j by omega] at this;rw[this];exact oM (g _ (by omega))) (xG (by decide) he)
  have v:je (bP (u:Int)).data.toList=some (u:Int):=by
   rw[d,a];have w:=o c (by rw[a];simp);unfold je;simp only;rw[bk (by omega),bk,<-a,l];rintro (⟨e,z⟩|e)
   ·exact z (h e).2
   ·rw[<-a,l] at e;omega
  unfold one;rw[s0,fO (by omega),oM q,f,jJ hw hk,v]
  rfl
end Pure
def xL(n:Int):Prop:=-1000000000<=n/\n<=1000000000
def mf(t:gP):Prop:=(t.name=e0/\t.key=e0/\xL t.val)\/(bB t.name=true/\bB t.key=true/\t.val=0)
structure jU(s:aK):Prop where
 Rl:bB s.name=true
 Si:s.ai=e0\/bI s.ai=true
 TF:(s.type=e0/\s.least=0/\s.bq=0)\/(bI s.type=true/\0<=s.least/\s.least<=s.bq/\s.bq<=4)
structure qW(c:bW):Prop where
 ops:1<=c.op/\c.op<=8
 TP:mf c.a
 TR:(c.op<=6/\mf c.b)\/(7<=c.op/\c.b=oE)
def rj(x:aZ):Prop:=(x.name=e0/\x.key=e0)\/(bB x.name=true/\(x.key=e0\/bB x.key=true))
def rf(p:bm):Prop:=bB p.key=true/\xL p.val
namespace Pure
def eo(w:ByteArray):Tok:=((one w 0).map (·.2)).getD wH
theorem qu{t:Tok}(h:nK w t):eo w=t:=by
 have:=h.cut w 0 (fun j _=>by rw[tH]) (by omega) (a6 (by omega));unfold eo;rw[this];rfl
theorem FI(h:w∈lits):w∈aC\/w∈marks:=List.mem_append.1 h
theorem QM(h:w∈lits):∃k,nK w ⟨k,w,0⟩:=by
 rcases FI h with h|h
 ·exact⟨1,QX h⟩
 ·exact⟨3,Pm h⟩
theorem EQ(h:w∈lits):(eo w).text=w:=by
 obtain⟨k,hk⟩:=QM h;rw[qu hk]
theorem mU(h:bB w=true):isWord w=true/\97<=bt w 0:=by
 unfold bB at h
 simpa using h
theorem pA(h:bI w=true):isWord w=true/\bt w 0<97/\dU w=false:=by
 unfold bI at h;simp only[wa,decide_eq_true_eq,Bool.not_eq_true'] at h;exact⟨h.1.1,h.1.2,h.2⟩
theorem uC(h:bB w=true):eo w=⟨1,w,0⟩:=qu (wR (mU h).1)
theorem Bi(h:bI w=true):eo w=⟨1,w,0⟩:=qu (wR (pA h).1)
theorem Ic(h:xL n):eo (bP n)=⟨2,bP n,n⟩:=qu (Kd h.1 h.2)
def K(ws:List ByteArray):List Tok:=ws.map eo
theorem ij:K []=[]:=rfl
theorem dB(w:ByteArray)(r:List ByteArray):K (w::r)=eo w::K r:=rfl
theorem eU(a b:List ByteArray):K (a++b)=K a++K b:=by unfold K;rw[vb]
theorem dD(h:w∈lits)(r:List Tok):aP w ⟨eo w::r,false⟩=true:=by
 unfold aP;simp only[EQ h];exact Lw w
theorem eW{v:ByteArray}(h:v∈lits)(r:List Tok):aP w ⟨eo v::r,false⟩=jb v w:=by
 unfold aP;simp only[EQ h]
theorem bV(h:w∈lits)(r:List Tok):ar w ⟨eo w::r,false⟩=⟨r,false⟩:=by
 unfold ar;rw[dD h,a8 rfl];rfl
theorem Aq{st:RS}(h:aP w st=false):ar w st=st:=by unfold ar;rw[h];rfl
theorem cU(h:w∈lits)(r:List Tok):aM w ⟨eo w::r,false⟩=⟨r,false⟩:=by
 unfold aM;rw[dD h,a8 rfl,bV h]
theorem Gq:lits.all (fun w=>decide (bt w 0<97\/122<bt w 0))=true:=by decide +kernel
theorem Bj{n:ByteArray}(h:bB n=true)(hw:w∈lits)(r:List Tok):aP w ⟨eo n::r,false⟩=false:=by
 unfold aP;simp only[uC h];cases he:jb n w
 ·rfl
 ·obtain rfl:=Hf he;have h1:=List.all_eq_true.1 Gq n hw;simp only[decide_eq_true_eq] at h1;have a:=(mU h).2;have b:=I0 (mJ (mU h).1).2.2.1;omega
theorem j0{n:ByteArray}(h:bB n=true)(r:List Tok):ed ⟨eo n::r,false⟩=(n,⟨r,false⟩):=by
 have hk:gF (eo n)=1:=by rw[uC h];unfold gF nU;simp[h]
 unfold ed fw jG;simp only[hk,decide_true,if_true,List.headD_cons,List.tail_cons];rw[uC h]
theorem qA{n:ByteArray}(h:bI n=true)(r:List Tok):dJ ⟨eo n::r,false⟩=(n,⟨r,false⟩):=by
 have c:bB n=false:=by
  cases d:bB n
  ·rfl
  ·have a:=(mU d).2;have b:=(pA h).2.1;omega
 have hk:gF (eo n)=2:=by rw[Bi h];unfold gF nU;simp[h,c]
 unfold dJ fw jG;simp only[hk,decide_true,if_true,List.headD_cons,List.tail_cons];rw[Bi h]
theorem EM(h:xL n):gF (eo (bP n))=4:=by rw[Ic h];rfl
theorem sJ{lo hi:Int}(h:xL n)(b:lo<=n)(a:n<=hi)(r:List Tok):cW lo hi ⟨eo (bP n)::r,false⟩=(n,⟨r,false⟩):=by
 have hk:=EM h;have c:fw 4 ⟨eo (bP n)::r,false⟩=(eo (bP n),⟨r,false⟩):=by
  unfold fw jG;simp[hk]
 unfold cW;rw[c,Ic h];simp only;rw[bk (by omega)]
theorem j8:e0.toList.isEmpty=true:=by decide +kernel
theorem sh(h:isWord w=true):w.toList.isEmpty=false:=by
 have:=(mJ h).1;cases he:w.toList.isEmpty
 ·rfl
 ·rw[ByteArray.toList_eq] at he;have a:=dd w;rw[List.isEmpty_iff.1 he] at a;simp at a;omega
theorem lJ(h:bB w=true):w.toList.isEmpty=false:=sh (mU h).1
theorem qh(h:bI w=true):w.toList.isEmpty=false:=sh (pA h).1
theorem IY{n k:ByteArray}(h1:bB n=true)(a:bB k=true)(r:List Tok):j9 ⟨eo n::eo eN::eo k::r,false⟩=((n,k),⟨r,false⟩):=by
 unfold j9;simp only[j0 h1,cU (w:=eN) (by simp[lits]),j0 a]
theorem Cy{t:gP}(h:mf t)(r:List Tok):fJ ⟨K (lY t)++r,false⟩=(t,⟨r,false⟩):=by
 rcases h with ⟨h1,b,a⟩|⟨h1,b,a⟩
 ·have hw:lY t=[bP t.val]:=by unfold lY;rw[h1,j8];rfl
  rw[hw,dB,ij,tw,tV];unfold fJ;have c:jG 4 ⟨eo (bP t.val)::r,false⟩=true:=by unfold jG;simp[EM a]
  rw[c,a8 rfl,sJ a a.1 a.2];cases t;simp only at h1 b a⊢;rw[h1,b]
 ·have hw:lY t=[t.name,eN,t.key]:=by unfold lY;rw[lJ h1];rfl
  rw[hw];simp only[dB,ij,tw,tV];unfold fJ;have c:jG 4 ⟨eo t.name::eo eN::eo t.key::r,false⟩=false:=by
   unfold jG;simp only[uC h1];unfold gF nU;simp[h1]
  rw[c,bk (by simp),IY h1 b];cases t;simp only at h1 b a⊢;rw[a]
theorem Cl{s:aK}(h:jU s)(x:aK)(b:x.ai=e0)(r:List Tok):dA x ⟨K (rZ s)++r,false⟩=(⟨s.name,s.ai,x.type,x.least,x.bq⟩,⟨r,false⟩):=by
 unfold rZ;rcases h.Si with a|a
 ·rw[a,j8];simp only[if_true,tV,tw,dB,ij];unfold dA;simp only[cU (w:=bO) (by simp[lits]),j0 h.Rl,eW (v:=bN) (w:=cD) (by simp[lits]),show jb bN cD=false by decide +kernel,th,if_false,cU (w:=bN) (by simp[lits]),b]
 ·rw[qh a];simp only[th,if_false,tV,tw,dB,ij];unfold dA;simp only[cU (w:=bO) (by simp[lits]),j0 h.Rl,dD (w:=cD) (by simp[lits]),bV (w:=cD) (by simp[lits]),qA a,if_true,cU (w:=bN) (by simp[lits])]
theorem AS(a:0<=n)(b:n<=4):xL n:=⟨by omega,by omega⟩
theorem PG{s:aK}(d:bI s.type=true)(b:0<=s.least)(h1:s.least<=s.bq)(c:s.bq<=4)(r:List Tok):jr (ar jI ⟨K (wZ s)++r,false⟩)=(⟨e0,e0,s.type,s.least,s.bq⟩,⟨r,false⟩):=by
 unfold wZ;by_cases a:s.least=1/\s.bq=1
 ·rw[a8 a];simp only[tV,tw,dB,ij];rw[bV (by simp[lits])];unfold jr my;simp only[qA d,eW (v:=dy) (w:=eP) (by simp[lits]),show jb dy eP=false by decide +kernel,th,if_false,cU (w:=dy) (by simp[lits]),a.1,a.2]
 ·rw[bk a];simp only[tV,tw,dB,ij];rw[bV (by simp[lits])];unfold jr my;simp only[qA d,dD (w:=eP) (by simp[lits]),bV (w:=eP) (by simp[lits]),if_true,sJ (AS b (by omega)) b (show s.least<=4 by omega),cU (w:=lW) (by simp[lits]),sJ (AS (by omega) c) h1 c,cU (w:=dy) (by simp[lits])]
theorem RT{s:aK}(h:jU s)(c:bI s.type=true)(a:0<=s.least)(h1:s.least<=s.bq)(b:s.bq<=4)(r:List Tok):rW (ar jI ⟨K (wZ s++rZ s)++r,false⟩)=(s,⟨r,false⟩):=by
 unfold rW;rw[eU,wh,PG c a h1 b,Cl h _ rfl]
end Pure
end Go.Proofs.YtbfmmmjkjhjleaaGreatDoor
