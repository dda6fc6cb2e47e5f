/- Mine. -/
import Derived.Test.YtbfmmmjkjhjleaaGreatDoorC21
import Derived.Test.YtbfmmmjkjhjleaaGreatDoorC18
set_option maxRecDepth 100000
set_option maxHeartbeats 0
namespace Go.Proofs.YtbfmmmjkjhjleaaGreatDoor
open Go.Proofs.Tryz
variable {st:RS} {n:Nat}
section
open Go.RowKit Go.Maps
variable {fix:Nat->Option Value} {left:Int} {use:Value} {B T F:Nat} {ev:Nat->Value} {wv:Value} {own:Nat->Prop} {f:ByteArray->Option Int} {mb:Nat} {en:Nat->List Int} {ws:List gh} {W:World}
def rK(own:Nat->Prop)(sa:Option Addr)(cs:Nat)(l:List aK)(W:World):Prop:=∀w,Kept own W w->dj w 5 (.slice sa l.length cs) l.length (l.flatMap nG)
def rk(s:aK):Prop:=s.name.size<=maxLen/\s.ai.size<=maxLen/\0<=s.least/\s.least<=100/\0<=s.bq/\s.bq<=4
theorem St{gb go m i cs:Nat}{ns:List aH}{es:List bK}{sa:Option Addr}{l:List aK}{s p:aK}(h:km own F B T fix left use f mb ev en wv ws W)(hg:fix 0=some (.pointer (some ⟨gb,go,none⟩)))(hq:fix 2=some (.slice sa l.length cs))(C5:nQ own gb go ns es m W)(Bb:rK own sa cs l W)
  (hi:i<6) (hs:l[i]?=some s) (hp:l[i - 1]?=some p) (h0:0<i) (C4:rk s) (C3:rk p) (hl:0<=left/\left<=5000) (Bq:(en i).length<=5000) (Br:es=[]) (r:∀k,W.heap.size<=k->own k):
  Calls prog 177 #[.pointer (some ⟨F,0,none⟩),.int .i64 (i:Int)] W fun e W'=>e=.returned (.tuple #[])/\∃ev' en' wv' ws',km own F B T fix (fG es s.type s.least s.bq (left.toNat+2) [⟨0,0,0,0,0,(f p.name).getD 0⟩] left).2 use f mb ev' en' wv' ws' W'/\en' i=en i++(fG es s.type s.least s.bq (left.toNat+2) [⟨0,0,0,0,0,(f p.name).getD 0⟩] left).1/\(∀j,j≠i->en' j=en j/\ev' j=ev j)/\Kept own W W':=by
 obtain⟨i0,Cl,Cu,Cv,Cw⟩:=info_parts Tryz.IP;obtain⟨i1,Cn,Cr,Cs,Ct⟩:=info_parts Tryz.Cm;have By:i<l.length:=by
  rcases ua i l.length with h1|h1
  ·exact h1
  ·rw[x7 h1] at hs;cases hs
 obtain⟨g,O,rfl,c⟩:=bC (l:=l) nG (fun _=>rfl) (Bb W (Kept.refl _ _)) By;obtain⟨g',Db,eg,D⟩:=bC (l:=l) nG (fun _=>rfl) (Bb W (Kept.refl _ _)) (show i - 1<l.length by omega);injection eg with eg
 injection eg with Cj Ck
 subst Cj Ck;have Bj:l[i]=s:=by rw[r6 By] at hs;injection hs
 have Bk:l[i - 1]'(by omega)=p:=by rw[r6 (by omega)] at hp;injection hp
 rw[Bj] at c;rw[Bk] at D;obtain⟨D1,hc,hf⟩:=h.cell;have c2:W.cell? ⟨F,2,none⟩=some (.slice (some ⟨g,O,none⟩) l.length cs):=(hc.cell 2).trans ((hf.fx 2 (by decide)).trans hq);have p0:W.cell? ⟨g,O+i*5,none⟩=some (.string s.name):=c 0 (by decide);have p1:W.cell? ⟨g,O+i*5+1,none⟩=some (.string s.ai):=c 1 (by decide);have p2:W.cell? ⟨g,O+i*5+2,none⟩=some (.string s.type):=c 2 (by decide);have p3:W.cell? ⟨g,O+i*5+3,none⟩=some (.int .i64 s.least):=c 3 (by decide);have p4:W.cell? ⟨g,O+i*5+4,none⟩=some (.int .i64 s.bq):=c 4 (by decide);have q0:W.cell? ⟨g,O+(i - 1)*5,none⟩=some (.string p.name):=D 0 (by decide);have D4:(i:Int)<(l.length:Int):=by omega
 have C:=(r5 W.heap.size W).alloc (rm _) (.cells #[.string s.name,.string s.ai,.string s.type,.int .i64 s.least,.int .i64 s.bq] 191);have A0:=p9 (h.later C);have L:=p9 ((Kept.refl own W).below C);have Al:=p9 (Loc.new W #[.string s.name,.string s.ai,.string s.type,.int .i64 s.least,.int .i64 s.bq] 191);have B2:=p9 ((C.cell (block_lt_of_cell q0)).trans q0);have Au:=p9 ((C.cell (block_lt_of_cell c2)).trans c2);have Bg:=p9 C5;have HG:=p9 hg;have P:=p9 r;have Cd:=p9 C4;have Cc:=p9 C3;have HI:=p9 hi;have Be:=p9 hl;have Bd:=p9 Bq;have C9:=p9 Br;clear h hg hq C5 Bb hs hp C4 C3 Bq Br r hc hf c D Bj Bk C q0;go_enter func177,ntmps177
 go_upto_region 1 with fail;obtain⟨Z,hZ⟩:∃Z,Z=W.heap.size:=⟨_,rfl⟩;have D0:qv (own Z):=p9 (P.o Z (by omega));rw[<-hZ] at Al⊢;clear hZ c2 p0 p1 p2 p3 p4;generalize W.alloc (.cells #[.string s.name,.string s.ai,.string s.type,.int .i64 s.least,.int .i64 s.bq] 191)=W1 at A0 L Al B2 Au⊢;obtain⟨Ci,Bo,Bs⟩:=A0.o.cell;have b0:W1.cell? ⟨F,20,none⟩=some (.map (some B)):=(Bo.cell 20).trans Bs.b;have c2:=Au.o;have q0:=B2.o;have la:(Instr.lookup 136 (.map (some B)) (.string p.name) false).run prog W1.drew=.ok (.int .i64 ((f p.name).getD 0)) W1.drew:=by
  have q:cK W1.drew B mb f:=A0.o.drew.iF;exact q.look Cc.o.1
 have Bw:((i:Int) - 1)<(l.length:Int):=by omega
 have Bx:0<=((i:Int) - 1):=by omega
 go_region;have A1:=p9 A0.o.drew;have Az:qv (Kept own W W1.drew):=p9 ⟨L.o.os,L.o.tape,L.o.output,L.o.size,L.o.block⟩;have B3:qv (Loc W1.drew Z #[.string s.name,.string s.ai,.string s.type,.int .i64 s.least,.int .i64 s.bq] 191):=p9 Al.o;clear la b0 c2 q0 Bo Bs Bw Bx A0 L Al B2 Au Ci;generalize W1.drew=W2 at A1 Az B3⊢;obtain⟨fr,B8⟩:∃fr,(f p.name).getD 0=fr:=⟨_,rfl⟩;rw[B8];have Ae:=p9 B8;clear B8;obtain⟨av,cv,u⟩:=aV A1.o.rw;subst u;obtain⟨B6,N,I⟩:=A1.o.cell;have w0:W2.cell? ⟨F,27,none⟩=some (.slice av ws.length cv):=(N.cell 27).trans I.w;have HD:=p9 (A1.o.later ((r5 _ _).alloc (rm _) (.cells #[.int .i64 0,.int .i64 0,.int .i64 0,.int .i64 0,.int .i64 0,.int .i64 fr] 311)));have S:=p9 (Az.o.below ((r5 _ _).alloc (rm _) (.cells #[.int .i64 0,.int .i64 0,.int .i64 0,.int .i64 0,.int .i64 0,.int .i64 fr] 311)));have A5:=p9 (N.alloc (.cells #[.int .i64 0,.int .i64 0,.int .i64 0,.int .i64 0,.int .i64 0,.int .i64 fr] 311));have B5:=p9 (B3.o.alloc (.cells #[.int .i64 0,.int .i64 0,.int .i64 0,.int .i64 0,.int .i64 0,.int .i64 fr] 311));have V:=p9 (yh HD.o.rw);have Bh:=p9 I.w;clear N I A1 Az B3;go_wp2_with (at_builtin;go_must (refine wpList_append_lies _ rfl _ _ 226 rfl 0 311 i0 (.agg #[.int .i64 0,.int .i64 0,.int .i64 0,.int .i64 0,.int .i64 0,.int .i64 0]) 6 48 underlying226 Cl Cu Cv Cw rfl (by decide) (.slice av 0 cv) _ _ (by simp[Act.eval]) V.o ⟨W2.heap.size,0,none⟩ 1 1 [.int .i64 0,.int .i64 0,.int .i64 0,.int .i64 0,.int .i64 0,.int .i64 fr] (by simp[Act.eval]) rfl (World.news_of_block (heap_alloc_new W2 _)) (OG ⟨0,0,0,0,0,fr⟩) (by omega) (by unfold maxLen;omega) (by omega) (tJ _) _ rfl ?_);intro g2 H w9 r d t _;have A:=A5.o.dY V.o d (by decide);have c9:w9.cell? ⟨F,27,none⟩=some (.slice av ws.length cv):=(A.cell 27).trans Bh.o;have f9:w9.frozen? ⟨F,27,none⟩=false:=A.free 27;have A3:=p9 d;have Bf:=p9 r;have Ag:=p9 t;have Ap:=p9 A;clear A r d t)
 have Ab:w9.ownsRow 0 311 6 (.slice (some ⟨g2,0,none⟩) 1 H) 1 (Ge ⟨0,0,0,0,0,fr⟩):=Bf.o;have As:=p9 (HD.o.Ru V.o A3.o Ab Ag.o (fun b q=>P.o b (r8 S.o.size q)));have B0:=p9 ((S.o.then A3.o (fun b q=>ad (HD.o.gC.2.2.2.2 b (by cases av with|none=>cases q|some a=>exact q)))).then (aE w9 F 27 (.slice (some ⟨g2,0,none⟩) 1 H)) (fun b q=>by injection q with q;rw[<-q];exact ad HD.o.gC.1));have B4:=p9 ((B5.o.dY V.o A3.o (by decide)).aY (b':=F) (wW (B5.o.dY V.o A3.o (by decide)) Ap.o (by decide)) 27 (.slice (some ⟨g2,0,none⟩) 1 H));clear Ab c9 f9 A3 Bf Ag Ap HD S A5 B5 V Bh;generalize w9.setCell ⟨F,27,none⟩ (.slice (some ⟨g2,0,none⟩) 1 H)=W3 at As B0 B4⊢;have D6:=Be.o.1;have D7:=Be.o.2;have Cy:=Bd.o;go_loopg [6] (left.toNat+2) (fun n iv w=>∃(k:Nat) (wv':Value) (ws':List gh) (v:Int) (pre:List Int) (ev':Nat->Value) (en':Nat->List Int),iv=.int .i64 (k:Int)/\fG es s.type s.least s.bq (left.toNat+2) [⟨0,0,0,0,0,fr⟩] left=(pre++(fG es s.type s.least s.bq n (ws'.drop k) v).1,(fG es s.type s.least s.bq n (ws'.drop k) v).2)/\k<=ws'.length/\(ws'.length - k)+(v+1).toNat<=n/\-1<=v/\(ws'.length:Int)+v<=left+1/\(∀y∈ws',BZ y)/\km own F B T fix v use f mb ev' en' wv' ws' w/\en' i=en i++pre/\pre.length<=k/\(∀j,j≠i->en' j=en j/\ev' j=ev j)/\Kept own W w/\Loc w Z #[.string s.name,.string s.ai,.string s.type,.int .i64 s.least,.int .i64 s.bq] 191)
 case atStart=>
  refine⟨0,_,[⟨0,0,0,0,0,fr⟩],left,[],ev,en,rfl,by simp,by simp,by simp;omega,by omega,by simp;omega,?_,As.o,by simp,by simp,fun j _=>⟨rfl,rfl⟩,B0.o,B4.o⟩;intro y hy;simp only[vA] at hy;subst hy;have hz:(Lit.int .i64 0).wf=true:=by decide
  refine⟨tJ _,fun j hj=>?_⟩
  match j,hj with
  | 0,_=>exact hz
  | 1,_=>exact hz
  | 2,_=>exact hz
  | 3,_=>exact hz
 case round=>
  obtain⟨k,wv',ws',v,pre,ev',en',rfl,C6,D5,Bu,Cp,Bn,A7,Bt,Aq,D8,Ar,A8,hz⟩:=hrel;have Am:=p9 C6;have Aw:=p9 Bu;have K:=p9 A7;have HA:=p9 Bt;have A2:=p9 Aq;have Aj:=p9 Ar;have HK:=p9 A8;have HZ:=p9 hz;clear C6 Bu A7 Bt Aq Ar A8 hz As B0 B4;obtain⟨aw,cw,u⟩:=aV HA.o.rw;subst u;obtain⟨D2,B7,B9⟩:=HA.o.cell;have w0:wr.cell? ⟨F,27,none⟩=some (.slice aw ws'.length cw):=(B7.cell 27).trans B9.w;have l0:wr.cell? ⟨F,18,none⟩=some (.int .i64 v):=(B7.cell 18).trans B9.l;clear B7 B9;have Da:ws'.length<=6000:=by omega
  by_cases An:k<ws'.length
  ·have Co:(k:Int)<(ws'.length:Int):=by omega
   by_cases Aa:0<=v
   ·have Av:qv (ws'.drop k=ws'[k]::ws'.drop (k+1)):=p9 (xi An);obtain⟨g,O,rfl,c⟩:=bC (l:=ws') Ge (fun _=>rfl) (aJ HA.o.rw HA.o.rw.1) An;obtain⟨y,hy⟩:∃y,ws'[k]=y:=⟨_,rfl⟩;have Cf:=p9 (K.o y (by rw[<-hy];exact sT An));rw[hy] at c Av;clear hy;have p0:wr.cell? ⟨g,O+k*6,none⟩=some (.int .i64 y.e0):=c 0 (by decide);have p1:wr.cell? ⟨g,O+k*6+1,none⟩=some (.int .i64 y.e1):=c 1 (by decide);have p2:wr.cell? ⟨g,O+k*6+2,none⟩=some (.int .i64 y.e2):=c 2 (by decide);have p3:wr.cell? ⟨g,O+k*6+3,none⟩=some (.int .i64 y.e3):=c 3 (by decide);have p4:wr.cell? ⟨g,O+k*6+4,none⟩=some (.int .i64 y.gI):=c 4 (by decide);have p5:wr.cell? ⟨g,O+k*6+5,none⟩=some (.int .i64 y.at_):=c 5 (by decide);clear c;have C:=(r5 wr.heap.size wr).alloc (rm _) (.cells #[.int .i64 y.e0,.int .i64 y.e1,.int .i64 y.e2,.int .i64 y.e3,.int .i64 y.gI,.int .i64 y.at_] 311);have J:=p9 (HA.o.later C);have A4:=p9 (HK.o.below C);have U:=p9 (HZ.o.alloc (.cells #[.int .i64 y.e0,.int .i64 y.e1,.int .i64 y.e2,.int .i64 y.e3,.int .i64 y.gI,.int .i64 y.at_] 311));have E:=p9 (Loc.new wr #[.int .i64 y.e0,.int .i64 y.e1,.int .i64 y.e2,.int .i64 y.e3,.int .i64 y.gI,.int .i64 y.at_] 311);clear C HA HK HZ;go_upto_region 7 with fail;obtain⟨Y,hY⟩:∃Y,Y=wr.heap.size:=⟨_,rfl⟩;rw[<-hY] at E⊢;clear hY p0 p1 p2 p3 p4 p5 w0 l0;generalize wr.alloc (.cells #[.int .i64 y.e0,.int .i64 y.e1,.int .i64 y.e2,.int .i64 y.e3,.int .i64 y.gI,.int .i64 y.at_] 311)=W4 at J A4 U E⊢;have y4:=E.o.at_ 4 (.int .i64 y.gI) rfl;have z3:=U.o.at_ 3 (.int .i64 s.least) rfl;go_upto_if 70 with fail;clear y4 z3;go_cut [] (fun w=>∃(A6:Nat->Value) (X:Nat->List Int),km own F B T fix v use f mb A6 X (.slice (some ⟨g,O,none⟩) ws'.length cw) ws' w/\X i=en' i++(if s.least<=(y.gI:Int) then [y.at_] else [])/\(∀j,j≠i->X j=en j/\A6 j=ev j)/\Kept own W w/\Loc w Z #[.string s.name,.string s.ai,.string s.type,.int .i64 s.least,.int .i64 s.bq] 191/\Loc w Y #[.int .i64 y.e0,.int .i64 y.e1,.int .i64 y.e2,.int .i64 y.e3,.int .i64 y.gI,.int .i64 y.at_] 311)
    case first=>
     by_cases Bv:s.least<=(y.gI:Int)
     ·have Ax:=p9 Bv;have D9:(en' i).length<=20000:=by rw[A2.o,r7];omega
      obtain⟨av,cv,u⟩:=aV (J.o.re i HI.o);obtain⟨B6,N,I⟩:=J.o.cell;have e0:W4.cell? ⟨F,21+i,none⟩=some (.slice av (en' i).length cv):=(N.cell (21+i)).trans ((I.e i HI.o).trans (by rw[u]));have y5:=E.o.at_ 5 (.int .i64 y.at_) rfl;have HD:=p9 (J.o.later ((r5 _ _).alloc (rm _) (.cells #[.int .i64 y.at_] 3))).drew;have S:qv (Kept own W ((W4.alloc (.cells #[.int .i64 y.at_] 3)).drew)):=p9 (by have:=A4.o.below ((r5 _ _).alloc (rm _) (.cells #[.int .i64 y.at_] 3));exact⟨this.os,this.tape,this.output,this.size,this.block⟩);have Ak:qv (((W4.alloc (.cells #[.int .i64 y.at_] 3)).drew).ownsRow 0 3 1 (.slice av (en' i).length cv) (en' i).length ((en' i).map (Value.int .i64))):=p9 (by have:=HD.o.re i HI.o;rwa [u] at this);have B1:qv ((ev' i).ownBlock=(Value.slice av (en' i).length cv).ownBlock):=p9 (by rw[u]);have A5:qv (Loc ((W4.alloc (.cells #[.int .i64 y.at_] 3)).drew) F B6 228):=p9 (N.alloc (.cells #[.int .i64 y.at_] 3));have Ch:qv (Loc ((W4.alloc (.cells #[.int .i64 y.at_] 3)).drew) Z #[.string s.name,.string s.ai,.string s.type,.int .i64 s.least,.int .i64 s.bq] 191):=p9 (U.o.alloc (.cells #[.int .i64 y.at_] 3));have Ce:qv (Loc ((W4.alloc (.cells #[.int .i64 y.at_] 3)).drew) Y #[.int .i64 y.e0,.int .i64 y.e1,.int .i64 y.e2,.int .i64 y.e3,.int .i64 y.gI,.int .i64 y.at_] 311):=p9 (E.o.alloc (.cells #[.int .i64 y.at_] 3));have e1:(W4.alloc (.cells #[.int .i64 y.at_] 3)).cell? ⟨F,21+i,none⟩=some (.slice av (en' i).length cv):=(A5.o.cell (21+i)).trans ((I.e i HI.o).trans (by rw[u]));have C8:=p9 ((I.e i HI.o).trans (by rw[u]):B6[21+i]?=some (.slice av (en' i).length cv));have D3:=HI.o;have Cz:(i:Int)<6:=by omega
      clear u N I J A4 U E;go_upto_region 8 with fail;go_region_law (go_must (refine step_append_lies _ rfl _ _ 206 rfl 0 3 i1 (.int .i64 0) 1 8 underlying206 Cn Cr Cs Ct rfl (by decide) (.slice av (en' i).length cv) _ _ (by simp[Act.eval]) Ak.o ⟨W4.heap.size,0,none⟩ 1 1 [.int .i64 y.at_] (by simp[Act.eval]) rfl (World.news_of_block (heap_alloc_new W4 _)) IS (by omega) (by unfold maxLen;omega) (by omega) (tJ _) _ rfl ?_);intro g2 H w5 r d t _;have A:=A5.o.dY Ak.o d (by decide);have c5:w5.cell? ⟨F,21+i,none⟩=some (.slice av (en' i).length cv):=(A.cell (21+i)).trans C8.o;have f5:w5.frozen? ⟨F,21+i,none⟩=false:=A.free (21+i);have Af:=p9 d;have Ai:=p9 r;have Ag:=p9 t;have Ao:=p9 A;clear A r d t)
      all_goals
       go_wp2_with fail;go_meet;have hE:=HD.o.ended (i:=i) (x:=y.at_) HI.o (by rw[B1.o];exact Af.o) Ai.o (by rw[B1.o];exact Ag.o) (fun b q=>P.o b (r8 S.o.size q));have Ad:=Ch.o.dY Ak.o Af.o (by decide);have Ac:=Ce.o.dY Ak.o Af.o (by decide);refine⟨_,_,hE,?_,fun j hj=>?_,?_,Ad.aY (wW Ad Ao.o (by decide)) _ _,Ac.aY (wW Ac Ao.o (by decide)) _ _⟩
       ·unfold tO;rw[a8 rfl,a8 Ax.o]
       ·unfold tO sZ;rw[bk hj,bk hj];exact Aj.o j hj
       ·refine(S.o.then Af.o (fun b q=>ad (HD.o.gC.2.2.2.1 i HI.o b (by rw[B1.o];exact q)))).then (aE w5 F (21+i) _) (fun b q=>?_)
        injection q with q
        rw[<-q];exact ad HD.o.gC.1
     ·have Ax:=p9 Bv;go_wp2_with fail;go_meet;exact⟨ev',en',J.o,by rw[bk (by have:=Ax.o;omega)];simp,Aj.o,A4.o,U.o,E.o⟩
    case rest=>
     obtain⟨A6,X,Bl,Bp,C2,Bz,Ad,Ac⟩:=hcut;have At:=p9 Bl;have Bc:=p9 Bp;have Ai:=p9 C2;have R:=p9 Bz;have G:=p9 Ad;have M:=p9 Ac;clear Bl Bp C2 Bz Ad Ac J A4 U E;have y4:=M.o.at_ 4 (.int .i64 y.gI) rfl;have z4:=G.o.at_ 4 (.int .i64 s.bq) rfl;obtain⟨n',C1⟩:∃n',gk=n'+1:=⟨gk - 1,by have:=Aw.o;omega⟩;have Q:=p9 C1;clear C1;by_cases C0:(y.gI:Int)<s.bq
     ·have Ah:=p9 C0;have y0:=M.o.at_ 0 (.int .i64 y.e0) rfl;have y1:=M.o.at_ 1 (.int .i64 y.e1) rfl;have y2:=M.o.at_ 2 (.int .i64 y.e2) rfl;have y3:=M.o.at_ 3 (.int .i64 y.e3) rfl;have y5:=M.o.at_ 5 (.int .i64 y.at_) rfl;have z2:=G.o.at_ 2 (.string s.type) rfl;have Bi:qv (Ia y):=p9 ⟨by have h1:=Cd.o.2.2.2.2.2;have h2:=Ah.o;omega,Cf.o.2⟩;go_wp2_with fail;refine(Ta (own:=fun b=>own b/\b≠Z) (x:=y) (kind:=s.type) (At.o.narrow G.o (by decide) (by decide) (by decide)) HG.o ((Bg.o.on R.o).narrow (fun b q=>q.1)) Bi.o ⟨Aa,by omega⟩ (by omega) C9.o (fun b q=>⟨P.o b (r8 R.o.size q),fun e=>by have:=G.o.lt;omega⟩)).mono ?_;rintro e W6 ⟨rfl,Cx,Bm,Ba⟩;have C7:=p9 (Bm.pT (own:=own) (fun b q=>q.1));have Cb:=p9 (R.o.trans (Ba.pT (fun b q=>q.1)));have Cg:qv (Loc W6 Z #[.string s.name,.string s.ai,.string s.type,.int .i64 s.least,.int .i64 s.bq] 191):=p9 ((Ba.block Z G.o.lt (fun e=>e.2 rfl)).trans G.o);have Ay:=p9 (wL y s.type es 0 v Aa);have Ca:=p9 (zB s.type Bi.o es 0 v (by have:=(Bg.o.on R.o).Jm.rY.2;omega));clear Bm Ba y0 y1 y2 y3 y4 y5 z2 z4 At R G M;go_wp2_with fail;go_roundg n'
      case rel=>
       refine⟨k+1,Cx,_,_,pre++(if s.least<=(y.gI:Int) then [y.at_] else []),A6,X,by simp,?_,?_,?_,?_,?_,?_,C7.o,by rw[Bc.o,A2.o];simp,?_,Ai.o,Cb.o,Cg.o⟩
       ·rw[Am.o,Av.o,Q.o];have hd:(ws'++(qe y s.type 0 es v).1).drop (k+1)=ws'.drop (k+1)++(qe y s.type 0 es v).1:=by rw[RW (by omega)]
        rw[hd];simp only[fG,bk (show ¬v<0 by omega),a8 Ah.o];simp
       ·rw[r7];omega
       ·have h1:=Aw.o;have h2:=Q.o;rw[r7];rcases Ay.o with ⟨a,b⟩|⟨a,b⟩<;>omega
       ·rcases Ay.o with ⟨a,b⟩|⟨a,b⟩<;>omega
       ·rw[r7];rcases Ay.o with ⟨a,b⟩|⟨a,b⟩<;>omega
       ·intro z hz;rcases List.mem_append.1 hz with hz|hz
        ·exact K.o z hz
        ·exact Ca.o z hz
       ·rw[r7];split<;>simp<;>omega
      case measure=>have:=Q.o;omega
     ·have Ah:=p9 C0;go_wp2_with fail;go_roundg n'
      case rel=>
       refine⟨k+1,_,ws',v,pre++(if s.least<=(y.gI:Int) then [y.at_] else []),A6,X,by simp,?_,by omega,?_,Cp,Bn,K.o,At.o,by rw[Bc.o,A2.o];simp,?_,Ai.o,R.o,G.o⟩
       ·rw[Am.o,Av.o,Q.o];simp only[fG,bk (show ¬v<0 by omega),bk (show ¬(y.gI:Int)<s.bq by have:=Ah.o;omega)];simp
       ·have h1:=Aw.o;have h2:=Q.o;omega
       ·rw[r7];split<;>simp<;>omega
      case measure=>have:=Q.o;omega
   ·have Cq:¬0<=v:=Aa;have A9:v<0:=by omega
    have HE:qv (fG es s.type s.least s.bq (left.toNat+2) [⟨0,0,0,0,0,fr⟩] left=(pre,v)):=p9 (by rw[Am.o,xi An];cases gk<;>simp[fG,A9]);clear A9;go_wp2_with fail;go_end0;exact⟨rfl,ev',en',⟨_,_,by rw[Ae.o,HE.o];exact HA.o⟩,by rw[Ae.o,HE.o];exact A2.o,Aj.o,HK.o⟩
  ·have Co:¬(k:Int)<(ws'.length:Int):=by omega
   have HE:qv (fG es s.type s.least s.bq (left.toNat+2) [⟨0,0,0,0,0,fr⟩] left=(pre,v)):=p9 (by rw[Am.o,BS (by omega)];cases gk<;>simp[fG]);go_wp2_with fail;go_end0;exact⟨rfl,ev',en',⟨_,_,by rw[Ae.o,HE.o];exact HA.o⟩,by rw[Ae.o,HE.o];exact A2.o,Aj.o,HK.o⟩
end
section
open Go.RowKit
theorem Cq{out:List bm}(h:st.bad=true):eu n out st=(out,st):=by
 cases n with
 | zero=>rfl
 | succ n=>simp only[eu];rw[h];rfl
theorem zO{out:List bm}{l:bm}{s2:RS}(h:st.bad=false)(hp:tG out st=(l,s2))(a:s2.bad=false)(b:aO aN s2=true):eu (n+1) out st=eu n (out++[l]) (bz aN s2):=by
 simp only[eu];rw[h,hp];simp only[a,b];rfl
theorem sB{out:List bm}{l:bm}{s2:RS}(h:st.bad=false)(hp:tG out st=(l,s2))(a:s2.bad=true\/aO aN s2=false):eu (n+1) out st=(out++[l],s2):=by
 simp only[eu];rw[h,hp];rcases a with a|a
 ·simp[a]
 ·simp[a]
theorem JH(l:List bm)(st:RS):(tG l st).2.rest.length<=st.rest.length:=by
 unfold tG;have h1:=mT st;have a:=iC cD (cI st).2;have b:=sL (-1000000000) 1000000000 (bG cD (cI st).2);simp only[pq];omega
theorem RS.L7(st:RS):st.bA false=st:=by unfold RS.bA;simp
theorem QY.drew{W0 W:World}{b x y:Nat}{c:Value}{d:List Tok}{st:RS}{cs a:Array Value}{R:LU}{T:TypeId}(h:QY W0 b c d st x cs R y a T W)(n:Nat):QY W0 b c d st x cs R y a T (W.drewN n):=h.call (h.q.ri.drew n) (fh W n _)
def seen(pr:List bm)(key:ByteArray)(k:Nat):Bool:=(pr.take k).any fun x=>jb x.key key
theorem JX(pr:List bm)(key:ByteArray):seen pr key 0=false:=by unfold seen;simp
theorem Lz(pr:List bm)(key:ByteArray):seen pr key pr.length=(pr.any fun x=>jb x.key key):=by unfold seen;rw[yt]
theorem KX{pr:List bm}{key:ByteArray}{k:Nat}(h:k<pr.length):seen pr key (k+1)=(seen pr key k || jb pr[k].key key):=by
 have e:pr.take (k+1)=pr.take k++[pr[k]]:=by rw[tt,r6 h];rfl
 unfold seen;rw[e,List.any_append];simp
theorem Tc{b x:Nat}{E:Value}{t:List Tok}{W0 W:World}(h:fN W0 b E t st x (qC aB (.slice none 0 0) (.slice none 0 0) (.slice none 0 0) (.slice none 0 0)) ⟨(.slice none 0 0),[],(.slice none 0 0),[],(.slice none 0 0),[],(.slice none 0 0),[]⟩ W):
  Calls prog 20 #[.pointer (some ⟨b,0,none⟩),.pointer (some ⟨x,0,none⟩)] W fun e W'=>e=.returned (.tuple #[])/\∃vp,fN W0 b E t (mv st).2 x (qC {aB with kind:=5,ai:=(mv st).1.1} (.slice none 0 0) (.slice none 0 0) (.slice none 0 0) vp) ⟨(.slice none 0 0),[],(.slice none 0 0),[],(.slice none 0 0),[],vp,(mv st).1.2⟩ W':=by
 obtain⟨i1,hj,An,Ao,Ap⟩:=info_parts Tryz.tL;have hlen:=h.ri.len;have B0:st.rest.length<=t.length:=by obtain⟨_,_,_,_,_,_,_,e,_⟩:=h.ri.seen;exact e
 have Ay:=iC bO st;obtain⟨i,s1,A3⟩:∃i s1,fA (bG bO st)=(i,s1):=⟨_,_,rfl⟩;have A6:=p9 A3;have Al:=pQ (bG bO st);rw[A3] at Al;obtain⟨m0,A9⟩:∃m0,aO dC s1=m0:=⟨_,rfl⟩;have S:=p9 A9;have Am:=gz dC s1;obtain⟨G,A2⟩:∃G,bz dC s1=G:=⟨_,rfl⟩;have U:=p9 A2;rw[A2] at Am;have c0:=h.lq.at_ 0 (.int .i64 0) rfl;have f0:W.frozen? ⟨x,0,none⟩=false:=h.lq.free 0;have H0:=p9 (h.set 0 (.int .i64 5));clear h A3 A9 A2;go_enter func20,ntmps20
 go_wp2_with fail;generalize W.setCell ⟨x,0,none⟩ (.int .i64 5)=W1 at H0⊢;clear c0 f0;refine(mI H0.o.ri bO).mono ?_;rintro e W2 ⟨rfl,h2,g2⟩;have H2:=p9 (H0.o.call h2 g2);clear h2 g2 H0;go_wp2_with fail;refine(Cs H2.o.ri A6.o).mono ?_;rintro e W3 ⟨rfl,h3,g3⟩;have H:=H2.o.call h3 g3;have Ah:=H.lq.at_ 15 (.string ⟨#[]⟩) rfl;have f15:W3.frozen? ⟨x,15,none⟩=false:=H.lq.free 15;have H4:=p9 (H.set 15 (.string i));clear h3 g3 H H2;go_wp2_with fail;generalize W3.setCell ⟨x,15,none⟩ (.string i)=W4 at H4⊢;clear Ah f15;refine(has H4.o.ri dC m0 S.o).mono ?_;rintro e W5 ⟨rfl,h5,g5⟩;rw[U.o] at h5;have H5:qv (fN W0 b E t G x (qC {aB with kind:=5,ai:=i} (.slice none 0 0) (.slice none 0 0) (.slice none 0 0) (.slice none 0 0)) ⟨(.slice none 0 0),[],(.slice none 0 0),[],(.slice none 0 0),[],(.slice none 0 0),[]⟩ W5):=H4.o.call h5 g5;clear h5 g5 H4;go_upto_block 0 with fail;go_cut [5,6,7] (fun _ _ _ w=>∃vp pr f,fN W0 b E t f x (qC {aB with kind:=5,ai:=i} (.slice none 0 0) (.slice none 0 0) (.slice none 0 0) vp) ⟨(.slice none 0 0),[],(.slice none 0 0),[],(.slice none 0 0),[],vp,pr⟩ w/\(if m0 then eu (st.rest.length+1) [] G else ([],G))=(pr,f)/\pr.length+f.rest.length<=2002)
 case first=>
  go_wp2_with fail;go_loopg [5] (st.rest.length+1) (fun n more w=>∃vp pr f m,more=.bool m/\fN W0 b E t f x (qC {aB with kind:=5,ai:=i} (.slice none 0 0) (.slice none 0 0) (.slice none 0 0) vp) ⟨(.slice none 0 0),[],(.slice none 0 0),[],(.slice none 0 0),[],vp,pr⟩ w/\(m=true->(if m0 then eu (st.rest.length+1) [] G else ([],G))=eu n pr f/\f.rest.length+1<=n/\pr.length+f.rest.length<=2001)/\(m=false->(if m0 then eu (st.rest.length+1) [] G else ([],G))=(pr,f)/\pr.length+f.rest.length<=2002))
  case atStart=>
   refine⟨_,[],_,m0,rfl,H5.o,fun e=>⟨by rw[e];rfl,by omega,by simp;omega⟩,fun e=>⟨by rw[e];rfl,by simp;omega⟩⟩
  case round=>
   obtain⟨vp,pr,f,m,rfl,c,hT,hF⟩:=hrel;obtain⟨ao,ca,rfl,Ai⟩:=aQ (l:=pr) c.rp;have HQ:=p9 c;have q2:=c.ri.box.at_ 2 (.bool f.bad) rfl;clear c H5;cases m with
   | false=>
    obtain⟨V,e2⟩:=hF rfl;have E1:=p9 V;clear V hT hF;go_wp2_with fail;go_meet
    case rel=>exact⟨_,pr,f,HQ.o,E1.o,e2⟩
   | true=>
    obtain⟨V,e2,e3⟩:=hT rfl;have E1:=p9 V;clear V hT hF;cases a:f.bad with
    | true=>
     have HB:=p9 a;rw[a] at q2;clear a;go_wp2_with fail;go_meet
     case rel=>exact⟨_,pr,f,HQ.o,by rw[E1.o];exact Cq HB.o,by omega⟩
    | false=>
     have HB:=p9 a;rw[a] at q2;clear a;obtain⟨n,hn⟩:∃n,gk=n+1:=⟨gk - 1,by omega⟩;subst hn;obtain⟨nm,s3,Z⟩:∃nm s3,cI f=(nm,s3):=⟨_,_,rfl⟩;have Ab:=p9 Z;obtain⟨d,r,A4⟩:∃d r,fq (-1000000000) 1000000000 (bG cD s3)=(d,r):=⟨_,_,rfl⟩;have Ag:=p9 A4;have z:qv (tG pr f=(⟨nm,d⟩,r.bA (seen pr nm pr.length))):=by show _=_;unfold tG;rw[Lz];simp only[Z,A4]
     have M:=JH pr f;rw[z.o,pq] at M;clear Z A4;obtain⟨F,N⟩:∃F,r.bA (seen pr nm pr.length)=F:=⟨_,rfl⟩;rw[N] at z;have Az:F.rest.length=r.rest.length:=by rw[<-N];rfl
     have Ad:=p9 N;clear N;go_upto_block 1 with fail;go_cut [6,7] (fun _ _ w=>∃v,fN W0 b E t F x (qC {aB with kind:=5,ai:=i} (.slice none 0 0) (.slice none 0 0) (.slice none 0 0) v) ⟨(.slice none 0 0),[],(.slice none 0 0),[],(.slice none 0 0),[],v,(pr++[⟨nm,d⟩])⟩ w)
     case first=>
      have A:=p9 (HQ.o.more #[.string ⟨#[]⟩,.int .i64 0] 120);clear HQ;go_wp2_with fail;obtain⟨Y,hY⟩:∃Y,Y=wr.heap.size:=⟨_,rfl⟩;rw[<-hY] at A⊢;clear hY q2;generalize wr.alloc (.cells #[.string ⟨#[]⟩,.int .i64 0] 120)=W6 at A⊢;refine(lD A.o.q.ri Ab.o).mono ?_;rintro e W7 ⟨rfl,s,g7⟩;have K:=A.o.call s g7;have c0:=K.ly.at_ 0 (.string ⟨#[]⟩) rfl;have f0:W7.frozen? ⟨Y,0,none⟩=false:=K.ly.free 0;have y:=p9 (K.fS 0 (.string nm));clear s g7 K A;go_wp2_with fail;generalize W7.setCell ⟨Y,0,none⟩ (.string nm)=W8 at y⊢;clear c0 f0;refine(mI y.o.q.ri cD).mono ?_;rintro e W9 ⟨rfl,h9,g9⟩;have H9:=p9 (y.o.call h9 g9);clear h9 g9 y;go_wp2_with fail;refine(rG H9.o.q.ri Ag.o).mono ?_;rintro e WA ⟨rfl,hA,gA⟩;have L:=H9.o.call hA gA;have c1:=L.ly.at_ 1 (.int .i64 0) rfl;have f1:WA.frozen? ⟨Y,1,none⟩=false:=L.ly.free 1;have A5:qv (QY W0 b E t r x (qC {aB with kind:=5,ai:=i} (.slice none 0 0) (.slice none 0 0) (.slice none 0 0) (.slice ao pr.length ca)) ⟨(.slice none 0 0),[],(.slice none 0 0),[],(.slice none 0 0),[],(.slice ao pr.length ca),pr⟩ Y #[.string nm,.int .i64 d] 120 (WA.setCell ⟨Y,1,none⟩ (.int .i64 d))):=L.fS 1 (.int .i64 d);clear hA gA L H9;go_upto_block 2 with fail;generalize WA.setCell ⟨Y,1,none⟩ (.int .i64 d)=WB at A5⊢;clear c1 f1;go_cut [7] (fun _ w=>QY W0 b E t (r.bA (seen pr nm pr.length)) x (qC {aB with kind:=5,ai:=i} (.slice none 0 0) (.slice none 0 0) (.slice none 0 0) (.slice ao pr.length ca)) ⟨(.slice none 0 0),[],(.slice none 0 0),[],(.slice none 0 0),[],(.slice ao pr.length ca),pr⟩ Y #[.string nm,.int .i64 d] 120 w)
      case first=>
       go_wp2_with fail;go_loopg [7] pr.length (fun n iv w=>∃k:Nat,iv=.int .i64 (k:Int)/\k+n=pr.length/\QY W0 b E t (r.bA (seen pr nm k)) x (qC {aB with kind:=5,ai:=i} (.slice none 0 0) (.slice none 0 0) (.slice none 0 0) (.slice ao pr.length ca)) ⟨(.slice none 0 0),[],(.slice none 0 0),[],(.slice none 0 0),[],(.slice ao pr.length ca),pr⟩ Y #[.string nm,.int .i64 d] 120 w)
       case atStart=>exact⟨0,rfl,by omega,by rw[JX,RS.L7];exact A5.o⟩
       case round=>
        obtain⟨k,rfl,hk,c⟩:=hrel;have HK:=p9 c;have As:=c.q.lq.at_ 16 (.slice ao pr.length ca) rfl;by_cases X:k<pr.length
        ·obtain⟨g,rfl,B⟩:=nC (l:=pr) dG (fun _=>rfl) c.q.rp X;have p0:wr.cell? ⟨g,k*2,none⟩=some (.string pr[k].key):=B 0 (by decide);have y0:=c.ly.at_ 0 (.string nm) rfl;have b2:=c.q.ri.box.at_ 2 (.bool (r.bA (seen pr nm k)).bad) rfl;have At:wr.frozen? ⟨b,2,none⟩=false:=c.q.ri.box.free 2;have Av:k<9223372036854775807:=by omega
         have Aj:(k:Int)<(pr.length:Int):=by omega
         obtain⟨key,D⟩:∃key,pr[k].key=key:=⟨_,rfl⟩;have T:qv (r.bA (seen pr nm (k+1))=⟨(r.bA (seen pr nm k)).rest,(r.bA (seen pr nm k)).bad || (key.toList==nm.toList)⟩):=by show _=_;rw[KX X,D];unfold RS.bA jb;simp[Bool.or_assoc]
         rw[D] at p0;clear c B D X;cases a:(r.bA (seen pr nm k)).bad with
         | true=>
          rw[a] at b2;go_upto_region 14 with fail;go_region;go_wp2_with fail;go_roundg (gk - 1)
          case measure=>omega
          case rel=>exact⟨k+1,by simp,by omega,by rw[T.o,a,Bool.true_or];exact(HK.o.dR true).drew 1⟩
         | false=>
          rw[a] at b2;cases he:(key.toList==nm.toList) with
          | true=>
           go_upto_region 14 with fail;go_region;go_wp2_with fail;go_roundg (gk - 1)
           case measure=>omega
           case rel=>exact⟨k+1,by simp,by omega,by rw[T.o,a,he,Bool.false_or];exact(HK.o.dR true).drew 1⟩
          | false=>
           go_upto_region 14 with fail;go_region;go_wp2_with fail;go_roundg (gk - 1)
           case measure=>omega
           case rel=>exact⟨k+1,by simp,by omega,by rw[T.o,a,he,Bool.false_or];exact(HK.o.dR false).drew 1⟩
        ·have Aj:¬(k:Int)<(pr.length:Int):=by omega
         go_wp2_with fail;go_meet
         case rel=>
          have:k=pr.length:=by omega
          rw[this] at HK;exact HK.o
      case rest=>
       rw[Ad.o] at hcut;have HY:=p9 hcut;go_upto_region 15 with fail;have y0:=hcut.ly.at_ 0 (.string nm) rfl;have y1:=hcut.ly.at_ 1 (.int .i64 d) rfl;have B1:=hcut.q.lq.at_ 16 (.slice ao pr.length ca) rfl;have Aq:wc.frozen? ⟨x,16,none⟩=false:=hcut.q.lq.free 16;have HD:qv (fN W0 b E t F x (qC {aB with kind:=5,ai:=i} (.slice none 0 0) (.slice none 0 0) (.slice none 0 0) (.slice ao pr.length ca)) ⟨(.slice none 0 0),[],(.slice none 0 0),[],(.slice none 0 0),[],(.slice ao pr.length ca),pr⟩ ((wc.alloc (.cells #[.string nm,.int .i64 d] 120)).drew)):=(HY.o.q.alloc _).drew 1;have Ar:(wc.alloc (.cells #[.string nm,.int .i64 d] 120)).cell? ⟨x,16,none⟩=some (.slice ao pr.length ca):=(HD.o.lq.cell 16).trans rfl;clear hcut HY;go_region_law (refine step_append_lies _ rfl _ _ 47 rfl W0.heap.size 120 i1 (.agg #[.string ⟨#[]⟩,.int .i64 0]) 2 24 underlying47 hj An Ao Ap rfl (by decide) (.slice ao pr.length ca) _ _ (by simp[Act.eval]) HD.o.rp ⟨wc.heap.size,0,none⟩ 1 1 [.string nm,.int .i64 d] (by simp[Act.eval]) rfl (World.news_of_block (heap_alloc_new wc _)) CZ (by omega) (by unfold maxLen;simp only;omega) (by simp only;omega) HD.o.grown.size _ rfl ?_;intro g2 A7 w5 O C _ _;have I:=HD.o.aj (l:=[⟨nm,d⟩]) C (by rw[qH,r7];exact O);have c5:w5.cell? ⟨x,16,none⟩=some (.slice ao pr.length ca):=(I.lq.cell 16).trans rfl;have f5:w5.frozen? ⟨x,16,none⟩=false:=I.lq.free 16;have H5:=p9 (I.set 16 (.slice (some ⟨g2,0,none⟩) (pr.length+1) A7));clear I O C)
       all_goals
        go_wp2_with fail;go_meet
        case rel=>exact⟨_,H5.o⟩
     case rest=>
      clear HQ q2;obtain⟨v,c⟩:=hcut;have u:=p9 c;have q6:=c.ri.box.at_ 2 (.bool F.bad) rfl;clear c;have Aw:(pr++[(⟨nm,d⟩:bm)]).length=pr.length+1:=by simp
      cases p:F.bad with
      | true=>
       have Q:=p9 p;rw[p] at q6;clear p;go_wp2_with fail;go_roundg n
       case measure=>omega
       case rel=>exact⟨_,pr++[⟨nm,d⟩],F,false,rfl,u.o,fun h=>(by cases h),fun _=>⟨by rw[E1.o];exact sB HB.o z.o (ad Q.o),by omega⟩⟩
      | false=>
       have Q:=p9 p;rw[p] at q6;clear p;cases ha:aO aN F with
       | false=>
        have j:=p9 ha;clear ha;go_wp2_with fail;refine(has u.o.ri aN false j.o).mono ?_;rintro e W7 ⟨rfl,s,g7⟩;rw[eG j.o] at s;have J:=p9 (u.o.call s g7);clear s g7 q6;go_wp2_with fail;go_roundg n
        case measure=>omega
        case rel=>exact⟨_,pr++[⟨nm,d⟩],F,false,rfl,J.o,fun h=>(by cases h),fun _=>⟨by rw[E1.o];exact sB HB.o z.o (a6 j.o),by omega⟩⟩
       | true=>
        have j:=p9 ha;have Ak:=lh ha;clear ha;go_wp2_with fail;refine(has u.o.ri aN true j.o).mono ?_;rintro e W7 ⟨rfl,s,g7⟩;have J:=p9 (u.o.call s g7);clear s g7 q6;go_wp2_with fail;go_roundg n
        case measure=>omega
        case rel=>exact⟨_,pr++[⟨nm,d⟩],bz aN F,true,rfl,J.o,fun _=>⟨by rw[E1.o];exact zO HB.o z.o Q.o j.o,by omega,by omega⟩,fun h=>(by cases h)⟩
 case rest=>
  obtain⟨vp,pr,s6,c,M,Ax⟩:=hcut;obtain⟨ao,ca,rfl,Ai⟩:=aQ (l:=pr) c.rp;have Ac:=p9 M;have u:=p9 c;clear c M H5;go_upto_if 85 with fail;go_cut [] (fun w=>fN W0 b E t (if m0 then bG iy s6 else s6) x (qC {aB with kind:=5,ai:=i} (.slice none 0 0) (.slice none 0 0) (.slice none 0 0) (.slice ao pr.length ca)) ⟨(.slice none 0 0),[],(.slice none 0 0),[],(.slice none 0 0),[],(.slice ao pr.length ca),pr⟩ w)
  case first=>
   cases m0 with
   | false=>
    go_wp2_with fail;go_meet
    case rel=>exact u.o
   | true=>
    go_wp2_with fail;refine(mI u.o.ri iy).mono ?_;rintro e W7 ⟨rfl,s,g7⟩;have J:=p9 (u.o.call s g7);clear s g7 u;go_wp2_with fail;go_meet
    case rel=>exact J.o
  case rest=>
   obtain⟨s7,A0⟩:∃s7,(if m0 then bG iy s6 else s6)=s7:=⟨_,rfl⟩;rw[A0] at hcut;have Ae:=p9 A0;have J:=p9 hcut;clear A0 hcut u;go_wp2_with fail;refine(mI J.o.ri bN).mono ?_;rintro e W8 ⟨rfl,h8,g8⟩;obtain⟨P,A1⟩:∃P,bG bN s7=P:=⟨_,rfl⟩;rw[A1] at h8;have Af:=p9 A1;have y:=p9 (J.o.call h8 g8);have r2:=y.o.ri.box.at_ 2 (.bool P.bad) rfl;have Au:W8.frozen? ⟨b,2,none⟩=false:=y.o.ri.box.free 2;have z3:=y.o.lq.at_ 16 (.slice ao pr.length ca) rfl;clear h8 g8 J A1;have R:qv (mv st=((i,pr),P.bA (decide (6<pr.length)))):=by
    show _=_;unfold mv;simp only[A6.o,S.o,U.o];have V:(if m0=true then eu (st.rest.length+1) [] G else ([],s1))=(pr,s6):=by
     rw[<-Ac.o];cases hm:m0 with
     | true=>rfl
     | false=>
      have:=U.o;rw[eG (by rw[S.o,hm])] at this;rw[this]
    rw[V];simp only;rw[Ae.o,Af.o]
   cases a:P.bad with
   | true=>
    rw[a] at r2;have HF:qv (mv st=((i,pr),⟨P.rest,true⟩)):=by show _=_;rw[R.o];unfold RS.bA;simp only[a];rfl
    clear a;go_wp2_with fail;go_end0;refine⟨rfl,.slice ao pr.length ca,?_⟩;rw[HF.o];exact y.o.dR true
   | false=>
    rw[a] at r2;by_cases h6:6<pr.length
    ·have HF:qv (mv st=((i,pr),⟨P.rest,true⟩)):=by show _=_;rw[R.o];unfold RS.bA;simp only[a];simp[h6]
     clear a;have A8:(6:Int)<pr.length:=by omega
     go_wp2_with fail;go_end0;refine⟨rfl,.slice ao pr.length ca,?_⟩;rw[HF.o];exact y.o.dR true
    ·have HF:qv (mv st=((i,pr),⟨P.rest,false⟩)):=by show _=_;rw[R.o];unfold RS.bA;simp only[a];simp[h6]
     clear a;have A8:¬(6:Int)<pr.length:=by omega
     have Aa:qv (decide ((6:Int)<pr.length)=false):=decide_eq_false A8;go_wp2_with fail;go_end0;refine⟨rfl,.slice ao pr.length ca,?_⟩;rw[HF.o,Aa.o];exact y.o.dR false
end
def Jh:List UInt8->List UInt8->List (List UInt8)
 | fL,[]=>if fL=[] then [] else [fL]
 | fL,c::r=>if c=10 then fL::Jh [] r else Jh (fL++[c]) r
def Bt:List UInt8->List UInt8->List (List UInt8)
 | fL,[]=>[fL]
 | fL,c::r=>if c=10 then fL::Bt [] r else Bt (fL++[c]) r
theorem GJ:∀(t a:List UInt8),Jh a (t++[10])=Bt a t
 | [],a=>by simp[Jh,Bt]
 | c::r,a=>by
  rw[tw];unfold Jh Bt;split
  ·rw[GJ r]
  ·rw[GJ r]
theorem LF:∀(t a:List UInt8),t≠[]->t.getLast?≠some 10->Jh a t=Bt a t
 | [],_,h,_=>absurd rfl h
 | [c],a,_,h=>by
  have hc:¬c=10:=fun e=>h (by rw[e];rfl);unfold Jh Bt;rw[bk hc,bk hc];unfold Jh Bt;rw[bk (by simp)]
 | c::d::r,a,_,h=>by
  have ih:=fun a=>LF (d::r) a (by simp) (by rwa [List.getLast?_cons_cons] at h);unfold Jh Bt;rw[ih,ih]
theorem Ez:∀(t a:List UInt8),(∀c∈t,c≠10)->Bt a t=[a++t]
 | [],a,_=>by simp[Bt]
 | c::r,a,h=>by
  unfold Bt;rw[bk (h c (by simp)),Ez r _ (fun d hd=>h d (by simp[hd]))];simp
theorem Ie:∀(t a r:List UInt8),(∀c∈t,c≠10)->Bt a (t++10::r)=(a++t)::Bt [] r
 | [],a,r,_=>by simp[Bt]
 | c::t,a,r,h=>by
  rw[tw]
  conv=>lhs;unfold Bt
  rw[bk (h c (by simp)),Ie t _ r (fun d hd=>h d (by simp[hd]))];simp
theorem xT:∀(n:Nat) (t:List UInt8),t.length<=n->Lib.splitK [10] 0 (Lib.count t [10]) t=Bt [] t
 | n,t,hn=>by
  rcases Lib.index_spec t [10] with ⟨h1,h2⟩|⟨i,h1,h2,h3,h4⟩
  ·have hno:∀c∈t,c≠10:=fun c a e=>by
    obtain⟨j,d,rfl⟩:=zc a;have:=h2 j (Nat.le_of_lt d);unfold Lib.occAt at this;rw[xi d,e] at this;simp[List.isPrefixOf] at this
   rw[Ez t [] hno,Lib.count_one,List.count_eq_zero.2 (fun a=>hno 10 a rfl)]
   rfl
  ·have hi:i<t.length:=by
    rcases ua i t.length with h|h
    ·exact h
    ·unfold Lib.occAt at h3;rw[BS h] at h3;cases h3
   have a:t[i]=10:=by
    unfold Lib.occAt at h3;rw[xi hi] at h3;simp only[List.isPrefixOf,Bool.and_true,beq_iff_eq] at h3;exact h3.symm
   have f:t=t.take i++10::t.drop (i+1):=by
    rw[<-a,<-xi hi,Mp]
   have hno:∀c∈t.take i,c≠10:=fun c a e=>by
    obtain⟨j,d,rfl⟩:=zc a;rw[v8] at d;have:=h4 j (by omega);unfold Lib.occAt at this;rw[List.getElem_take] at e;rw[xi (by omega),e] at this;simp[List.isPrefixOf] at this
   have b:Lib.count t [10]=Lib.count (t.drop (i+1)) [10]+1:=by
    rw[Lib.count_one,Lib.count_one]
    conv=>lhs;rw[f]
    rw[List.count_append,List.count_cons,List.count_eq_zero.2 (fun a=>hno 10 a rfl)];simp
   have g:Bt [] t=t.take i::Bt [] (t.drop (i+1)):=by
    conv=>lhs;rw[f]
    rw[Ie _ _ _ hno,tV]
   rw[b,g];unfold Lib.splitK;rw[h1,bk (by simp)];show t.take (i+0)::_=_
   match n,hn with
   | 0,hn=>exact absurd hi (by omega)
   | n+1,hn=>rw[Bs];exact congrArg _ (xT n (t.drop (i+1)) (by rw[x9];omega))
theorem ql(s:ByteArray):∀n i f,n+i=s.size->f<=i->(ee s n i f).map (fun x=>x.data.toList)=Jh ((s.data.toList.take i).drop f) (s.data.toList.drop i)
 | 0,i,f,h,hf=>by
  have hl:s.data.toList.length=s.size:=by rw[A4];rfl
  rw[uB (by omega),BS (show s.data.toList.length<=i by omega)];unfold ee Jh;by_cases a:f<s.size
  ·rw[a8 a,bk (fun e=>by have:=congrArg List.length e;rw[x9,yd] at this;omega)];simp only[xd,Cf];rw[Lib.extract_to_end]
  ·rw[bk a,a8 (BS (by omega))]
   rfl
 | n+1,i,f,h,hf=>by
  have hl:s.data.toList.length=s.size:=by rw[A4];rfl
  have hi:i<s.data.toList.length:=by omega
  have c:bt s i=((s.data.toList[i].toNat:Nat):Int):=by
   unfold bt;rw[dif_pos (by omega)]
   rfl
  rw[xi hi];unfold ee Jh;rw[c];by_cases b:s.data.toList[i]=10
  ·rw[a8 b,a8 (by rw[b];rfl),xd,ql s n (i+1) (i+1) (by omega) (rm _)]
   congr 1
   ·rw[Lib.extract_data,List.drop_take]
   ·congr 1
    rw[BS (by rw[v8];omega)]
  ·rw[bk b,bk (fun e=>b (UInt8.toNat_inj.1 (by have:=Int.ofNat.inj e;exact this))),ql s n (i+1) f (by omega) (by omega)]
   congr 1
   rw[tt,r6 hi,RW (by rw[v8];omega)]
   rfl
theorem tK:∀{a b:List ByteArray},a.map (fun x=>x.data.toList)=b.map (fun x=>x.data.toList)->a=b
 | [],[],_=>rfl
 | [],_::_,h=>by cases h
 | _::_,[],h=>by cases h
 | x::a,y::b,h=>by
  rw[xd,xd] at h;injection h with h1 h2
  rw[tK h2]
  congr 1
  cases x
  cases y
  congr 1
  exact Array.toList_inj.1 h1
theorem NC(s:ByteArray):ee s s.size 0 0=jk s:=by
 apply tK;rw[ql s s.size 0 0 (by omega) (rm _),List.take_zero,List.drop_zero,List.drop_zero];unfold jk;by_cases he:s.toList.isEmpty=true
 ·rw[a8 he];have e:s.data.toList=[]:=by rw[<-ByteArray.toList_eq];simpa using he
  rw[e]
  rfl
 ·rw[bk he,Lib.splitB_data];have e:s.data.toList≠[]:=fun e=>he (by rw[ByteArray.toList_eq,e];rfl);show _=Lib.splitK [10] 0 (Lib.count (iV s).data.toList [10]) (iV s).data.toList;rw[xT _ _ (rm _)];unfold iV Lib.trimSuffix;show Jh [] s.data.toList=Bt [] _;simp only;by_cases a:Lib.hasSuffix s.data.toList [10]=true
  ·rw[a8 a];obtain⟨t,b⟩:=List.isSuffixOf_iff_suffix.1 (show [10].isSuffixOf s.data.toList=true from a);rw[<-b,GJ]
   congr 1
   simp
  ·rw[bk a];refine LF _ _ e fun h=>a ?_;obtain⟨t,b⟩:=List.getLast?_eq_some_iff.1 h;exact List.isSuffixOf_iff_suffix.2 ⟨t,b.symm⟩
end Go.Proofs.YtbfmmmjkjhjleaaGreatDoor
