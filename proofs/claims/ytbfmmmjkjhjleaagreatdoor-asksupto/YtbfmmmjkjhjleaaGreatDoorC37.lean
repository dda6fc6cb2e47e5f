/- Mine. -/
import Derived.Test.YtbfmmmjkjhjleaaGreatDoorC29
import Derived.Test.YtbfmmmjkjhjleaaGreatDoorC33
set_option maxRecDepth 100000
set_option maxHeartbeats 0
namespace Go.Proofs.YtbfmmmjkjhjleaaGreatDoor
open Go.Proofs.Tryz
variable {n:Nat} {r:List Nat}
section
open Go.RowKit
variable {S:Nat} {F:SF} {W0:World} {cost:Int} {rv:Value} {vals:List Value} {rows:List (List Nat)} {w w2:World}
theorem Pf{a:Nat}{yv:Value}(L:vt S F W0 n)(h:kM S F W0 cost rv vals rows w)(hy:w.ownsRow W0.heap.size 3 1 yv r.length (kE r))(R:r=[]->yv=.slice none 0 0)(hn:r.length+(n+1)=F.q.ah.length)(M:∀i∈r,i<F.sm.length)(ha:a<F.sm.length)(j:BV F 1 (cost,rows))(t:0<=F.bud/\F.bud<=5000)(P:r.length<F.q.ah.length):
  Calls prog 149 #[.pointer (some ⟨S,0,none⟩),yv,.int .i64 (a:Int),.slice none 0 0] w fun e w'=>e=.returned (.tuple #[])/\mA S F W0 rv (if (F.q.ah[r.length]'P).least<=0 then eE F (kI F n) r (cost,rows) a else (cost,rows)) w w':=by
 have h6:=h.fix.small.1;obtain⟨ya,yc,A6⟩:=aV hy;subst A6;obtain⟨sa,sc,C,-⟩:=bi h.fx.rs;have B:=h.fx.rs;rw[C] at B;have s1:w.cell? ⟨S,1,none⟩=some (.slice sa F.q.ah.length sc):=(h.bJ.cell 1).trans (by rw[<-C];rfl);obtain⟨T,U,rfl,A⟩:=bC (l:=F.q.ah) nG (fun _=>rfl) B P;obtain⟨⟨E,D,G,x3,x4⟩,hx⟩:∃x,F.q.ah[r.length]=x:=⟨_,rfl⟩;rw[hx] at A⊢
 dsimp only
 have A4:qv (∀w2,kM S F W0 cost rv vals rows w2->w2.ownsRow W0.heap.size 3 1 (.slice ya r.length yc) r.length (kE r)->Calls prog 150 #[.pointer (some ⟨S,0,none⟩),.slice ya r.length yc,.int .i64 (a:Int)] w2 fun e w'=>e=.returned (.tuple #[])/\mA S F W0 rv (eE F (kI F n) r (cost,rows) a) w2 w'):=p9 (fun w2 v hy2=>I1 L v hy2 R hn M ha j t);obtain⟨st,s⟩:∃st,st=(if x3<=0 then eE F (kI F n) r (cost,rows) a else (cost,rows)):=⟨_,rfl⟩;have I:=p9 s;have A9:qv (BV F 1 st):=p9 (by
  rw[s];split
  ·exact tT (fun r st f=>zC n r st f) j a
  ·exact j)
 rw[<-s];clear s;have A8:=p9 j;have HY:=p9 hy;have Aa:0<=cost:=by have:=j.1;simp at this;omega
 have p0:w.cell? ⟨T,U+r.length*5,none⟩=some (.string E):=A 0 (by omega);have p1:w.cell? ⟨T,U+r.length*5+1,none⟩=some (.string D):=A 1 (by omega);have p2:w.cell? ⟨T,U+r.length*5+2,none⟩=some (.string G):=A 2 (by omega);have p3:w.cell? ⟨T,U+r.length*5+3,none⟩=some (.int .i64 x3):=A 3 (by omega);have p4:w.cell? ⟨T,U+r.length*5+4,none⟩=some (.int .i64 x4):=A 4 (by omega);have Ac:(r.length:Int)<(F.q.ah.length:Int):=by omega
 have H:=p9 h;clear h C B A hx hy L R M j t;go_enter func149,ntmps149
 go_upto_region 1 with fail;have f:=(r5 w.heap.size w).alloc (rm _) (.cells #[.string E,.string D,.string G,.int .i64 x3,.int .i64 x4] 191);have p:=p9 (Loc.new w #[.string E,.string D,.string G,.int .i64 x3,.int .i64 x4] 191);have H1:=p9 (H.o.below f);have u:=p9 (HY.o.kept (ag f none) (by cases (Value.ownBlock _)<;>simp));have Y:=p9 f;obtain⟨X,hX⟩:∃X,X=w.heap.size:=⟨_,rfl⟩;rw[<-hX] at p⊢;clear hX f p0 p1 p2 p3 p4 s1;generalize w.alloc (.cells #[.string E,.string D,.string G,.int .i64 x3,.int .i64 x4] 191)=W1 at p H1 u Y⊢;have A7:=p.o.at_ 3 (.int .i64 x3) rfl;have V:=p.o.at_ 4 (.int .i64 x4) rfl;have g:=H1.o.bJ.at_ 18 (.slice none 0 0) rfl;have J:=H1.o.bJ.at_ 19 (.int .i64 cost) rfl;have K:=H1.o.bJ.at_ 20 (.int .i64 F.bud) rfl;clear g J K;go_upto_if 27 with fail;go_cut [] (fun z=>∃d c,kM S F W0 st.1 d c st.2 z/\Loc z X #[.string E,.string D,.string G,.int .i64 x3,.int .i64 x4] 191/\Kept (ym S rv) w z/\wI w rv d)
 case first=>
  by_cases O:x3<=0
  ·have HE:qv (st=eE F (kI F n) r (cost,rows) a):=p9 (by rw[I.o,a8 O]);go_wp2_with fail;refine(A4.o W1 H1.o u.o).mono ?_;rintro e Z ⟨rfl,d,c,v,k,m⟩;have HR:qv (∃d c,kM S F W0 st.1 d c st.2 Z/\Loc Z X #[.string E,.string D,.string G,.int .i64 x3,.int .i64 x4] 191/\Kept (ym S rv) w Z/\wI w rv d):=p9 (by
    have N:Kept (ym S rv) w W1:=(Kept.refl _ w).below Y.o;refine⟨d,c,by rw[HE.o];exact v,?_,N.trans k,fun b f=>(m b f).imp id fun e=>r8 N.size e⟩;have f:Z.heap[X]?=W1.heap[X]?:=k.block X p.o.lt (fun e=>by
     rcases e with e|e
     ·have h1:=H1.o.bJ;rw[<-e] at h1;have y:=p.o;unfold Loc at h1 y;rw[h1] at y;injection y with y
      injection y with _ y
      exact absurd y (by decide)
     ·exact aR H1.o.row p.o (by decide) e)
    exact f.trans p.o)
   clear v k m;go_wp2_with fail;go_meet
   case rel=>exact HR.o
  ·have HE:qv (st=(cost,rows)):=p9 (by rw[I.o,bk O]);go_wp2_with fail;go_meet
   case rel=>exact⟨rv,vals,by rw[HE.o];exact H1.o,p.o,(Kept.refl _ w).below Y.o,fun _ f=>ad f⟩
 case rest=>
  obtain⟨d,c,v,Q,k,m⟩:=hcut;have A5:=p9 Q;have W:=p9 v;have A2:=p9 k;have A1:=p9 m;clear Q v k m A7 V p H1 u Y;have HP:qv (∀z,Below wc.heap.size wc z->mA S F W0 rv st w z):=p9 (fun z hz=>⟨d,c,W.o.below hz,A2.o.below hz,A1.o⟩);have V:=A5.o.at_ 4 (.int .i64 x4) rfl;have g:=W.o.bJ.at_ 18 (.slice none 0 0) rfl;have J:=W.o.bJ.at_ 19 (.int .i64 st.1) rfl;have K:=W.o.bJ.at_ 20 (.int .i64 F.bud) rfl;go_upto_region 3 with fail;by_cases hm:x4<=0
  ·go_quiet (fail)
   go_wp2_with fail
   (try simp only[Exit.inBlock,Exit.then])
   refine bodyPost_ret (results_none rfl _ _ _) rfl ?_;exact⟨rfl,HP.o _ (Joins.below_draws _ wc nq)⟩
  ·by_cases Ab:F.bud<st.1
   ·go_quiet (fail)
    go_wp2_with fail
    (try simp only[Exit.inBlock,Exit.then])
    refine bodyPost_ret (results_none rfl _ _ _) rfl ?_;exact⟨rfl,HP.o _ (Joins.below_draws _ wc nq)⟩
   ·go_quiet (fail)
    have g:(wc.drewN nq).cell? ⟨S,18,none⟩=some (.slice none 0 0):=g;have A0:=p9 (Joins.below_draws wc.heap.size wc nq);go_wp2_with fail;go_loopg [9] 0 (fun _ iv z=>iv=.int .i64 0/\z.cell? ⟨S,18,none⟩=some (.slice none 0 0)/\Below wc.heap.size wc z)
    case atStart=>exact⟨rfl,g,A0.o⟩
    case round=>
     obtain⟨rfl,g,f⟩:=hrel;have A3:=p9 (HP.o _ f);go_wp2_with fail;go_end0;exact⟨rfl,A3.o⟩
theorem My{B k:Nat}{t:TypeId}{v:Value}{xs:List Value}{D:Nat->Prop}(h:w.ownsRow B t k v n xs)(hk:Kept D w w2)(f:∀g,v.ownBlock=some g->¬D g):w2.ownsRow B t k v n xs:=by
 refine⟨h.1,?_⟩;rcases h.2 with c|⟨g,cap,b,rfl,d,a,r⟩
 ·exact ad c
 ·exact a6 ⟨g,cap,b,rfl,d,(hk.block g (lt_of_block a) (f g rfl)).trans a,r⟩
theorem kM.other{c:Value}{xs:List Value}(h:kM S F W0 cost rv vals rows w)(b:w.ownsRow W0.heap.size 3 1 c n xs)(g:Nat)(a:c.ownBlock=some g):¬ym S rv g:=by
 rintro (rfl|e)
 ·exact aR b h.bJ (by decide) a
 ·rcases bT b h.row (by decide) with h1|h1
  ·rw[h1] at a;cases a
  ·exact h1 (by rw[a,e])
theorem xV{rec:List Nat->Int × List (List Nat)->Int × List (List Nat)}{r:List Nat}{st:Int × List (List Nat)}(h:F.bud<st.1):∀l:List Nat,l.foldl (eE F rec r) st=st
 | []=>rfl
 | a::l=>by
  rw[L2];have:eE F rec r st a=st:=by unfold eE;rw[bk (by rintro ⟨_,e⟩;omega)]
  rw[this];exact xV h l
theorem E8{rec:List Nat->Int × List (List Nat)->Int × List (List Nat)}{st:Int × List (List Nat)}{k m:Nat}(hk:k<=m)(h:F.bud<((List.range k).foldl (eE F rec r) st).1):(List.range m).foldl (eE F rec r) st=(List.range k).foldl (eE F rec r) st:=by
 obtain⟨d,rfl⟩:∃d,m=k+d:=⟨m - k,by omega⟩;rw[List.range_add,L3];exact xV h _
theorem Rp(Ai:0<F.q.ah.length)(Q:0<=F.bud/\F.bud<=5000):vt S F W0 0:=by
 intro r yv cost rv Ac rows w h U A5 m C y;obtain⟨i1,hj,A8,A9,Aa⟩:=info_parts Tryz.Nf;have h6:=h.fix.small.1;have Af:=h.fix.small.2.1;have m:r.length=F.q.ah.length:=by omega
 have h0:0<F.sm.length:=by
  cases r with
  | nil=>simp at m;omega
  | cons a t=>have:=C a (by simp);omega
 have Ae:=Q.2;have Ah:rows.length<=5001:=by have h1:=y.1;have T:=y.2;simp at h1 T;omega
 have A6:(kE r).length=r.length*1:=by simp[kE]
 obtain⟨ya,yc,A7⟩:=aV U;subst A7;obtain⟨sa,sc,R,-⟩:=bi h.fx.rs;obtain⟨ca,cc,B,-⟩:=bi h.fx.rc;have s1:w.cell? ⟨S,1,none⟩=some (.slice sa F.q.ah.length sc):=(h.bJ.cell 1).trans (by rw[<-R];rfl);have s2:w.cell? ⟨S,2,none⟩=some (.slice ca F.q.aq.length cc):=(h.bJ.cell 2).trans (by rw[<-B];rfl);have E:=h.fx.rc;rw[B] at E;have A1:=p9 E;have Ag:((r.length:Int)==(F.q.ah.length:Int))=true:=by rw[m];simp
 have H:=p9 h;have HY:=p9 U;have Y:qv (∀(c:bW) (z:World),Below w.heap.size w z->Calls prog 148 #[.pointer (some ⟨S,0,none⟩),.slice ya r.length yc,.agg #[.int .i64 c.op,.string c.a.name,.string c.a.key,.int .i64 c.a.val,.string c.b.name,.string c.b.key,.int .i64 c.b.val]] z fun e W'=>e=.returned (.bool (mE F.sm F.q.ah r c))/\Below z.heap.size z W'):=p9 (fun c z hz=>Oj (h.below hz).bJ (h.below hz).fx ((aJ U A6).below hz) m C h0);have M:qv (kI F 0 r (cost,rows)=if F.q.aq.all (mE F.sm F.q.ah r) then (cost,rows++[r]) else (cost,rows)):=p9 rfl;clear h U A5 R B E C y m;generalize F.q.ah.length=sl at*;go_enter func104,ntmps104
 go_wp2_with fail;go_loopg [4] F.q.aq.length (fun c iv z=>∃k:Nat,iv=.int .i64 (k:Int)/\k+c=F.q.aq.length/\(∀x∈F.q.aq.take k,mE F.sm F.q.ah r x=true)/\Below w.heap.size w z)
 case atStart=>exact⟨0,rfl,by omega,fun x g=>(by simp at g),r5 _ _⟩
 case round=>
  obtain⟨k,rfl,hk,ha,i⟩:=hrel;have HA:=p9 ha;have p:=p9 i;clear ha i;have s2:wr.cell? ⟨S,2,none⟩=some (.slice ca F.q.aq.length cc):=(p.o.cell (block_lt_of_cell s2)).trans s2;by_cases D:k<F.q.aq.length
  ·have A3:(k:Int)<(F.q.aq.length:Int):=by omega
   obtain⟨v,co,rfl,n⟩:=bC (l:=F.q.aq) pX (fun _=>rfl) (A1.o.below p.o) D;have P:qv (F.q.aq.take (k+1)=F.q.aq.take k++[F.q.aq[k]]):=p9 (by rw[tt,r6 D];rfl);have O:qv (F.q.aq[k]∈F.q.aq):=p9 (sT D);have G:=Y.o F.q.aq[k] wr p.o;obtain⟨⟨op,⟨n1,k1,v1⟩,⟨n2,k2,v2⟩⟩,g⟩:∃x,F.q.aq[k]=x:=⟨_,rfl⟩;rw[g] at n P O G;have p0:wr.cell? ⟨v,co+k*7,none⟩=some (.int .i64 op):=n 0 (by omega);have p1:wr.cell? ⟨v,co+k*7+1,none⟩=some (.string n1):=n 1 (by omega);have p2:wr.cell? ⟨v,co+k*7+2,none⟩=some (.string k1):=n 2 (by omega);have p3:wr.cell? ⟨v,co+k*7+3,none⟩=some (.int .i64 v1):=n 3 (by omega);have p4:wr.cell? ⟨v,co+k*7+4,none⟩=some (.string n2):=n 4 (by omega);have p5:wr.cell? ⟨v,co+k*7+5,none⟩=some (.string k2):=n 5 (by omega);have p6:wr.cell? ⟨v,co+k*7+6,none⟩=some (.int .i64 v2):=n 6 (by omega);have G:=p9 G;clear n g;obtain⟨cb,A⟩:∃cb,mE F.sm F.q.ah r ⟨op,⟨n1,k1,v1⟩,⟨n2,k2,v2⟩⟩=cb:=⟨_,rfl⟩;rw[A] at G;have K:=p9 A;clear A;go_wp2_with fail;refine G.o.mono ?_;rintro e W2 ⟨rfl,d⟩;have J:=p9 (p.o.trans (d.mono p.o.size));clear d p0 p1 p2 p3 p4 p5 p6 G;cases cb with
   | false=>
    have X:qv (kI F 0 r (cost,rows)=(cost,rows)):=p9 (by
     rw[M.o,bk];intro e;have:=List.all_eq_true.1 e _ O.o;rw[K.o] at this;cases this)
    go_wp2_with fail
    (try simp only[Exit.inBlock,Exit.then])
    refine bodyPost_ret (results_none rfl _ _ _) rfl ?_;exact⟨rfl,by rw[X.o];exact mA.below (st:=(cost,rows)) H.o J.o⟩
   | true=>
    go_wp2_with fail;go_roundg (gk - 1)
    case measure=>omega
    case rel=>
     refine⟨k+1,by simp,by omega,fun x g=>?_,J.o⟩;rw[P.o] at g;rcases List.mem_append.1 g with g|g
     ·exact HA.o x g
     ·simp only[vA] at g;subst g;exact K.o
  ·have A3:¬(k:Int)<(F.q.aq.length:Int):=by omega
   have X:qv (kI F 0 r (cost,rows)=(cost,rows++[r])):=p9 (by
    rw[M.o,a8 (List.all_eq_true.2 fun x g=>HA.o x (by rwa [uB (by omega)]))])
   obtain⟨V,W,A4⟩:=aV H.o.row;subst A4;have d:=p.o.alloc p.o.size (.cells #[.slice ya r.length yc] 206);have H2:=p9 (H.o.below p.o);have I:=p9 (H.o.below d);have A2:=p9 (HY.o.kept (ag d none) (by cases (Value.ownBlock _)<;>simp));have N:=p9 ((Kept.refl (ym S (.slice V rows.length W)) w).below d);have Ad:=H2.o.bJ.at_ 21 (.slice V rows.length W) rfl;clear d;go_wp2_with (at_builtin;go_must (refine wpList_append_lies _ rfl _ _ 197 rfl W0.heap.size 206 i1 (.slice none 0 0) 1 24 underlying197 hj A8 A9 Aa rfl (by decide) (.slice V rows.length W) _ _ (by simp[Act.eval]) I.o.row ⟨wr.heap.size,0,none⟩ 1 1 [.slice ya r.length yc] (by simp[Act.eval]) rfl (World.news_of_block (heap_alloc_new wr _)) (by simp[Value.oneCell']) (by omega) (by unfold maxLen;omega) (by omega) I.o.low.size _ rfl ?_);intro g2 Ab w5 s f j _;have Z:=p9 j;have u:=I.o.bJ.dY I.o.row f (by decide);have c5:w5.cell? ⟨S,21,none⟩=some (.slice V rows.length W):=(u.cell 21).trans rfl;have f5:w5.frozen? ⟨S,21,none⟩=false:=u.free 21;have L:=p9 f;have A0:=p9 s;clear u s f j)
   (try simp only[Exit.inBlock,Exit.then])
   refine bodyPost_ret (results_none rfl _ _ _) rfl ?_;refine⟨rfl,?_⟩;rw[X.o];refine⟨_,_,I.o.add A2.o L.o A0.o,?_,fun b i=>?_⟩
   ·exact(N.o.then L.o (fun b i=>ad (a6 i))).then (aE w5 S 21 _) (fun b i=>ad (ad (by injection i with i;exact i.symm)))
   ·have i:g2=b:=by injection i
    rcases Z.o with T|T
    ·exact ad (by rw[T,i])
    ·refine a6 ?_;have:=N.o.size;omega
theorem Ro{S:Nat}{F:SF}{W0:World}(ih:vt S F W0 n)(C:0<=F.bud/\F.bud<=5000)(t:∀s,F.q.ah[0]?=some s->s.type.toList.isEmpty=true):vt S F W0 (n+1):=by
 intro r yv cost rv A4 rows w h P B u j i;have h6:=h.fix.small.1;have Ap:=h.fix.small.2.2.2.1;have f:r.length<F.q.ah.length:=by omega
 have i:BV F 1 (cost,rows):=⟨by have:=i.1;simpa using this,i.2⟩;have Am:(kE r).length=r.length*1:=by simp[kE]
 obtain⟨ya,yc,An⟩:=aV P;subst An;obtain⟨sa,sc,A,-⟩:=bi h.fx.rs;have y:=h.fx.rs;rw[A] at y;have s1:w.cell? ⟨S,1,none⟩=some (.slice sa F.q.ah.length sc):=(h.bJ.cell 1).trans (by rw[<-A];rfl);obtain⟨sg,so,rfl,hc⟩:=bC (l:=F.q.ah) nG (fun _=>rfl) y f;have L:=fun {a:Nat} (E:a<F.sm.length)=>Pf (a:=a) ih h P B u j E i C f;have A8:qv (∀(a:Nat) (st:Int × List (List Nat)) (d:Value) (b:List Value) (z:World),a<F.sm.length->kM S F W0 st.1 d b st.2 z->z.ownsRow W0.heap.size 3 1 (.slice ya r.length yc) r.length (kE r)->BV F 1 st->Calls prog 150 #[.pointer (some ⟨S,0,none⟩),.slice ya r.length yc,.int .i64 (a:Int)] z fun e w'=>e=.returned (.tuple #[])/\mA S F W0 d (eE F (kI F n) r st a) z w'):=
  p9 (fun a st d b z E hz hyz hb=>I1 ih hz hyz B u j E hb C)
 have A5:qv (∀k,BV F 1 ((List.range k).foldl (eE F (kI F n) r) (cost,rows))):=p9 (fun k=>B7 (fun st a hb=>tT (fun r st hb=>zC n r st hb) hb a) _ _ i);obtain⟨⟨xn,xl,xt,x3,x4⟩,M⟩:∃x,F.q.ah[r.length]=x:=⟨_,rfl⟩;have G:kI F (n+1) r (cost,rows)=if xt.toList.isEmpty then (List.range F.sm.length).foldl (eE F (kI F n) r) (cost,rows) else if x3<=0 then eE F (kI F n) r (cost,rows) (r.getLast?.getD 0) else (cost,rows):=by
  conv=>lhs;unfold kI
  rw[r6 f,M]
  rfl
 have g:=p9 G;rw[M] at hc;have p2:w.cell? ⟨sg,so+r.length*5+2,none⟩=some (.string xt):=hc 2 (by omega);have Au:(r.length:Int)<(F.q.ah.length:Int):=by omega
 have Aq:((r.length:Int)==(F.q.ah.length:Int))=false:=by simpa using fun e=>absurd e (by omega)
 have H:=p9 h;have HY:=p9 P;cases K:xt.toList.isEmpty with
 | false=>
  have A3:r≠[]:=by
   rintro rfl;have:=t F.q.ah[0] (r6 f);simp only[yd] at M;rw[M] at this;rw[K] at this;cases this
  obtain⟨l,a,m⟩:∃l a,r=l++[a]:=by
   rcases List.eq_nil_or_concat r with h|⟨l,a,h⟩
   ·exact absurd h A3
   ·exact⟨l,a,by rw[h,List.concat_eq_append]⟩
  have I:r.length=l.length+1:=by rw[m];simp
  obtain⟨yg,yo,Al,cy⟩:=CM (aJ P Am) (k:=l.length) (by omega);subst Al;have Z:r[l.length]'(by omega)=a:=by simp[m]
  rw[Z] at cy;have Ae:a<F.sm.length:=j a (by rw[m];simp);have hw:=L Ae;have e1:(F.q.ah[r.length]'f).least=x3:=by rw[M]
  rw[e1] at hw;have A9:=p9 hw;rw[bk (by simp[K])] at g;have U:qv (r.getLast?.getD 0=a):=p9 (by rw[m];simp);rw[U.o] at g;have As:((r.length:Int) - 1)=(l.length:Int):=by omega
  have Ar:(l.length:Int)<(r.length:Int):=by omega
  clear L hw e1 G hc M h P B j A y Z m A3 U I u;go_enter func104,ntmps104
  go_wp2_with fail;refine A9.o.mono ?_;rintro e W2 ⟨rfl,hp⟩;have HP:=p9 hp;clear hp;go_wp2_with fail
  (try simp only[Exit.inBlock,Exit.then])
  refine bodyPost_ret (results_none rfl _ _ _) rfl ?_;exact⟨rfl,by rw[g.o];exact HP.o⟩
 | true=>
  rw[a8 K] at g;clear L G hc M h P B j A y u;obtain⟨na,nc,A2,-⟩:=bi H.o.fx.nr;have A6:=p9 A2;have R:qv (∀{c:Int} {v:Value} {z:World},Loc z S (sC F c v) 199->z.cell? ⟨S,17,none⟩=some (.slice na F.sm.length nc)):=p9 (fun hl=>(hl.cell 17).trans (by rw[<-A6.o];rfl));clear A2;go_enter func104,ntmps104
  go_wp2_with fail;go_loopg [6] F.sm.length (fun c iv z=>∃(k:Nat) (d:Value) (b:List Value),iv=.int .i64 (k:Int)/\k+c=F.sm.length/\kM S F W0 ((List.range k).foldl (eE F (kI F n) r) (cost,rows)).1 d b ((List.range k).foldl (eE F (kI F n) r) (cost,rows)).2 z/\Kept (ym S rv) w z/\wI w rv d)
  case atStart=>exact⟨0,rv,A4,rfl,by omega,H.o,Kept.refl _ _,fun _ hb=>ad hb⟩
  case round=>
   obtain⟨k,d,b,rfl,hk,E,A1,A0⟩:=hrel;have W:=p9 (A5.o k);have V:qv ((List.range (k+1)).foldl (eE F (kI F n) r) (cost,rows)=eE F (kI F n) r ((List.range k).foldl (eE F (kI F n) r) (cost,rows)) k):=p9 (by rw[List.range_succ,L3];rfl);have X:=p9 (fun (hk:k<=F.sm.length)=>E8 (F:=F) (rec:=kI F n) (r:=r) (st:=(cost,rows)) hk);obtain⟨st,J⟩:∃st,(List.range k).foldl (eE F (kI F n) r) (cost,rows)=st:=⟨_,rfl⟩;have A7:=p9 J;rw[J] at E W V X;clear J;have O:=p9 E;have p:=p9 A1;have D:=p9 A0;have Aa:=p9 (My HY.o p.o (H.o.other HY.o));have Ab:=R.o O.o.bJ;have Ac:=O.o.bJ.at_ 19 (.int .i64 st.1) rfl;have Ad:=O.o.bJ.at_ 20 (.int .i64 F.bud) rfl;clear E A1 A0 s1 p2;go_upto_region 10 with fail;by_cases Aj:k<F.sm.length
   ·have Ai:(k:Int)<(F.sm.length:Int):=by omega
    by_cases Af:st.1<=F.bud
    ·go_quiet (fail)
     have hd:Below wr.heap.size wr (wr.drewN nq):=Joins.below_draws _ wr nq;have Q:=p9 (O.o.below hd);have Y:=p9 (Aa.o.kept (ag hd none) (by cases (Value.ownBlock _)<;>simp));have T:=p9 (p.o.below hd);clear hd Ab Ac Ad;generalize wr.drewN nq=W2 at Q Y T⊢;go_wp2_with fail;refine(A8.o k st d b W2 Aj Q.o Y.o W.o).mono ?_;rintro e W3 ⟨rfl,hp⟩;have HP:=p9 hp;clear hp;go_wp2_with fail;go_roundg (gk - 1)
     case measure=>omega
     case rel=>
      have Ak:=mA.step T.o D.o HP.o;obtain⟨Ao,N,h3,Ah,Ag⟩:=Ak;exact⟨k+1,Ao,N,by simp,by omega,by rw[V.o];exact h3,Ah,Ag⟩
    ·have HE:qv (kI F (n+1) r (cost,rows)=st):=p9 (by rw[g.o,X.o (by omega) (by omega)]);have At:¬st.1<=F.bud:=Af;go_quiet (fail)
     go_wp2_with fail;go_end0;exact⟨rfl,by rw[HE.o];exact⟨d,b,O.o.below (Joins.below_draws _ wr nq),p.o.below (Joins.below_draws _ wr nq),D.o⟩⟩
   ·have Ai:¬(k:Int)<(F.sm.length:Int):=by omega
    have HE:qv (kI F (n+1) r (cost,rows)=st):=p9 (by
     have e:k=F.sm.length:=by omega
     rw[g.o,<-e,A7.o])
    go_quiet (fail)
    go_wp2_with fail;go_end0;exact⟨rfl,by rw[HE.o];exact⟨d,b,O.o.below (Joins.below_draws _ wr nq),p.o.below (Joins.below_draws _ wr nq),D.o⟩⟩
theorem cmp_eq(x y:Int):(Lib.compareInt x y=0↔x=y)/\(Lib.compareInt x y<0↔x<y):=by
 unfold Lib.compareInt;split
 ·omega
 ·split<;>omega
theorem Ou(op:Int)(a b:Option Int):EG op a b=nH op a b:=by
 unfold EG nH;by_cases j:op=7
 ·subst j;cases a<;>rfl
 by_cases k:op=8
 ·subst k;cases a<;>rfl
 rw[bk (by rintro (h|h);exact j h;exact k h),bk (by simpa using j),bk (by simpa using k)];cases a with
 | none=>rfl
 | some x=>
  cases b with
  | none=>rfl
  | some y=>
   have h:(eB (some x) (some y)=0↔x=y)/\(eB (some x) (some y)<0↔x<y):=cmp_eq x y;simp only[B1,Bool.not_true,Bool.or_self,th,if_false,RE,Tk,beq_iff_eq];have c:(eB (some x) (some y) > 0↔y<x)/\(eB (some x) (some y)<=0↔x<=y)/\(eB (some x) (some y)≥0↔y<=x):=by omega
   by_cases h1:op=1
   ·rw[a8 h1,a8 h1,Ft,beq_iff_eq,beq_iff_eq];exact h.1.symm
   rw[bk h1,bk h1];by_cases d:op=2
   ·rw[a8 d,a8 d,Ft,bne_iff_ne,bne_iff_ne];exact not_congr h.1.symm
   rw[bk d,bk d];by_cases f:op=3
   ·rw[a8 f,a8 f,Ft,decide_eq_true_eq,decide_eq_true_eq];exact h.2.symm
   rw[bk f,bk f];by_cases g:op=4
   ·rw[a8 g,a8 g,Ft,decide_eq_true_eq,decide_eq_true_eq];exact c.2.1.symm
   rw[bk g,bk g];by_cases i:op=5
   ·rw[a8 i,a8 i,Ft,decide_eq_true_eq,decide_eq_true_eq];exact c.1.symm
   rw[bk i,bk i,Ft,decide_eq_true_eq,decide_eq_true_eq];exact c.2.2.symm
theorem CF(s:ByteArray)(W:World)(hs:s.size<=maxLen){j:List Tok}(I:dN s=some j){q0:aI}{s0:RS}(Ar:qv (iS ⟨j,false⟩=(q0,s0))):Calls prog 8 #[.string s] W (rF (parseText (dN s)) W):=by
 have Ag:Below W.heap.size W (W.alloc (.cells zq 49)):=FD (r5 _ _) (rm _) _;have L0:=Loc.new W zq 49;have HZ:=size_alloc W (.cells zq 49);have A4:=p9 Ag;have Y:=p9 L0;clear Ag L0;go_enter func8,ntmps8
 go_wp2_with fail;obtain⟨X0,Aa⟩:∃X0,X0=W.heap.size:=⟨_,rfl⟩;rw[<-Aa] at Y⊢;have A0:W.heap.size<=X0:=by omega
 have As:X0+1=(W.alloc (.cells zq 49)).heap.size:=by rw[HZ,Aa]
 clear Aa;generalize W.alloc (.cells zq 49)=Wz at A4 Y HZ As⊢;refine(uD s Wz hs).mono ?_;rintro e W1 ⟨A1,hr⟩;have Ao:=p9 A1;have L:=A1.size;rcases hr with ⟨Al,rfl⟩|⟨Aw,lv,T,rfl,Q⟩
 ·rw[I] at Al;cases Al
 ·obtain rfl:j=Aw:=by rw[I] at T;exact Bm T
  clear T;have hl:=DL I;obtain⟨ao,ca,rfl,Ay⟩:=aQ (l:=j) Q;have Z:=p9 (fN.start A1 Q hl);clear A1 Q Ao;go_upto_region 6 with fail;obtain⟨x,hx⟩:∃x,x=W1.heap.size+1:=⟨_,rfl⟩;obtain⟨b,hb⟩:∃b,b=W1.heap.size:=⟨_,rfl⟩;have Ax:Wz.heap.size<=b:=by omega
  have At:X0≠b:=by omega
  rw[<-hx,<-hb] at Z⊢;clear hx hb L;generalize (W1.alloc (.cells #[.slice ao j.length ca,.int .i64 0,.bool false] 91)).alloc (.cells zq 49)=W2 at Z⊢;have HQ:qv (fN Wz b (.slice ao j.length ca) j ⟨j,false⟩ x (qC aB (.slice none 0 0) (.slice none 0 0) (.slice none 0 0) (.slice none 0 0)) ⟨(.slice none 0 0),[],(.slice none 0 0),[],(.slice none 0 0),[],(.slice none 0 0),[]⟩ W2):=Z.o;clear Z;obtain⟨m0,Ai⟩:∃m0,aO aW ⟨j,false⟩=m0:=⟨_,rfl⟩;have M:=p9 Ai;obtain⟨s1,L⟩:∃s1,bz aW ⟨j,false⟩=s1:=⟨_,rfl⟩;have A8:=p9 L;clear Ai L;go_wp2_with fail;refine(has HQ.o.ri aW m0 M.o).mono ?_;rintro e W3 ⟨rfl,h3,g3⟩;rw[A8.o] at h3;have H3:=p9 (HQ.o.call h3 g3);clear h3 g3 HQ;go_upto_region 7 with fail;go_cut [9] (fun v w=>∃m s2,v=.bool m/\fN Wz b (.slice ao j.length ca) j s2 x (qC aB (.slice none 0 0) (.slice none 0 0) (.slice none 0 0) (.slice none 0 0)) ⟨(.slice none 0 0),[],(.slice none 0 0),[],(.slice none 0 0),[],(.slice none 0 0),[]⟩ w/\((m0=true/\m=false/\s2=s1)\/(m0=false/\m=aO fl s1/\s2=bz fl s1)))
  case first=>
   cases m0 with
   | true=>
    go_wp2_with fail;go_meet
    case rel=>exact⟨false,s1,rfl,H3.o,ad ⟨trivial,rfl,rfl⟩⟩
   | false=>
    obtain⟨mc,Aj⟩:∃mc,aO fl s1=mc:=⟨_,rfl⟩;have Ac:=p9 Aj;clear Aj;go_wp2_with fail;refine(has H3.o.ri fl mc Ac.o).mono ?_;rintro e W4 ⟨rfl,h4,g4⟩;have U:=p9 (H3.o.call h4 g4);clear h4 g4;go_wp2_with fail;go_meet
    case rel=>exact⟨mc,_,rfl,U.o,a6 ⟨trivial,Ac.o.symm,rfl⟩⟩
  case rest=>
   obtain⟨m,s2,rfl,Am,P⟩:=hcut;have U:=p9 Am;have A6:=p9 P;clear Am P H3;go_upto_block 0 with fail;go_cut [] (fun w=>∃q vs vc vi vp d,fN Wz b (.slice ao j.length ca) j d x (qC q vs vc vi vp) ⟨vs,q.ah,vc,q.aq,vi,q.af,vp,q.aj⟩ w/\iS ⟨j,false⟩=(q,d))
   case first=>
    cases m0 with
    | true=>
     have HE:qv (s2=s1):=by rcases A6.o with ⟨_,_,e⟩|⟨e,_⟩;exact e;cases e
     go_wp2_with fail;refine(Tc U.o).mono ?_;rintro e t ⟨rfl,vp,g⟩;have V:=p9 g;clear g;go_wp2_with fail;go_meet
     case rel=>exact⟨{aB with kind:=5,ai:=(mv s2).1.1,aj:=(mv s2).1.2},(.slice none 0 0),(.slice none 0 0),(.slice none 0 0),vp,(mv s2).2,V.o,by unfold iS;simp only[M.o,A8.o,if_true,HE.o]⟩
    | false=>
     have HE:qv (m=aO fl s1/\s2=bz fl s1):=by rcases A6.o with ⟨e,_⟩|⟨_,a,b⟩;cases e;exact⟨a,b⟩
     have A7:qv (s1=⟨j,false⟩):=by show _=_;rw[<-A8.o];exact eG M.o
     cases m with
     | true=>
      obtain⟨nm,d,Ak⟩:∃n sz,cI s2=(n,sz):=⟨_,_,rfl⟩;have Ad:=p9 Ak;have c0:=U.o.lq.at_ 0 (.int .i64 0) rfl;have f0:wc.frozen? ⟨x,0,none⟩=false:=U.o.lq.free 0;have V:=p9 (U.o.set 0 (.int .i64 6));clear Ak U;go_wp2_with fail;generalize wc.setCell ⟨x,0,none⟩ (.int .i64 6)=t at V⊢;clear c0 f0;refine(lD V.o.ri Ad.o).mono ?_;rintro e W6 ⟨rfl,h6,g6⟩;have X:=V.o.call h6 g6;have c8:=X.lq.at_ 8 (.string ⟨#[]⟩) rfl;have f8:W6.frozen? ⟨x,8,none⟩=false:=X.lq.free 8;have H6:=p9 (X.set 8 (.string nm));clear h6 g6 X V;go_wp2_with fail;go_meet
      case rel=>exact⟨{aB with kind:=6,name:=nm},(.slice none 0 0),(.slice none 0 0),(.slice none 0 0),(.slice none 0 0),d,H6.o,by have h1:=HE.o;rw[A7.o] at h1;unfold iS;simp only[M.o,<-h1.1,<-h1.2,th,if_false,if_true,Ad.o]⟩
     | false=>
      have Ap:qv (s2=⟨j,false⟩):=by have h1:=HE.o;show _=_;rw[h1.2,eG h1.1.symm];exact A7.o
      go_wp2_with fail;refine(RL U.o).mono ?_;rintro e t ⟨rfl,vs,vc,g⟩;obtain⟨sp,cd,d,Ab⟩:∃sp cd d,fE s2=((sp,cd),d):=⟨_,_,_,rfl⟩;rw[Ab] at g;have Aq:=p9 Ab;have V:=p9 g;have q2:=g.ri.box.at_ 2 (.bool d.bad) rfl;have h:qv (iS ⟨j,false⟩=if d.bad then ({aB with ah:=sp,aq:=cd},d) else df {aB with ah:=sp,aq:=cd} d):=by
       have h1:=HE.o.1;rw[A7.o] at h1;show _=_;unfold iS;have h2:=Aq.o;rw[Ap.o] at h2;simp only[M.o,<-h1,th,if_false,h2]
      clear g Ab U;cases K:d.bad with
      | true=>
       have A5:=p9 K;rw[K] at q2;clear K;go_wp2_with fail;go_meet
       case rel=>exact⟨{aB with ah:=sp,aq:=cd},vs,vc,(.slice none 0 0),(.slice none 0 0),d,V.o,by rw[h.o,A5.o];rfl⟩
      | false=>
       have A5:=p9 K;rw[K] at q2;clear K;go_wp2_with fail;refine(behind V.o).mono ?_;rintro e W6 ⟨rfl,vi,g⟩;have H6:=p9 g;clear g q2;go_wp2_with fail;go_meet
       case rel=>
        refine⟨(df {aB with ah:=sp,aq:=cd} d).1,vs,vc,vi,(.slice none 0 0),(df {aB with ah:=sp,aq:=cd} d).2,?_,by rw[h.o,A5.o];rfl⟩;have e1:=zT {aB with ah:=sp,aq:=cd} d;rw[e1.1,e1.2.1,e1.2.2];exact H6.o
   case rest=>
    clear U A6;obtain⟨q,vs,vc,vi,vp,d,g,R⟩:=hcut;obtain⟨A,B,rfl,_⟩:=aQ (l:=q.ah) g.rs;obtain⟨a2,C,rfl,_⟩:=aQ (l:=q.aq) g.rc;obtain⟨a3,D,rfl,_⟩:=aQ (l:=q.af) g.rt;obtain⟨a4,E,rfl,_⟩:=aQ (l:=q.aj) g.rp;have u:qv (Loc wc X0 zq 49):=Y.o.grown g.grown (by intro e;injection e with e;exact At e);have J:qv (Below W.heap.size W wc):=eI A4.o g.grown (by omega);have h:=p9 R;have HX:qv (Loc wc x (qC q (.slice A q.ah.length B) (.slice a2 q.aq.length C) (.slice a3 q.af.length D) (.slice a4 q.aj.length E)) 49):=g.lq;have z:qv (iJ Wz.heap.size q (.slice A q.ah.length B) (.slice a2 q.aq.length C) (.slice a3 q.af.length D) (.slice a4 q.aj.length E) wc):=⟨g.rs,g.rc,g.rt,g.rp⟩;obtain⟨_,_,k,_,_,_,hk,Az,_,b1,b2,_⟩:=g.ri.seen;clear g Y A4;have A3:q0=q/\s0=d:=by rw[Ar.o] at R;exact⟨congrArg Prod.fst R,congrArg Prod.snd R⟩
    clear R;cases A2:d.bad with
    | true=>
     have c:d.bad=true:=A2;clear A3;have f:qv (parseText (dN s)=(aB,3)):=by show _=_;rw[I];unfold parseText sF;simp only[h.o,c];rfl
     rw[c] at b2;clear c;go_upto_region 17 with fail;refine wp_region_lit ?_;refine fc rfl rfl ?_;refine wpList_store_mid rfl 49 _ _ rfl X0 0 zq rfl rfl u.o.there Tryz.bp yG ?_;have O:Loc (wc.setCells X0 0 zq.toList) X0 zq 49:=u.o.fC rfl;have F:=aU X0 zq.toList 0 wc;obtain⟨WF,i⟩:∃WF,wc.setCells X0 0 zq.toList=WF:=⟨_,rfl⟩;rw[i] at O F⊢;clear i;go_wp2_with fail;refine bodyPost_ret (v:=.tuple #[.agg zq,.int .i64 3]) (kC results8 rfl rfl O rfl) rfl ⟨?_,.slice none 0 0,.slice none 0 0,.slice none 0 0,.slice none 0 0,?_,?_⟩
     ·exact eI (b:=X0) J.o F A0
     ·rw[f.o];rfl
     ·rw[f.o];exact iJ.none _ _
    | false=>
     by_cases H:d.rest.length=0
     ·cases An:kK q with
      | false=>
       have c:d.bad=false:=A2;have N:=p9 An;clear A3;rw[c] at b2;have Ah:(k:Int)=(j.length:Int):=by omega
       have y:d.rest=[]:=List.length_eq_zero_iff.1 H;have S:=wk (st:=⟨j,false⟩) (by rw[h.o];exact c);rw[h.o] at S;obtain⟨L,Au,Av⟩:=S;have HP:qv (parseText (dN s)=if kK q then (q,0) else (aB,4)):=by show _=_;rw[I];unfold parseText sF;simp only[h.o,c,y];rfl
       clear c y H;go_upto_region 18 with fail;refine wp_region_lit ?_;refine wpList_load_mid rfl 49 _ rfl x 0 rfl (qC q (.slice A q.ah.length B) (.slice a2 q.aq.length C) (.slice a3 q.af.length D) (.slice a4 q.aj.length E)).toList _ HX.o.range underlying49 rfl (by rw[Tryz.bp];rfl) ?_;go_wp2_with fail;refine(Mt (q:=q) z.o.rs z.o.rc z.o.rt (by omega) (by omega) (by omega)).mono ?_;rintro e t ⟨rfl,G⟩;have g5:=ag G none;have p:qv (Loc t X0 zq 49):=u.o.grown g5 (by simp);have Af:qv (Loc t x (qC q (.slice A q.ah.length B) (.slice a2 q.aq.length C) (.slice a3 q.af.length D) (.slice a4 q.aj.length E)) 49):=HX.o.grown g5 (by simp);have A9:qv (Below W.heap.size W t):=eI (b:=W.heap.size) J.o (ag G _) (rm _);have r:qv (iJ Wz.heap.size q (.slice A q.ah.length B) (.slice a2 q.aq.length C) (.slice a3 q.af.length D) (.slice a4 q.aj.length E) t):=⟨bD z.o.rs g5,bD z.o.rc g5,bD z.o.rt g5,bD z.o.rp g5⟩;clear G g5 u HX J z b1 b2;rw[N.o];have f:qv (parseText (dN s)=(aB,4)):=by show _=_;rw[HP.o,N.o];rfl
       go_upto_region 20 with fail;refine wp_region_lit ?_;refine fc rfl rfl ?_;refine wpList_store_mid rfl 49 _ _ rfl X0 0 zq rfl rfl p.o.there Tryz.bp yG ?_;have O:Loc (t.setCells X0 0 zq.toList) X0 zq 49:=p.o.fC rfl;have F:=aU X0 zq.toList 0 t;obtain⟨WF,i⟩:∃WF,t.setCells X0 0 zq.toList=WF:=⟨_,rfl⟩;rw[i] at O F⊢;clear i;go_wp2_with fail;refine bodyPost_ret (v:=.tuple #[.agg zq,.int .i64 4]) (kC results8 rfl rfl O rfl) rfl ⟨?_,.slice none 0 0,.slice none 0 0,.slice none 0 0,.slice none 0 0,?_,?_⟩
       ·exact eI (b:=X0) A9.o F A0
       ·rw[f.o];rfl
       ·rw[f.o];exact iJ.none _ _
      | true=>
       have c:d.bad=false:=A2;have N:=p9 An;clear A3;rw[c] at b2;have Ah:(k:Int)=(j.length:Int):=by omega
       have y:d.rest=[]:=List.length_eq_zero_iff.1 H;have S:=wk (st:=⟨j,false⟩) (by rw[h.o];exact c);rw[h.o] at S;obtain⟨L,Au,Av⟩:=S;have HP:qv (parseText (dN s)=if kK q then (q,0) else (aB,4)):=by show _=_;rw[I];unfold parseText sF;simp only[h.o,c,y];rfl
       clear c y H;go_upto_region 18 with fail;refine wp_region_lit ?_;refine wpList_load_mid rfl 49 _ rfl x 0 rfl (qC q (.slice A q.ah.length B) (.slice a2 q.aq.length C) (.slice a3 q.af.length D) (.slice a4 q.aj.length E)).toList _ HX.o.range underlying49 rfl (by rw[Tryz.bp];rfl) ?_;go_wp2_with fail;refine(Mt (q:=q) z.o.rs z.o.rc z.o.rt (by omega) (by omega) (by omega)).mono ?_;rintro e t ⟨rfl,G⟩;have g5:=ag G none;have p:qv (Loc t X0 zq 49):=u.o.grown g5 (by simp);have Af:qv (Loc t x (qC q (.slice A q.ah.length B) (.slice a2 q.aq.length C) (.slice a3 q.af.length D) (.slice a4 q.aj.length E)) 49):=HX.o.grown g5 (by simp);have A9:qv (Below W.heap.size W t):=eI (b:=W.heap.size) J.o (ag G _) (rm _);have r:qv (iJ Wz.heap.size q (.slice A q.ah.length B) (.slice a2 q.aq.length C) (.slice a3 q.af.length D) (.slice a4 q.aj.length E) t):=⟨bD z.o.rs g5,bD z.o.rc g5,bD z.o.rt g5,bD z.o.rp g5⟩;clear G g5 u HX J z b1 b2;rw[N.o];have Ae:qv (parseText (dN s)=(q,0)):=by show _=_;rw[HP.o,N.o];rfl
       go_upto_region 21 with fail;refine wp_region_lit ?_;refine wpList_load_mid rfl 49 _ rfl x 0 rfl (qC q (.slice A q.ah.length B) (.slice a2 q.aq.length C) (.slice a3 q.af.length D) (.slice a4 q.aj.length E)).toList _ Af.o.range underlying49 rfl (by rw[Tryz.bp];rfl) ?_;refine wpList_store_mid rfl 49 _ _ rfl X0 0 (qC q (.slice A q.ah.length B) (.slice a2 q.aq.length C) (.slice a3 q.af.length D) (.slice a4 q.aj.length E)) rfl rfl p.o.there Tryz.bp (mW q) ?_;have O:Loc (t.setCells X0 0 (qC q (.slice A q.ah.length B) (.slice a2 q.aq.length C) (.slice a3 q.af.length D) (.slice a4 q.aj.length E)).toList) X0 (qC q (.slice A q.ah.length B) (.slice a2 q.aq.length C) (.slice a3 q.af.length D) (.slice a4 q.aj.length E)) 49:=p.o.fC rfl;have F:=aU X0 (qC q (.slice A q.ah.length B) (.slice a2 q.aq.length C) (.slice a3 q.af.length D) (.slice a4 q.aj.length E)).toList 0 t;obtain⟨WF,i⟩:∃WF,t.setCells X0 0 (qC q (.slice A q.ah.length B) (.slice a2 q.aq.length C) (.slice a3 q.af.length D) (.slice a4 q.aj.length E)).toList=WF:=⟨_,rfl⟩;rw[i] at O F⊢;clear i;go_wp2_with fail;refine bodyPost_ret (v:=.tuple #[.agg (qC q (.slice A q.ah.length B) (.slice a2 q.aq.length C) (.slice a3 q.af.length D) (.slice a4 q.aj.length E)),.int .i64 0]) (kC results8 rfl rfl O rfl) rfl ⟨?_,(.slice A q.ah.length B),(.slice a2 q.aq.length C),(.slice a3 q.af.length D),(.slice a4 q.aj.length E),?_,?_⟩
       ·exact eI (b:=X0) A9.o F A0
       ·rw[Ae.o]
       ·rw[Ae.o];have hw:W.heap.size<=Wz.heap.size:=by omega
        exact⟨cP (r.o.rs.kept F (a6 (aR r.o.rs p.o (by decide)))) hw,cP (r.o.rc.kept F (a6 (aR r.o.rc p.o (by decide)))) hw,cP (r.o.rt.kept F (a6 (aR r.o.rt p.o (by decide)))) hw,cP (r.o.rp.kept F (a6 (aR r.o.rp p.o (by decide)))) hw⟩
     ·skip
      have c:d.bad=false:=A2;clear A3;rw[c] at b2;have Ah:¬(k:Int)=(j.length:Int):=by omega
      have y:d.rest.isEmpty=false:=by cases hr:d.rest with|nil=>rw[hr] at H;exact absurd rfl H|cons a l=>rfl
      have f:qv (parseText (dN s)=(aB,3)):=by show _=_;rw[I];unfold parseText sF;simp only[h.o,y];simp
      clear c H y;go_upto_region 17 with fail;refine wp_region_lit ?_;refine fc rfl rfl ?_;refine wpList_store_mid rfl 49 _ _ rfl X0 0 zq rfl rfl u.o.there Tryz.bp yG ?_;have O:Loc (wc.setCells X0 0 zq.toList) X0 zq 49:=u.o.fC rfl;have F:=aU X0 zq.toList 0 wc;obtain⟨WF,i⟩:∃WF,wc.setCells X0 0 zq.toList=WF:=⟨_,rfl⟩;rw[i] at O F⊢;clear i;go_wp2_with fail;refine bodyPost_ret (v:=.tuple #[.agg zq,.int .i64 3]) (kC results8 rfl rfl O rfl) rfl ⟨?_,.slice none 0 0,.slice none 0 0,.slice none 0 0,.slice none 0 0,?_,?_⟩
      ·exact eI (b:=X0) J.o F A0
      ·rw[f.o];rfl
      ·rw[f.o];exact iJ.none _ _
theorem DY(s:ByteArray)(W:World)(b:s.size<=maxLen):Calls prog 8 #[.string s] W (rF (parseText (dN s)) W):=by
 cases a:dN s with
 | none=>rw[<-a];exact B0 s W b a
 | some ts=>rw[<-a];exact CF s W b a (q0:=(iS ⟨ts,false⟩).1) (s0:=(iS ⟨ts,false⟩).2) rfl
end
end Go.Proofs.YtbfmmmjkjhjleaaGreatDoor
