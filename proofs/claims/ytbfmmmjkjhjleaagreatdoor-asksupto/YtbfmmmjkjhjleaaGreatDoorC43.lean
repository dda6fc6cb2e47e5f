/- Mine. -/
import Derived.Test.YtbfmmmjkjhjleaaGreatDoorC36
import Derived.Test.YtbfmmmjkjhjleaaGreatDoorC41
set_option maxRecDepth 100000
set_option maxHeartbeats 0
namespace Go.Proofs.YtbfmmmjkjhjleaaGreatDoor
open Go.Proofs.Tryz
variable {Z B n k b gb m:Nat} {v lv rv nv:Value} {T:TypeId} {cs:Array Value} {zf ns:List NM} {vals xs:List Value} {l:List ByteArray} {s:ByteArray}
section
open Go.RowKit
theorem Tryz.Ki:(prog.info? 34).map (fun i=>(i.zero,i.size,i.bytes))=some (some (.slice none 0 0),1,24):=by kernel_rfl
theorem qm{P:Program}(w:World){ops:Array Oper}{rest:List Oper}{o:Oper}{a:Act}{Q:Exit->Act->World->Prop}(B:o.guard=none)(s x:Operand)(t:TypeId)
  (J:o.op=.call {callee:=.builtin .append,args:=#[s,x],argTypes:=#[t,t]})
  (base:Nat) (e:TypeId) (i:TypeInfo) (z:Value) (size bytes:Nat) (L:P.underlying t=some (.slice e)) (hi:P.info? e=some i) (R:i.zero=some z)
  (l:i.size=size) (F:i.bytes=bytes) (H:z.cells.size=size) (G:0<size)
  (v:Value) (n:Nat) (xs:List Value) (K:a.eval s=v) (d:w.ownsRow base e size v n xs)
  (D:Addr) (m c:Nat) (news:List Value) (M:a.eval x=.slice (some D) m c) (I:news.length=m*size) (k:∀j u,news[j]?=some u->w.cell? (D.add j)=some u) (h1:∀u∈news,u.oneCell'=true)
  (hm:0<m) (E:n+m<=maxLen) (p:(n+m)*bytes<=140737488355328) (y:base<=w.heap.size)
  (h:∀v' w',w'.ownsRow base e size v' (n+m) (xs++news)->w.grownBy w' v.ownBlock->w'.ownsRow base e size v n xs->(∀b,v'.ownBlock=some b->v.ownBlock=some b\/w.heap.size<=b)->wpList P ops Q rest (a.put o.dst v') w'):wpList P ops Q (o::rest) a w:=by
 rcases d.2 with ⟨A,O⟩|⟨g,cap,X,A,S,Y,V,T,U,W⟩
 ·have N:xs=[]:=RA (by rw[d.1,O];simp);subst O;subst N;refine wpList_append_grows w B s x t J e i z size bytes L hi R l F H G none 0 0 [] (by rw[K,A]) (fun _=>⟨rfl,rfl⟩) (by simp) (fun b r=>by cases r) D m c news M I k h1 (by omega) E p ?_;intro v' w' f q;exact h v' w' (CW f y) (vd q _) (by rw[A];exact tj _ _ _ _) (fun b r=>a6 (f.lt b r).1)
 ·by_cases C:n+m<=cap
  ·refine wpList_append_fits w B s x t J base e i size L hi l g n cap xs (by rw[K,A]) (by rw[<-A];exact d) D m c news M I k h1 C ?_;intro w' f q;refine h _ w' f (by rw[A];exact q) (by rw[A];exact Ai f d.1 (by omega)) (fun b r=>ad (by rw[A];exact r))
  ·refine wpList_append_grows w B s x t J e i z size bytes L hi R l F H G (some ⟨g,0,none⟩) n cap xs (by rw[K,A]) (fun hh=>by cases hh) d.1 ?_ D m c news M I k h1 (by omega) E p ?_
   ·intro b r j u hu;injection r with r
    subst r;have:=d.cells (g:=g) (by rw[A];rfl);exact this j u hu
   ·intro v' w' f q;refine h v' w' (CW f y) (vd q _) (d.kept q ?_) (fun b r=>a6 (f.lt b r).1)
    right;rw[A];simp[Value.ownBlock]
def nL(m:ByteArray)(n:Nat):List Value:=strs (List.replicate n m)
theorem xz(m:ByteArray)(n:Nat):(nL m n).length=n:=by simp[nL,strs]
theorem yW(m:ByteArray)(k n:Nat):nL m (k+n)=nL m k++nL m n:=by
 unfold nL strs;rw[<-List.replicate_append_replicate,vb]
theorem G6{w j:World}{u:Value}{m:ByteArray}(hu:w.ownsRow B 9 1 u k (nL m k))(y:w.ownsRow B 9 1 v n (nL m n))(i:k<=n)(x:w.grownBy j v.ownBlock)(hold:j.ownsRow B 9 1 v n (nL m n)):j.ownsRow B 9 1 u k (nL m k):=by
 by_cases b:u.ownBlock=none\/u.ownBlock≠v.ownBlock
 ·exact hu.kept x b
 ·have b:=not_or.1 b;have c:u.ownBlock=v.ownBlock:=Classical.byContradiction b.2;rcases hu.2 with ⟨rfl,_⟩|⟨g,o,z,rfl,_,h,_,_,s,_⟩
  ·exact absurd rfl b.1
  ·rcases y.2 with ⟨rfl,_⟩|⟨q,p,l,rfl,_,a,_,_,t,_⟩
   ·exact absurd c b.1
   ·have f:g=q:=Bm c;subst f;rw[h] at a;injection a with a
    injection a with a
    subst a;have d:o=p:=by omega
    subst d;have r:nL m n=nL m k++nL m (n - k):=by rw[<-yW];congr 1;omega
    rw[r] at hold;exact Ai hold (by rw[xz];omega) i
def EL(B:Nat)(lv v:Value)(b:Nat):Prop:=b=B\/lv.ownBlock=some b\/v.ownBlock=some b
structure PR(B:Nat)(cs:Array Value)(vals:List Value)(len:Nat)(m:ByteArray)(lv:Value)(us:List Value)(gv:Value)(w:World):Prop where
 bJ:Loc w B (cs.setIfInBounds 4 lv) 33
 row:w.ownsRow 0 34 1 lv (vals.length+us.length) (vals++us)
 old:∀(j:Nat) (h:j<us.length),w.ownsRow 0 9 1 us[j] (len+j) (nL m (len+j))
 fL:w.ownsRow 0 9 1 gv (len+us.length) (nL m (len+us.length))
def Ew(B:Nat)(cs:Array Value)(vals:List Value)(len:Nat)(m:ByteArray)(lv v:Value)(W w:World):Prop:=∃lv' us gv,us.length=4/\PR B cs vals len m lv' us gv w/\Kept (EL B lv v) W w/\∀b,lv'.ownBlock=some b->lv.ownBlock=some b\/W.heap.size<=b
theorem MD{m:ByteArray}(hk:k<l.length):(nL m k++strs (l.drop k)).set k (.string m)=nL m (k+1)++strs (l.drop (k+1)):=by
 rw[yW,List.set_append_right _ _ (by rw[xz];exact rm _),xz,F3,xi hk,wh]
 rfl
theorem Qm{W:World}(C:Loc W B cs 33)(B8:cs.size=5)(h4:cs[4]?=some lv)(F:W.ownsRow 0 34 1 lv vals.length vals)(hn:vals.length<=8000000)(s:W.ownsRow 0 9 1 v l.length (strs l))(Bc:l.length<=900000):
  Calls prog 27 #[.pointer (some ⟨B,0,none⟩),v] W fun e W'=>e=.returned (.tuple #[])/\Ew B cs vals l.length (uA vals.length) lv v W W':=by
 obtain⟨i1,hj,Ao,Ap,Aq⟩:=info_parts Tryz.gV;obtain⟨i2,hk,Al,Am,An⟩:=info_parts Tryz.Ki;have L:=p9 (And.intro hj (And.intro Ao (And.intro Ap Aq)));have M:=p9 (And.intro hk (And.intro Al (And.intro Am An)));clear hj Ao Ap Aq hk Al Am An;obtain⟨y,A,B3⟩:=aV F;subst B3;obtain⟨G,vc,B6⟩:=aV s;subst B6;have c4:W.cell? ⟨B,4,none⟩=some (.slice y vals.length A):=(C.cell 4).trans h4;have O:=AN W (a:=vals.length % 256) (b:=vals.length / 256 % 256) (c:=vals.length / 65536 % 256) (d:=vals.length / 16777216 % 256) (by omega) (by omega) (by omega) (by omega);have e1:((vals.length % 256:Nat):Int)=(vals.length:Int) % 256:=by omega
 have e2:((vals.length / 256 % 256:Nat):Int)=(vals.length:Int) / 256 % 256:=by omega
 have e3:((vals.length / 65536 % 256:Nat):Int)=(vals.length:Int) / 65536:=by omega
 have e4:((vals.length / 16777216 % 256:Nat):Int)=(vals.length:Int) / 16777216:=by omega
 rw[e1,e2,e3,e4] at O;change _=Result.ok (Value.string (uA vals.length)) _ at O;clear e1 e2 e3 e4;generalize uA vals.length=m at O⊢;have B9:0<=(vals.length:Int):=by omega
 have Ba:(vals.length:Int)<=8000000:=by omega
 have HL:=p9 C;have As:=p9 h4;have Ad:=p9 F;have HV:=p9 s;clear C h4 F s;go_enter func27,ntmps27
 go_upto_region 2 with fail;have ha:=(r5 W.heap.size W).alloc (rm _) (.cells #[.int .u8 ((vals.length:Int) % 256),.int .u8 ((vals.length:Int) / 256 % 256),.int .u8 ((vals.length:Int) / 65536),.int .u8 ((vals.length:Int) / 16777216)] 5);have A7:=p9 (HL.o.grown (ag ha none) (by simp));have Ab:=p9 (Ad.o.kept (ag ha none) (by cases (Value.ownBlock _)<;>simp));have Af:=p9 (HV.o.kept (ag ha none) (by cases (Value.ownBlock _)<;>simp));have A5:=p9 ((Kept.refl (EL B (.slice y vals.length A) (.slice G l.length vc)) W).below ha);clear O ha c4 HL Ad HV;generalize W.alloc (.cells #[.int .u8 ((vals.length:Int) % 256),.int .u8 ((vals.length:Int) / 256 % 256),.int .u8 ((vals.length:Int) / 65536),.int .u8 ((vals.length:Int) / 16777216)] 5)=W1 at A7 Ab Af A5⊢;go_upto_block 0 with fail;go_cut [] (fun z=>Loc z B cs 33/\z.ownsRow 0 34 1 (.slice y vals.length A) vals.length vals/\z.ownsRow 0 9 1 (.slice G l.length vc) l.length (nL m l.length)/\Kept (EL B (.slice y vals.length A) (.slice G l.length vc)) W z)
 case first=>
  go_wp2_with fail;go_loopg [6] l.length (fun c kv z=>∃k:Nat,kv=.int .i64 (k:Int)/\k+c=l.length/\Loc z B cs 33/\z.ownsRow 0 34 1 (.slice y vals.length A) vals.length vals/\z.ownsRow 0 9 1 (.slice G l.length vc) l.length (nL m k++strs (l.drop k))/\Kept (EL B (.slice y vals.length A) (.slice G l.length vc)) W z)
  case atStart=>exact⟨0,rfl,by omega,A7.o,Ab.o,Af.o,A5.o⟩
  case round=>
   obtain⟨k,rfl,Bb,C,T,s,q⟩:=hrel;by_cases Ah:k<l.length
   ·have B2:(k:Int)<(l.length:Int):=by omega
    obtain⟨g,cap,B5⟩:=pI s (by omega);injection B5 with Ai Aj Ak
    subst Ai Ak;have st:=s.stored k (.string m);rw[MD Ah] at st;have f0:=s.frozenAt k;obtain⟨u,cu⟩:∃u,wr.cell? ⟨g,k,none⟩=some u:=by
     rw[s.cellAt k (by omega)];exact⟨_,r6 (by rw[s.1];omega)⟩
    have Ay:=p9 st.1;have Au:=p9 (C.aY (fun e=>aR s C (by decide) (by rw[e];rfl)) k (.string m));have Ax:=p9 (T.kept st.2 (bT T s (by decide)));have At:=p9 (q.then st.2 (fun b t=>ad (a6 (a6 t))));clear st C T s q Aj;go_wp2_with fail;go_roundg (gk - 1)
    case measure=>omega
    case rel=>exact⟨k+1,by simp,by omega,Au.o,Ax.o,Ay.o,At.o⟩
   ·have B2:¬(k:Int)<(l.length:Int):=by omega
    obtain rfl:k=l.length:=by omega
    have Az:qv (wr.ownsRow 0 9 1 (.slice G l.length vc) l.length (nL m l.length)):=p9 (by rw[List.drop_length] at s;simpa [strs] using s);have HA:=p9 (And.intro C (And.intro T q));clear C T s q;go_wp2_with fail;go_meet
    case rel=>exact⟨HA.o.1,HA.o.2.1,Az.o,HA.o.2.2⟩
 case rest=>
 obtain⟨C,T,s,q⟩:=hcut;have Ar:qv (cs.setIfInBounds 4 (.slice y vals.length A)=cs):=p9 (by
  apply Array.ext_getElem?;intro i;rw[uc];split
  ·rename_i e;subst e;rw[a8 (by omega),As.o]
  ·rfl)
 have A4:qv (PR B cs vals l.length m (.slice y vals.length A) [] (.slice G l.length vc) wc):=p9 ⟨by rw[Ar.o];exact C,by simpa using T,fun j h=>absurd h (by simp),by simpa using s⟩;have A6:=p9 q;clear C T s q;go_wp2_with fail;go_loopg [7,8] 4 (fun c gv jv z=>∃(P:Value) (f:List Value),jv=.int .i64 (f.length:Int)/\f.length+c=4/\PR B cs vals l.length m P f gv z/\Kept (EL B (.slice y vals.length A) (.slice G l.length vc)) W z/\(∀b,P.ownBlock=some b->(Value.slice y vals.length A).ownBlock=some b\/W.heap.size<=b)/\∀b,gv.ownBlock=some b->(Value.slice G l.length vc).ownBlock=some b\/W.heap.size<=b)
 case atStart=>exact⟨.slice y vals.length A,[],rfl,by simp,A4.o,A6.o,fun _ h=>ad h,fun _ h=>ad h⟩
 case round=>
  obtain⟨P,f,rfl,Bd,hk,q,D,Ag⟩:=hrel;have r:=p9 hk;have w:=p9 q;have N:=p9 D;have A2:=p9 Ag;clear hk q D Ag A4 A6;by_cases Ah:f.length<4
  ·have B4:(f.length:Int)<4:=by omega
   obtain⟨xa,xc,B7⟩:=aV r.o.row;subst B7;have c4:wr.cell? ⟨B,4,none⟩=some (.slice xa (vals.length+f.length) xc):=(r.o.bJ.cell 4).trans (by rw[Array.getElem?_setIfInBounds_self_of_lt (by omega)]);obtain⟨Z,gc,B1⟩:=aV r.o.fL;subst B1;have J:=p9 (r.o.row.alloc (.cells #[.slice Z (l.length+f.length) gc] 34));have A8:=p9 (r.o.bJ.alloc (.cells #[.slice Z (l.length+f.length) gc] 34));go_upto_region 11 with (at_builtin;go_must (refine wpList_append_lies _ rfl _ _ 31 rfl 0 34 i2 (.slice none 0 0) 1 24 underlying31 M.o.1 M.o.2.1 M.o.2.2.1 M.o.2.2.2 rfl (by decide) (.slice xa (vals.length+f.length) xc) _ _ (by simp[Act.eval]) J.o ⟨wr.heap.size,0,none⟩ 1 1 [.slice Z (l.length+f.length) gc] (by simp[Act.eval]) rfl (World.news_of_block (heap_alloc_new wr _)) (by simp[Value.oneCell']) (by omega) (by unfold maxLen;omega) (by omega) (tJ _) _ rfl ?_);intro g2 n H S p E _;have x:=p9 (A8.o.dY J.o p (by decide));have c5:H.cell? ⟨B,4,none⟩=some (.slice xa (vals.length+f.length) xc):=(x.o.cell 4).trans (by rw[Array.getElem?_setIfInBounds_self_of_lt (by omega)]);have f5:H.frozen? ⟨B,4,none⟩=false:=x.o.free 4;have U:=p9 p;have X:=p9 S;have Aa:=p9 E;clear S p E)
   have A0:qv (Loc (H.setCell ⟨B,4,none⟩ (.slice (some ⟨g2,0,none⟩) (vals.length+f.length+1) n)) B (cs.setIfInBounds 4 (.slice (some ⟨g2,0,none⟩) (vals.length+f.length+1) n)) 33):=p9 (by
    have:=x.o.set 4 (.slice (some ⟨g2,0,none⟩) (vals.length+f.length+1) n)
    rwa [Array.setIfInBounds_setIfInBounds] at this)
   have Ac:=p9 (X.o.kept (aE H B 4 (.slice (some ⟨g2,0,none⟩) (vals.length+f.length+1) n)) (a6 fun e=>aR X.o x.o (by decide) e));have Y:qv (∀{k:Nat} {u:Value} {xs:List Value},wr.ownsRow 0 9 1 u k xs->(H.setCell ⟨B,4,none⟩ (.slice (some ⟨g2,0,none⟩) (vals.length+f.length+1) n)).ownsRow 0 9 1 u k xs):=p9 (fun hu=>by
    have h1:=hu.alloc (.cells #[.slice Z (l.length+f.length) gc] 34);have Q:=h1.kept U.o (bT h1 J.o (by decide));exact Q.kept (aE H B 4 _) (a6 fun e=>aR Q x.o (by decide) e))
   have V:qv (Kept (EL B (.slice y vals.length A) (.slice G l.length vc)) W (H.setCell ⟨B,4,none⟩ (.slice (some ⟨g2,0,none⟩) (vals.length+f.length+1) n))):=p9 ((((w.o.below ((r5 wr.heap.size wr).alloc (rm _) (.cells #[.slice Z (l.length+f.length) gc] 34))).then U.o (fun b t=>(N.o b t).imp (fun h=>a6 (ad h)) id)).then (aE H B 4 _) (fun b t=>ad (ad (by injection t with t;exact t.symm)))));have A9:qv (∀b,(Value.slice (some ⟨g2,0,none⟩) (vals.length+f.length+1) n).ownBlock=some b->(Value.slice y vals.length A).ownBlock=some b\/W.heap.size<=b):=p9 (fun b t=>by
    injection t with t
    have t:g2=b:=t;subst t;rcases Aa.o with Q|Q
    ·exact N.o g2 Q
    ·refine a6 ?_;have h3:=w.o.size;rw[z6] at Q;omega)
   have Ae:qv (∀(j:Nat) (h:j<f.length),(H.setCell ⟨B,4,none⟩ (.slice (some ⟨g2,0,none⟩) (vals.length+f.length+1) n)).ownsRow 0 9 1 f[j] (l.length+j) (nL m (l.length+j))):=p9 (fun j h=>Y.o (r.o.old j h));have A1:=p9 (Y.o r.o.fL);clear Y r w N J A8 x U X Aa c4 c5 f5;generalize H.setCell ⟨B,4,none⟩ (.slice (some ⟨g2,0,none⟩) (vals.length+f.length+1) n)=W6 at A0 Ac V Ae A1⊢;have I:=p9 (A1.o.alloc (.cells #[.string m] 9));go_wp2_with (at_builtin;go_must (refine qm _ rfl _ _ 34 rfl 0 9 i1 (.string ⟨#[]⟩) 1 16 underlying34 L.o.1 L.o.2.1 L.o.2.2.1 L.o.2.2.2 rfl (by decide) _ _ _ rfl I.o ⟨W6.heap.size,0,none⟩ 1 1 [.string m] rfl rfl (World.news_of_block (heap_alloc_new W6 _)) (by simp[Value.oneCell']) (by omega) (by unfold maxLen;omega) (by omega) (tJ _) ?_);intro v' w7 R p hold D;have Aw:=p9 R;have K:=p9 p;have A3:=p9 hold;have Av:=p9 D;clear R p hold D)
   go_roundg (gk - 1)
   case measure=>omega
   case rel=>
    have B0:Below W6.heap.size W6 (W6.alloc (.cells #[.string m] 9)):=(r5 _ _).alloc (rm _) _;refine⟨.slice (some ⟨g2,0,none⟩) (vals.length+f.length+1) n,f++[.slice Z (l.length+f.length) gc],by simp,by simp;omega,⟨?_,?_,fun j hj=>?_,?_⟩,?_,A9.o,fun b t=>?_⟩
    ·exact(A0.o.alloc _).dY I.o K.o (by decide)
    ·have h1:=Ac.o.alloc (.cells #[.string m] 9);have Q:=h1.kept K.o (bT h1 I.o (by decide));rw[r7,x6,<-wh];exact Q
    ·rw[r7,x6] at hj;rcases ua j f.length with h1|h1
     ·rw[F5 h1];exact G6 ((Ae.o j h1).alloc _) I.o (by omega) K.o A3.o
     ·obtain rfl:j=f.length:=by omega
      rw[GX (rm _)];simp only[F3,r9];exact A3.o
    ·rw[r7,x6,<-Nat.add_assoc,yW m (l.length+f.length) 1];exact Aw.o
    ·exact(V.o.below B0).then K.o (fun b t=>(A2.o b t).imp (fun h=>a6 (a6 h)) id)
    ·rcases Av.o b t with h1|h1
     ·exact A2.o b h1
     ·refine a6 ?_;have h3:=V.o.size;rw[z6] at h1;omega
  ·have B4:¬(f.length:Int)<4:=by omega
   go_wp2_with fail;go_end0;exact⟨rfl,P,f,_,by omega,r.o,w.o,N.o⟩
open Go.Maps
def QP(W:World)(b:Nat)(T:TypeId):Prop:=∃cs f,W.heap[b]?=some (.cells cs T f)
variable {W w:World} {D:Nat->Prop} {Ts:List TypeId}
theorem il(h:W.ownsRow B T k v n xs)(a:v.ownBlock=some b):QP W b T:=by
 rcases h.2 with ⟨rfl,_⟩|⟨g,cap,d,rfl,_,c,_⟩
 ·cases a
 ·injection a with a
  have a:g=b:=a;subst a;exact⟨_,_,c⟩
theorem gB(h:Loc W b cs T):QP W b T:=⟨_,_,h⟩
theorem QP.one{c:TypeId}(h:QP W b T)(a:QP W b c):T=c:=by
 obtain⟨_,_,h⟩:=h;obtain⟨_,_,a⟩:=a;rw[h] at a;injection a with a
 injection a
def I3(Ts:List TypeId)(D:Nat->Prop)(W:World):Prop:=∀b,D b->∃T,T∈Ts/\QP W b T
theorem I3.no(d:I3 Ts D W)(h:QP W b T)(c:T ∉ Ts):¬D b:=fun e=>by
 obtain⟨f,h1,a⟩:=d b e;exact c (h.one a▸h1)
theorem I3.row(c:I3 Ts D W)(hk:Kept D W w)(a:W.ownsRow B T k v n xs)(b:T ∉ Ts):w.ownsRow B T k v n xs:=
 oh a fun g hg=>hk.block g (a.lt g hg).2 (c.no (il a hg) b)
theorem Kept.row(hk:Kept D W w)(a:W.ownsRow B T k v n xs)(b:∀g,v.ownBlock=some g->¬D g):w.ownsRow B T k v n xs:=oh a fun g hg=>hk.block g (a.lt g hg).2 (b g hg)
theorem I3.loc(d:I3 Ts D W)(hk:Kept D W w)(a:Loc W b cs T)(c:T ∉ Ts):Loc w b cs T:=
 (hk.block b a.lt (d.no (gB a) c)).trans a
theorem VG.stay{G:Nat}{pol:List db}{d i:Value}{ns:List aH}{es:List bK}{last:Int}(h:VG Z G pol cs d i ns es last m W)(c:I3 Ts D W)(hk:Kept D W w)(n:¬D G)(o:∀b,d.ownBlock=some b->¬D b)(l:141 ∉ Ts)(p:104 ∉ Ts):VG Z G pol cs d i ns es last m w:=by
 obtain⟨vp,mp,k,hp⟩:=h.Te;exact⟨⟨(hk.block G h.own.bJ.lt n).trans h.own.bJ,h.own.c0,h.own.c1,h.own.c2,oh h.own.on (fun g a=>hk.block g (h.own.on.lt g a).2 (o g a)),c.row hk h.own.oe l,fun x hx=>(h.own.bf x hx).by (hk.block _ (h.own.bf x hx).lt fun e=>by
  obtain⟨j,_,cs,f,a⟩:=c _ e;exact(h.own.bf x hx).cJ a rfl),h.own.apart,h.own.nk,h.own.top,h.own.kT⟩,h.size,⟨vp,mp,k,c.row hk hp.own p,fun x hx=>(hp.right x hx).by (hk.block _ (hp.right x hx).lt fun e=>by
  obtain⟨j,_,cs,f,a⟩:=c _ e;exact(hp.right x hx).cJ a rfl),hp.rY⟩,h.Nj,h.NW,h.apart,h.base⟩
theorem RG.stay{c:List eT}{last:Int}(h:RG gb rv c nv ns last W)(a:I3 Ts D W)(hk:Kept D W w)(i:¬D gb)(j:∀b,nv.ownBlock=some b->¬D b)(h1:81 ∉ Ts)(d:83 ∉ Ts)(f:120 ∉ Ts):RG gb rv c nv ns last w:=
 ⟨(hk.block gb h.bJ.lt i).trans h.bJ,a.row hk h.vZ h1,fun x hx=>a.row hk (h.AQ x hx) d,⟨oh h.nodes.row fun g hg=>hk.block g (h.nodes.row.lt g hg).2 (j g hg),fun x hx=>a.row hk (h.nodes.Ni x hx) f⟩⟩
structure Sd where
 G:Nat
 gb:Nat
 pol:List db
 cs:Array Value
 vn:Value
 ve:Value
 ns:List aH
 last:Int
 rv:Value
 nv:Value
 rl:List eT
 zf:List NM
structure mP(Z:Nat)(d:Sd)(w:World):Prop where
 vg:VG Z d.G d.pol d.cs d.vn d.ve d.ns [] d.last 6 w
 rg:RG d.gb d.rv d.rl d.nv d.zf d.last w
 rel:ml d.rl d.zf d.last d.pol ⟨d.ns,[],d.last⟩
 low:∀b,BH d.gb d.nv b->Z<=b
theorem mP.stay{Z:Nat}{d:Sd}(h:mP Z d W)(c:I3 Ts D W)(hk:Kept D W w)(f:¬D d.G)(j:¬D d.gb)(i:∀b,d.vn.ownBlock=some b->¬D b)(g:∀b,d.nv.ownBlock=some b->¬D b)(a:∀T∈Ts,T≠141/\T≠104/\T≠81/\T≠83/\T≠120):mP Z d w:=
 ⟨h.vg.stay c hk f i (fun e=>(a _ e).1 rfl) (fun e=>(a _ e).2.1 rfl),h.rg.stay c hk j g (fun e=>(a _ e).2.2.1 rfl) (fun e=>(a _ e).2.2.2.1 rfl) (fun e=>(a _ e).2.2.2.2 rfl),h.rel,h.low⟩
structure AP(d e:Sd):Prop where
 G:d.G≠e.G
 gb:d.gb≠e.gb
 vn:∀b,d.vn.ownBlock=some b->e.vn.ownBlock≠some b
 nv:∀b,d.nv.ownBlock=some b->e.nv.ownBlock≠some b
def IH(d:Sd)(b:Nat):Prop:=b=d.G\/d.vn.ownBlock=some b
theorem NB{d:Sd}(h:mP Z d W):I3 [67,138] (IH d) W:=fun b a=>by
 rcases a with rfl|a
 ·exact⟨_,zi,gB h.vg.own.bJ⟩
 ·exact⟨_,D2 _ zi,il h.vg.own.on a⟩
theorem Ly{c:List eT}{last:Int}(h:RG gb rv c nv ns last W):I3 [73,145] (BH gb nv) W:=fun b a=>by
 rcases a with rfl|a
 ·exact⟨_,zi,gB h.bJ⟩
 ·exact⟨_,D2 _ zi,il h.nodes.row a⟩
theorem mP.T1{d e:Sd}(h:mP Z e W)(c:mP Z d W)(f:AP d e)(hk:Kept (IH d) W w):mP Z e w:=by
 have hw:=NB c;refine h.stay hw hk ?_ (hw.no (gB h.rg.bJ) (by decide)) ?_ (fun b a=>hw.no (il h.rg.nodes.row a) (by decide)) (by decide)
 ·rintro (e|e)
  ·exact f.G e.symm
  ·exact absurd ((gB h.vg.own.bJ).one (il c.vg.own.on e)) (by decide)
 ·rintro b a (e|e)
  ·subst e;exact absurd ((il h.vg.own.on a).one (gB c.vg.own.bJ)) (by decide)
  ·exact f.vn b e a
theorem mP.TZ{e:Sd}{f:List eT}{last:Int}(h:mP Z e W)(c:RG gb rv f nv ns last W)(h1:gb≠e.gb)(d:∀b,nv.ownBlock=some b->e.nv.ownBlock≠some b)(hk:Kept (BH gb nv) W w):mP Z e w:=by
 have hw:=Ly c;refine h.stay hw hk (hw.no (gB h.vg.own.bJ) (by decide)) ?_ (fun b a=>hw.no (il h.vg.own.on a) (by decide)) ?_ (by decide)
 ·rintro (e|e)
  ·exact h1 e.symm
  ·exact absurd ((gB h.rg.bJ).one (il c.nodes.row e)) (by decide)
 ·rintro b a (e|e)
  ·subst e;exact absurd ((il h.rg.nodes.row a).one (gB c.bJ)) (by decide)
  ·exact d b e a
theorem SM{ys:List Value}(h:Loc W B cs 33)(c:W.ownsRow 0 34 1 lv n xs)(d:W.ownsRow 0 9 1 v m ys):I3 [33,34,9] (EL B lv v) W:=fun b a=>by
 rcases a with rfl|a|a
 ·exact⟨_,zi,gB h⟩
 ·exact⟨_,D2 _ zi,il c a⟩
 ·exact⟨_,D2 _ (D2 _ zi),il d a⟩
theorem mP.TG{e:Sd}(h:mP Z e W)(hw:I3 [33,34,9] D W)(hk:Kept D W w):mP Z e w:=
 h.stay hw hk (hw.no (gB h.vg.own.bJ) (by decide)) (hw.no (gB h.rg.bJ) (by decide)) (fun b hb=>hw.no (il h.vg.own.on hb) (by decide)) (fun b hb=>hw.no (il h.rg.nodes.row hb) (by decide)) (by decide)
theorem mP.later{Z:Nat}{e:Sd}(h:mP Z e W)(a:Below W.heap.size W w):mP Z e w:=⟨h.vg.later a,h.rg.below a,h.rel,h.low⟩
def uF:Option Sd->Value
 | none=>.pointer none
 | some d=>.pointer (some ⟨d.G,0,none⟩)
def ul:Option Sd->Value
 | none=>.pointer none
 | some d=>.pointer (some ⟨d.gb,0,none⟩)
def TU(vals:List Value)(w:World):Prop:=∀(i:Nat) (h:i<vals.length),∃n,n<=1000000/\w.ownsRow 0 9 1 vals[i] n (nL (uA (i / 4*4)) n)
structure LI(Z B:Nat)(o:Bool->Option Sd)(lv:Value)(vals:List Value)(w:World):Prop where
 bJ:Loc w B #[uF (o false),uF (o true),ul (o false),ul (o true),lv] 33
 row:w.ownsRow 0 34 1 lv vals.length vals
 four:vals.length % 4=0
 Sc:TU vals w
 ok:∀i d,o i=some d->mP Z d w
 ap:∀i d e,o i=some d->o (!i)=some e->AP d e
 low:Z<=B
 Tb:∀b,lv.ownBlock=some b->Z<=b
theorem LI.later{Z B:Nat}{o:Bool->Option Sd}{c:Value}{a:List Value}(h:LI Z B o c a W)(b:Below W.heap.size W w):LI Z B o c a w:=
 ⟨h.bJ.grown (ag b none) (by simp),h.row.kept (ag b none) (by cases c.ownBlock<;>simp),h.four,fun i hi=>by
  obtain⟨n,h1,f⟩:=h.Sc i hi;exact⟨n,h1,f.kept (ag b none) (by cases (Value.ownBlock _)<;>simp)⟩,fun i d hd=>(h.ok i d hd).later b,h.ap,h.low,h.Tb⟩
theorem Kept.under(hk:Kept D W w)(a:∀b,D b->Z<=b)(c:Z<=W.heap.size):Below Z W w:=⟨hk.os,hk.tape,hk.output,hk.size,fun b hb=>hk.block b (vH hb c) (fun e=>by have:=a b e;omega)⟩
theorem LI.I5{o:Bool->Option Sd}(h:LI Z B o lv vals W):Z<=W.heap.size:=r8 h.low (Nat.le_of_lt h.bJ.lt)
def sx:Bool->Nat
 | false=>0
 | true=>1
theorem LI.cells{o:Bool->Option Sd}(h:LI Z B o lv vals W):W.cell? ⟨B,0,none⟩=some (uF (o false))/\W.cell? ⟨B,1,none⟩=some (uF (o true))/\W.cell? ⟨B,2,none⟩=some (ul (o false))/\W.cell? ⟨B,3,none⟩=some (ul (o true)):=⟨(h.bJ.cell 0).trans rfl,(h.bJ.cell 1).trans rfl,(h.bJ.cell 2).trans rfl,(h.bJ.cell 3).trans rfl⟩
theorem LI.TN{o:Bool->Option Sd}(h:LI Z B o lv vals W)(i:Bool):W.cell? ⟨B,sx i,none⟩=some (uF (o i))/\W.cell? ⟨B,2+sx i,none⟩=some (ul (o i)):=by
 have a:=h.cells;cases i
 ·exact⟨a.1,a.2.2.1⟩
 ·exact⟨a.2.1,a.2.2.2⟩
end
section
open Go.RowKit Go.Maps
variable {W w W1 W2:World} {Z B:Nat} {o:Bool->Option Sd} {lv:Value} {vals:List Value} {i:Bool} {d:Sd}
theorem Gr{a b:aH}(h:eR a=eR b):a.num=b.num/\a.ai=b.ai/\a.bf=b.bf:=by
 unfold eR at h;injection h with h1 c _ d
 exact⟨h1,c,d⟩
theorem yE:∀{l:List mz} {m a:List aH},jP qE l m->a.map eR=m.map eR->jP qE l a
 | [],[],[],_,_=>trivial
 | _,[],_::_,_,h=>by simp at h
 | _,_::_,[],_,h=>by simp at h
 | [],_::_,_,h,_=>h.elim
 | _::_,[],_,h,_=>h.elim
 | _::_,_::_,_::_,h,e=>by
  rw[xd,xd] at e;injection e with h1 h2
  obtain⟨e1,e2,e3⟩:=Gr h1;exact jP.cons ⟨h.1.num.trans e1.symm,h.1.ai.trans e2.symm,fun k=>by rw[e3];exact h.1.bf k⟩ (yE h.2 h2)
theorem FK{m a:List aH}(h:a.map eR=m.map eR):a.map (·.num)=m.map (·.num):=by
 have:=congrArg (List.map (fun x:aH=>x.num)) h;rw[F6,F6] at this;exact this
theorem ml.eR{c:List eT}{d:List NM}{last:Int}{pol:List db}{g:wO}{a:List aH}(h:ml c d last pol g)(e:a.map Go.Proofs.YtbfmmmjkjhjleaaGreatDoor.eR=g.ns.map Go.Proofs.YtbfmmmjkjhjleaaGreatDoor.eR):ml c d g.last pol ⟨a,[],g.last⟩:=by
 have b:=FK e;have f:a.length=g.ns.length:=by have:=congrArg List.length e;simpa using this
 refine⟨h.pol,yE h.nodes e,rfl,rfl,?_,h.n40,?_,fun x hx=>?_,h.ok,h.rY,h.AQ⟩
 ·rw[h.Sg];show _=(a.length:Int);rw[f]
 ·have h1:=List.pairwise_map.2 h.RQ;rw[<-b] at h1;exact List.pairwise_map.1 h1
 ·have h1:x.num∈g.ns.map (·.num):=by rw[<-b];exact List.mem_map_of_mem hx
  obtain⟨y,i,e⟩:=List.mem_map.1 h1;have:=h.low y i;rw[e] at this;exact this
theorem ml.size{b:List eT}{last:Int}{pol:List db}{ns:List aH}(h:ml b zf last pol ⟨ns,[],last⟩):ns.length<=40/\last=(ns.length:Int):=by
 have h1:=h.len;have c:=h.n40;have a:=h.Sg;simp only at h1 a;exact⟨by omega,a⟩
theorem ml.each{g:List eT}{last:Int}{pol:List db}{ns:List aH}(h:ml g zf last pol ⟨ns,[],last⟩){x:aH}(d:x∈ns):∃y∈zf,qE y.er x:=by
 obtain⟨a,b,c⟩:=h.nodes.mem d;obtain⟨y,f,rfl⟩:=List.mem_map.1 b;exact⟨y,f,c⟩
theorem ml.TW{d:List eT}{last:Int}{pol:List db}{ns:List aH}(h:ml d zf last pol ⟨ns,[],last⟩):Rc ⟨ns,[],last⟩:=by
 obtain⟨h1,f⟩:=h.size;refine⟨h1,by simp,fun x hx=>?_,fun x hx=>(by cases hx),fun x hx=>?_,fun x hx=>(by cases hx),?_⟩
 ·obtain⟨y,c,b⟩:=h.each hx;have:=(h.ok y c).1.2.1;have e:y.er.ai=y.ai:=rfl;rw[<-b.ai,e];unfold maxLen;omega
 ·obtain⟨g,a⟩:=h.low x hx;simp only at a;exact DQ ⟨by omega,by omega⟩
 ·simp only;omega
theorem ml.T0{f:List eT}{last:Int}{pol:List db}{ns:List aH}(h:ml f zf last pol ⟨ns,[],last⟩):TL ns []:=by
 obtain⟨h1,g⟩:=h.size;refine⟨fun x hx=>?_,fun x hx=>?_,fun x hx s hs=>?_,fun x hx=>(by cases hx),fun x hx=>(by cases hx),by omega,by simp⟩
 ·obtain⟨i,d⟩:=h.low x hx;simp only at d;unfold nY;omega
 ·obtain⟨y,b,a⟩:=h.each hx;rw[<-a.ai];exact(h.ok y b).1.2.1
 ·obtain⟨y,b,a⟩:=h.each hx;obtain⟨v,c⟩:=Option.isSome_iff_exists.1 hs;rw[<-a.bf s] at c;obtain⟨p,hp,rfl,_⟩:=ph c;exact((h.ok y b).1.2.2.2 p hp).1
theorem ml.TH{d:List eT}{last:Int}{pol:List db}{ns:List aH}{L:List ByteArray}(h:ml d zf last pol ⟨ns,[],last⟩)(b:Mf ns [] L):L=(zf.map NM.er).map kU:=by
 refine Od h.nodes (fun x hx=>?_) b;obtain⟨y,c,rfl⟩:=List.mem_map.1 hx;obtain⟨h1,_,a⟩:=h.ok y c;exact⟨a,fun p hp=>by have:=(h1.2.2.2 p hp).1;unfold maxLen;omega⟩
theorem LI.TS(h:LI Z B o lv vals W)(hi:o i=some d){R:(List ByteArray × Int) × wO}{u:List aH}{x:Array Value}{v D:Value}{s:List NM}{r:Int}(Q:u.map eR=R.2.ns.map eR)(I:VG Z d.G d.pol x v d.ve u R.2.es R.2.last 6 W1)(k:Kept (IH d) W W1)(L:wI W d.vn v)(U:RG d.gb d.rv d.rl D s r W2)(C:ml d.rl s r d.pol R.2)(q:Kept (BH d.gb d.nv) W1 W2)(H:∀b,D.ownBlock=some b->d.nv.ownBlock=some b\/W1.heap.size<=b):∃o',LI Z B o' lv vals W2/\uF (o' false)=uF (o false)/\uF (o' true)=uF (o true)/\ul (o' false)=ul (o false)/\ul (o' true)=ul (o true):=by
 have z:=h.ok i d hi;have l:=NB z;have w:=z.rg.stay l k (l.no (gB z.rg.bJ) (by decide)) (fun b c=>l.no (il z.rg.nodes.row c) (by decide)) (by decide) (by decide) (by decide);have m:=Ly w;have K:=C.es;have O:=C.last;rw[K] at I;subst O;have S:VG Z d.G d.pol x v d.ve u [] R.2.last 6 W2:=I.stay m q (m.no (gB I.own.bJ) (by decide)) (fun b c=>m.no (il I.own.on c) (by decide)) (by decide) (by decide);obtain⟨t,A⟩:∃t:Sd,t=⟨d.G,d.gb,d.pol,x,v,d.ve,u,R.2.last,d.rv,D,d.rl,s⟩:=⟨_,rfl⟩;have J:mP Z t W2:=by
  rw[A];refine⟨S,U,C.eR Q,fun b c=>?_⟩;rcases c with c|c
  ·exact z.low b (ad c)
  ·rcases H b c with h1|h1
   ·exact z.low b (a6 h1)
   ·exact r8 (r8 h.I5 k.size) h1
 have a:∀e,o (!i)=some e->mP Z e W2/\AP t e:=fun e he=>by
  have y:=h.ap i d e hi he;have T:=h.ok (!i) e he;have h1:=T.T1 z y k;refine⟨h1.TZ w y.gb y.nv q,?_⟩;rw[A];refine⟨y.G,y.gb,fun b c eb=>?_,fun b c eb=>?_⟩
  ·rcases L b c with F|F
   ·exact y.vn b F eb
   ·have:=(T.vg.own.on.lt b eb).2;omega
  ·rcases H b c with F|F
   ·exact y.nv b F eb
   ·have:=(h1.rg.nodes.row.lt b eb).2;omega
 have V:uF (some t)=uF (o i)/\ul (some t)=ul (o i):=by rw[hi,A];exact⟨rfl,rfl⟩
 have f:∀j,uF (if j=i then some t else o j)=uF (o j)/\ul (if j=i then some t else o j)=ul (o j):=fun j=>by
  by_cases p:j=i
  ·rw[a8 p,p];exact V
  ·rw[bk p];exact⟨rfl,rfl⟩
 refine⟨fun j=>if j=i then some t else o j,⟨?_,?_,h.four,fun j p=>?_,fun j e he=>?_,fun j e e2 he g=>?_,h.low,h.Tb⟩,(f _).1,(f _).1,(f _).2,(f _).2⟩
 ·simp only[(f _).1,(f _).2];exact m.loc q (l.loc k h.bJ (by decide)) (by decide)
 ·exact m.row q (l.row k h.row (by decide)) (by decide)
 ·obtain⟨n,h1,E⟩:=h.Sc j p;exact⟨n,h1,m.row q (l.row k E (by decide)) (by decide)⟩
 ·by_cases p:j=i
  ·simp only[a8 p] at he;injection he with he
   rw[<-he];exact J
  ·simp only[bk p] at he;have:j=!i:=by cases j<;>cases i<;>simp_all
   rw[this] at he;exact(a e he).1
 ·by_cases p:j=i
  ·subst p;simp only[if_true] at he;have P:¬(!j)=j:=by cases j<;>simp
   simp only[bk P] at g;injection he with he
   rw[<-he];exact(a e2 g).2
  ·have N:(!j)=i:=by cases j<;>cases i<;>simp_all
   have M:j=!i:=by cases j<;>cases i<;>simp_all
   simp only[bk p] at he;simp only[a8 N] at g;injection g with g
   rw[M] at he;have:=(a e he).2;rw[<-g];exact⟨this.G.symm,this.gb.symm,fun b h1 E=>this.vn b E h1,fun b h1 E=>this.nv b E h1⟩
theorem LI.kept{a t:Value}{c:List Value}(h:LI Z B o lv vals W)(i:cs=#[uF (o false),uF (o true),ul (o false),ul (o true),lv])(y:W.ownsRow 0 9 1 v l.length (strs l))(A:l.length<=900000)(x:∀(j:Nat) (q:j<vals.length) b,vals[j].ownBlock=some b->v.ownBlock≠some b)(hu:c.length=4)(hk:PR B cs vals l.length (uA vals.length) a c t w)(d:Kept (EL B lv v) W w)(p:∀b,a.ownBlock=some b->lv.ownBlock=some b\/W.heap.size<=b):LI Z B o a (vals++c) w:=by
 have hw:=SM h.bJ h.row y;refine⟨?_,?_,?_,fun j q=>?_,fun j e he=>(h.ok j e he).TG hw d,h.ap,h.low,fun b hb=>(p b hb).elim (h.Tb b) (r8 h.I5)⟩
 ·have:=hk.bJ;rw[i] at this;exact this
 ·rw[r7];exact hk.row
 ·have:=h.four;rw[r7];omega
 ·rw[r7] at q;have z:=h.four;rcases ua j vals.length with h1|h1
  ·rw[F5 h1];obtain⟨n,u,f⟩:=h.Sc j h1;refine⟨n,u,oh f fun g hg=>d.block g (f.lt g hg).2 ?_⟩;rintro (e|e|e)
   ·subst e;exact aR f h.bJ (by decide) hg
   ·exact sP f h.row (by decide) hg e
   ·exact x j h1 g hg e
  ·obtain⟨k,rfl⟩:∃k,j=vals.length+k:=⟨j - vals.length,by omega⟩;have m:k<c.length:=by omega
   have r:(vals++c)[vals.length+k]'(by simp;omega)=c[k]:=by
    rw[GX (by omega)]
    congr 1
    omega
   have s:(vals.length+k) / 4*4=vals.length:=by omega
   rw[r,s];exact⟨l.length+k,by omega,hk.old k m⟩
theorem LI.put{a:Option Sd}(h:LI Z B o lv vals W)(hi:o i=none)(p:∀d,a=some d->mP Z d W/\∀e,o (!i)=some e->AP d e):∃o',LI Z B o' lv vals ((W.setCell ⟨B,sx i,none⟩ (uF a)).setCell ⟨B,2+sx i,none⟩ (ul a))/\o' (!i)=o (!i):=by
 have hw:I3 [33,34,9] (fun b=>b=B) W:=fun b c=>by
  subst c;exact⟨_,zi,gB h.bJ⟩
 have s:=h.bJ.set (sx i) (uF a);have l:=s.set (2+sx i) (ul a);have hk:Kept (fun b=>b=B) W ((W.setCell ⟨B,sx i,none⟩ (uF a)).setCell ⟨B,2+sx i,none⟩ (ul a)):=((Kept.refl (fun b=>b=B) W).then (aE W B _ _) (fun b c=>ad (by injection c with c;exact c.symm))).then (aE _ B _ _) (fun b c=>ad (by injection c with c;exact c.symm))
 generalize (W.setCell ⟨B,sx i,none⟩ (uF a)).setCell ⟨B,2+sx i,none⟩ (ul a)=t at l hk⊢;have m:¬(!i)=i:=by cases i<;>simp
 refine⟨fun j=>if j=i then a else o j,⟨?_,hk.row h.row fun g hg e=>aR h.row h.bJ (by decide) (e▸hg),h.four,fun j f=>?_,fun j e he=>?_,fun j e e2 he he2=>?_,h.low,h.Tb⟩,by simp only[bk m]⟩
 ·cases i<;>exact l
 ·obtain⟨n,h1,k⟩:=h.Sc j f;exact⟨n,h1,hk.row k fun g hg e=>aR k h.bJ (by decide) (e▸hg)⟩
 ·by_cases f:j=i
  ·simp only[a8 f] at he;exact((p e he).1).TG hw hk
  ·simp only[bk f] at he;exact(h.ok j e he).TG hw hk
 ·by_cases f:j=i
  ·subst f;simp only[if_true] at he;simp only[bk m] at he2;exact(p e he).2 e2 he2
  ·have r:(!j)=i:=by cases j<;>cases i<;>simp_all
   have q:j=!i:=by cases j<;>cases i<;>simp_all
   simp only[bk f] at he;simp only[a8 r] at he2;rw[q] at he;have:=(p e2 he2).2 e he;exact⟨this.G.symm,this.gb.symm,fun b h1 k=>this.vn b k h1,fun b h1 k=>this.nv b k h1⟩
theorem NG{l:List kj}{r:dX}(h:∀x∈l,x.2.length<=n):∀x∈Ke l r,x.2.length<=n+1:=by
 unfold Ke;split
 ·rename_i y b;intro x a;rcases List.mem_append.1 a with a|a
  ·have:=h x (List.dropLast_subset l a);omega
  ·rw[List.mem_singleton.1 a];have:=h y (List.mem_of_getLast? b);simp only[r7,x6];omega
 ·intro x a;cases a
theorem KU{l b:List kj}(h:∀x∈l,x.2.length<=n)(he:lT l s=some b):∀x∈b,x.2.length<=n+1:=by
 unfold lT at he;split at he
 ·split at he
  ·injection he with he
   subst he;intro x a;rcases List.mem_append.1 a with a|a
   ·have:=h x a;omega
   ·rw[List.mem_singleton.1 a];simp
  ·cases he
 ·split at he
  ·injection he with he
   subst he;exact NG h
  ·cases he
theorem Bp:∀(xs:List ByteArray) {l a:List kj} {n:Nat},(∀x∈l,x.2.length<=n)->xs.foldlM lT l=some a->∀x∈a,x.2.length<=n+xs.length
 | [],l,a,n,h,he=>by
  rw[List.foldlM_nil] at he;injection he with he
  subst he;exact h
 | s::xs,l,a,n,h,he=>by
  rw[List.foldlM_cons] at he;cases h1:lT l s with
  | none=>rw[h1] at he;cases he
  | some l1=>
   rw[h1] at he;have:=Bp xs (KU h h1) he;intro x b;have:=this x b;rw[vw];omega
theorem NS{l:List kj}(h:oD s=some l):∀x∈l,x.2.length<=1000000:=by
 unfold oD at h;split at h
 ·rename_i c;intro x a;have h1:=Bp _ (n:=0) (fun x a=>by cases a) h x a;have b:=o7 s s.size 0 0;omega
 ·cases h
theorem NZ{Z G:Nat}{p:wF}{l:List db}{vp:Value}{g:List eT}(r:Z<=G)(j:gN s=some p)(i:l.map er=p)(f:Loc W G #[vp,.slice none 0 0,.slice none 0 0,.int .i64 0,.slice none 0 0,.slice none 0 0] 67)(hp:sA vp l m W)(k:oD s=some (g.map zE))(o:kH n gb v g W)(h:Z<=n):mP Z ⟨G,gb,l,#[vp,.slice none 0 0,.slice none 0 0,.int .i64 0,.slice none 0 0,.slice none 0 0],.slice none 0 0,.slice none 0 0,[],0,v,.slice none 0 0,g,[]⟩ W:=by
 have hrel:lA (g.map zE) (l.map er):=by
  rcases Ij s with ⟨h1,_⟩|⟨a,b,h1,c,q⟩
  ·rw[k] at h1;cases h1
  ·rw[k] at h1;rw[j] at c;injection h1 with h1
   injection c with c
   rw[h1,i,c];exact q
 refine⟨Ln r f hp,o.rg,⟨hrel,trivial,rfl,rfl,rfl,by simp,List.Pairwise.nil,fun x hx=>(by cases hx),fun x hx=>(by cases hx),?_,fun x hx=>?_⟩,fun b d=>?_⟩
 ·have h1:=hrel.1;have c:=hp.rY;simp only[tB] at h1;simp only;omega
 ·have:=NS k (zE x) (List.mem_map_of_mem hx);exact this
 ·rcases d with d|d
  ·rw[d];exact r8 h o.low
  ·cases d
end
end Go.Proofs.YtbfmmmjkjhjleaaGreatDoor
