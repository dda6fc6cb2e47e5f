/- Mine. -/
import Derived.Test.YtbfmmmjkjhjleaaGreatDoorC25
import Derived.Test.YtbfmmmjkjhjleaaGreatDoorC24
import Derived.Test.YtbfmmmjkjhjleaaGreatDoorC22
import Derived.Shelf.SlSortCmp.NoneTotal
set_option maxRecDepth 100000
set_option maxHeartbeats 0
namespace Go.Proofs.YtbfmmmjkjhjleaaGreatDoor
open Go.Proofs.Tryz
variable {α:Type} {b n:Nat}
section
open Go.RowKit Go.Maps
theorem LQ(x:gh)(p n:Int):(AJ x p n).at_=n:=by
 unfold AJ;split
 ·rfl
 ·split
  ·rfl
  ·split<;>rfl
theorem GN(x:gh)(kind:ByteArray)(P:Int->Prop):∀(es:List bK) (p:Nat) (left:Int),(∀e∈es,P e.dst)->∀y∈(qe x kind p es left).1,P y.at_
 | [],p,left,_,y,hy=>by simp[qe] at hy
 | e::r,p,left,h,y,hy=>by
  unfold qe at hy;split at hy
  ·split at hy
   ·rcases List.mem_cons.1 hy with rfl|hy
    ·rw[LQ];exact h e zi
    ·exact GN x kind P r (p+1) (left - 1) (fun e he=>h e (D2 _ he)) y hy
   ·cases hy
  ·exact GN x kind P r (p+1) left (fun e he=>h e (D2 _ he)) y hy
theorem Mm(x:gh)(kind:ByteArray)(es:List bK)(p:Nat)(left:Int)(h:0<=left):-1<=(qe x kind p es left).2/\(qe x kind p es left).2<=left:=by
 rcases wL x kind es p left h with ⟨a,b⟩|⟨a,b⟩<;>omega
theorem yZ(es:List bK)(kind:ByteArray)(least d:Int)(P:Int->Prop)(b:∀e∈es,P e.dst):∀(n:Nat) (ws:List gh) (left:Int),(∀y∈ws,P y.at_)->∀a∈(fG es kind least d n ws left).1,P a
 | 0,_,left,_,a,ha=>by simp[fG] at ha
 | _+1,[],left,_,a,ha=>by simp[fG] at ha
 | n+1,x::r,left,h,a,ha=>by
  have hx:=h x zi;have f:=fun y c=>h y (D2 _ c);have one:∀a,a∈(if least<=(x.gI:Int) then [x.at_] else [])->P a:=by
   intro a ha;split at ha
   ·simp only[vA] at ha;rw[ha];exact hx
   ·cases ha
  unfold fG at ha;split at ha
  ·cases ha
  ·split at ha
   ·rcases List.mem_append.1 ha with ha|ha
    ·exact one a ha
    ·refine yZ es kind least d P b n _ _ (fun y c=>?_) a ha;rcases List.mem_append.1 c with c|c
     ·exact f y c
     ·exact GN x kind P es 0 left b y c
   ·rcases List.mem_append.1 ha with ha|ha
    ·exact one a ha
    ·exact yZ es kind least d P b n _ _ f a ha
theorem td(es:List bK)(kind:ByteArray)(least a:Int):∀(n:Nat) (ws:List gh) (left:Int),-1<=left->-1<=(fG es kind least a n ws left).2/\(fG es kind least a n ws left).2<=left
 | 0,_,left,h=>by simp only[fG];omega
 | _+1,[],left,h=>by simp only[fG];omega
 | n+1,x::r,left,h=>by
  unfold fG;split
  ·simp only;omega
  ·split
   ·have h1:=Mm x kind es 0 left (by omega);have b:=td es kind least a n (r++(qe x kind 0 es left).1) (qe x kind 0 es left).2 h1.1;exact⟨b.1,Int.le_trans b.2 h1.2⟩
   ·exact td es kind least a n r left h
theorem uK(es:List bK)(kind:ByteArray)(least a:Int):∀(n:Nat) (ws:List gh) (left:Int),(fG es kind least a n ws left).1.length<=n
 | 0,_,left=>by simp[fG]
 | _+1,[],left=>by simp[fG]
 | n+1,x::r,left=>by
  have one:(if least<=(x.gI:Int) then [x.at_] else []).length<=1:=by split<;>simp
  unfold fG;split
  ·simp
  ·split
   ·have b:=uK es kind least a n (r++(qe x kind 0 es left).1) (qe x kind 0 es left).2;simp only[r7];omega
   ·have b:=uK es kind least a n r left;simp only[r7];omega
structure Sf(ns:List aH)(es:List bK)(l:List aK)(cl:List bW):Prop where
 Se:l.length<=6
 LA:∀s∈l,rk s
 first:∀s,l[0]?=some s->s.type.toList.isEmpty=true
 aq:cl.length<=1000
 Tz:∀c∈cl,BY c
 rY:ns.length<=1000
 T4:∀x∈ns,(Lit.int .i64 x.num).wf=true
 TX:∀e∈es,(Lit.int .i64 e.dst).wf=true
 none:es=[]
theorem vW(ns:List aH)(es:List bK)(s:aK)(p left:Int)(h:0<=left):-1<=(fT ns es s p left).2/\(fT ns es s p left).2<=left:=by
 unfold fT;split
 ·simp only;omega
 ·exact td _ _ _ _ _ _ _ (by omega)
theorem G8(ns:List aH)(es:List bK)(s:aK)(p left:Int)(h:ns.length<=1000)(a:left<=5000):(fT ns es s p left).1.length<=10000:=by
 unfold fT;split
 ·simp only[tB];omega
 ·have:=uK es s.type s.least s.bq (left.toNat+2) [⟨0,0,0,0,0,p⟩] left;omega
theorem KJ{ns:List aH}{es:List bK}{s:aK}{p left:Int}(c:∀x∈ns,(Lit.int .i64 x.num).wf=true)(he:∀e∈es,(Lit.int .i64 e.dst).wf=true)(hp:s.type.toList.isEmpty=false->(Lit.int .i64 p).wf=true):∀a∈(fT ns es s p left).1,(Lit.int .i64 a).wf=true:=by
 unfold fT;split
 ·intro a b;obtain⟨x,d,rfl⟩:=List.mem_map.1 b;exact c x d
 ·refine yZ es _ _ _ (fun a=>(Lit.int .i64 a).wf=true) he _ _ _ (fun y hy=>?_);simp only[vA] at hy;subst hy;exact hp (by rename_i h;simpa using h)
theorem zn{rec:mO->mO}{skip:Int->Bool}{name:ByteArray}{L:Int}(g:1<=L)(d:∀st,0<=st.left->-L<=(rec st).left/\(rec st).left<=st.left/\((rec st).rows.length:Int)+(rec st).left<=st.rows.length+st.left+1):∀(xs:List Int) (st:mO),-L<=st.left->
  -(L+1)<=(fK rec skip name xs st).1.left/\(fK rec skip name xs st).1.left<=st.left/\((fK rec skip name xs st).1.rows.length:Int)+(fK rec skip name xs st).1.left<=st.rows.length+st.left
 | [],st,h=>by simp only[fK];omega
 | e::r,st,h=>by
  unfold fK;split
  ·exact zn g d r st h
  ·split
   ·rename_i h1;obtain⟨a,b,c⟩:=d ⟨st.left - 1,fI st.f name (some e),st.rows⟩ h1;simp only at b c;obtain⟨a2,i,c2⟩:=zn g d r (rec ⟨st.left - 1,fI st.f name (some e),st.rows⟩) a;refine⟨a2,by omega,by omega⟩
   ·simp only;omega
theorem nB(ns:List aH)(es:List bK)(cl:List bW):∀(r:List aK) (prev:ByteArray) (st:mO),0<=st.left->
  -(1+(r.length:Int))<=(bZ ns es cl r prev st).left/\(bZ ns es cl r prev st).left<=st.left/\((bZ ns es cl r prev st).rows.length:Int)+(bZ ns es cl r prev st).left<=st.rows.length+st.left+1
 | [],prev,st,h=>by
  unfold bZ;split
  ·simp only[yd,r7,vw];omega
  ·simp only[yd];omega
 | s::r,prev,st,h=>by
  have he:=vW ns es s ((st.f prev).getD 0) st.left h;obtain⟨a,b,c⟩:=zn (rec:=fun t=>bZ ns es cl r s.name t) (skip:=mw ns s (st.f s.name)) (name:=s.name) (L:=1+(r.length:Int)) (by omega) (fun t ht=>nB ns es cl r s.name t ht) (fT ns es s ((st.f prev).getD 0) st.left).1 ⟨(fT ns es s ((st.f prev).getD 0) st.left).2,st.f,st.rows⟩ (by simp only;omega);simp only at a b c;simp only[bZ,vw];split
  ·refine⟨by omega,by omega,by omega⟩
  ·split
   ·refine⟨by omega,by omega,by omega⟩
   ·refine⟨by simp only;omega,by simp only;omega,by simp only;omega⟩
variable {fix:Nat->Option Value} {left:Int} {use:Value} {B T F:Nat} {ev:Nat->Value} {wv:Value} {own:Nat->Prop} {f:Row} {mb:Nat} {en:Nat->List Int} {ws:List gh} {W w:World}
variable {UInv:(Nat->Prop)->List Row->World->Prop} {Fx ub:Nat->Prop} {rows:List Row} {W0:World} {u:FuncId} {caps:Array Value}
theorem cK.wf{b n:Nat}(h:cK W b n f){s:ByteArray}(d:s.size<=maxLen):(Lit.int .i64 ((f s).getD 0)).wf=true:=by
 obtain⟨D,i,g⟩:=h;obtain⟨c,_,a,hw⟩:=i.lookup_int rX underlying136 underlying3 (pj W) (uH d);have e:=a.symm.trans (g s d).2;obtain rfl:c=(f s).getD 0:=by {injection e with e;injection e}
 exact hw
theorem cK.SD(h:cK W b n f){s:ByteArray}(d:s.size<=maxLen):
  (Instr.lookup 136 (.map (some b)) (.string s) true).run prog W=.ok (.tuple #[.int .i64 ((f s).getD 0),.bool (f s).isSome]) W:=by
 obtain⟨D,j,g⟩:=h;obtain⟨v,l,a,k⟩:=j.look_ok rX underlying136 (pj W) (plainElem_int underlying3 (by decide)) (uH d);obtain⟨c,rfl,i,_⟩:=plainElem_int_inv underlying3 k;simp only[Prod.mk.injEq] at i;have e:=i.1.symm.trans (g s d).2;obtain rfl:c=(f s).getD 0:=by {injection e with e;injection e}
 rw[<-(g s d).1];exact a
theorem km.Qw(h:km own F B T fix left use f mb ev en wv ws W){i:Nat}(hi:i<6){c:Option Addr}{d:Nat}(m:ev i=.slice c n d):km own F B T fix left use f mb (sZ ev i (.slice c 0 d)) (tO en i []) wv ws (W.setCell ⟨F,21+i,none⟩ (.slice c 0 d)):=by
 have l:(Value.slice c 0 d).ownBlock=(ev i).ownBlock:=by rw[m];cases c<;>rfl
 have a:∀j,(sZ ev i (.slice c 0 d) j).ownBlock=(ev j).ownBlock:=by
  intro j;unfold sZ;split
  ·rename_i e;subst e;exact l
  ·rfl
 have o:n=(en i).length:=by
  obtain⟨a2,c2,g⟩:=aV (h.re i hi);rw[m] at g;injection g
 refine h.set (fun cs hc=>hc.Mj hi _) (fun j hj=>?_) h.rw (fun j hj k hk hne=>?_) ⟨fun j hj b hb=>?_,h.gC.2.2.2.2⟩
 ·unfold sZ tO;by_cases e:j=i
  ·subst e;rw[a8 rfl,a8 rfl];have g:=h.re j hj;rw[m] at g;subst o;exact yh g
  ·rw[bk e,bk e];exact h.re j hj
 ·rw[a,a];exact h.apart j hj k hk hne
 ·rw[a] at hb;exact h.gC.2.2.2.1 j hj b hb
theorem km.bind{c:Row}{a:Nat}(h:km own F B T fix left use f mb ev en wv ws W)(b:W.grownBy w (some B))(hp:cK w B a c):km own F B T fix left use c a ev en wv ws w:=by
 obtain⟨cs,d,g⟩:=h.cell;obtain⟨l,S,k,j⟩:=h.taken;exact⟨⟨cs,d.grown b (by intro e;injection e with e;exact h.iF.cJ d e.symm),g⟩,hp,⟨l,S,k.kept b (by intro e;injection e with e;exact h.bt e.symm),j⟩,fun i hi=>(h.re i hi).kept b (a6 (Ne.symm (h.iF.j6 (h.re i hi)))),h.rw.kept b (a6 (Ne.symm (h.iF.j6 h.rw))),h.apart,h.gC,h.bt⟩
structure Md(UInv:(Nat->Prop)->List Row->World->Prop)(Fx:Nat->Prop)(W0:World)(B:Nat)(u:FuncId)(caps:Array Value)(fix:Nat->Option Value)(gb go m:Nat)(ns:List aH)(es:List bK)(sa:Option Addr)(cs:Nat)(l:List aK)(ca:Option Addr)(cc:Nat)(cl:List bW):Prop where
 g:fix 0=some (.pointer (some ⟨gb,go,none⟩))
 q:fix 2=some (.slice sa l.length cs)
 c:fix 3=some (.slice ca cl.length cc)
 st:nQ (fun k=>¬Fx k) gb go ns es m W0
 ss:rK (fun k=>¬Fx k) sa cs l W0
 sc:∀w,Kept (fun k=>¬Fx k) W0 w->dj w 7 (.slice ca cl.length cc) cl.length (cl.flatMap pX)
 use:Kn UInv Fx W0 B u caps
variable {gb go m cs cc:Nat} {ns:List aH} {es:List bK} {sa ca:Option Addr} {l:List aK} {cl:List bW}
theorem Md.on{Fx':Nat->Prop}{a:World}(h:Md UInv Fx W0 B u caps fix gb go m ns es sa cs l ca cc cl)(d:∀k,Fx k->Fx' k)(hk:Kept (fun k=>¬Fx k) W0 a):Md UInv Fx' a B u caps fix gb go m ns es sa cs l ca cc cl:=by
 have wid:∀w,Kept (fun k=>¬Fx' k) a w->Kept (fun k=>¬Fx k) W0 w:=fun w h'=>hk.trans (h'.pT (fun b hb e=>hb (d b e)));exact⟨h.g,h.q,h.c,(h.st.on hk).narrow (fun b hb e=>hb (d b e)),fun w h'=>h.ss w (wid w h'),fun w h'=>h.sc w (wid w h'),fun W ub rows f mb h1 h2 h3 h4 h5=>h.use W ub rows f mb h1 h2 h3 (wid W h4) h5⟩
theorem jT.fixed(b:vT UInv)(h:jT UInv Fx W0 F B T fix use left f mb ev en wv ws ub rows W)(o:Obj):jT UInv (fun k=>Fx k\/k=W.heap.size) (W.alloc o) F B T fix use left f mb ev en wv ws ub rows (W.alloc o):=by
 have h1:=h.below b ((r5 W.heap.size W).alloc (rm _) o);have a:W.heap.size<(W.alloc o).heap.size:=by rw[z6];omega
 refine⟨h1.fa,fun k hk=>?_,h1.Qa,h1.ui,Kept.refl _ _⟩;rcases hk with hk|rfl
 ·exact h1.fx k hk
 ·exact⟨a,fun e=>Nat.lt_irrefl _ (h.fa.low e),fun e=>Nat.lt_irrefl _ (b.low _ _ _ h.ui _ e)⟩
theorem jT.M3{a:World}{Fx':Nat->Prop}(h:jT UInv Fx' a F B T fix use left f mb ev en wv ws ub rows W)(c:∀k,Fx k->Fx' k)(hk:Kept (fun k=>¬Fx k) W0 a):jT UInv Fx W0 F B T fix use left f mb ev en wv ws ub rows W:=
 ⟨h.fa,fun k hk=>h.fx k (c k hk),h.Qa,h.ui,hk.trans (h.kept.pT (fun b hb e=>hb (c b e)))⟩
theorem jT.loc{c:Array Value}{t:TypeId}(h:jT UInv Fx W0 F B T fix use left f mb ev en wv ws ub rows W)(d:Fx b)(a:Loc W0 b c t):Loc W b c t:=(h.kept.block b a.lt (fun e=>e d)).trans a
end
section
open Go.RowKit Go.Maps Go.Sort
variable {fix:Nat->Option Value} {B T F:Nat} {UInv:(Nat->Prop)->List Row->World->Prop} {u:FuncId} {caps:Array Value} {gb go m cs cc:Nat} {ns:List aH} {es:List bK} {sa ca:Option Addr} {l:List aK} {cl:List bW}
def Ry(UInv:(Nat->Prop)->List Row->World->Prop)(Fx:Nat->Prop)(W0:World)(F B T:Nat)(fix:Nat->Option Value)(use:Value)(mb:Nat)(left:Int)(ev:Nat->Value)(en:Nat->List Int)(i:Nat)(st:mO)(W:World):Prop:=
 ∃ev' en' wv' ws' mb' ub',jT UInv Fx W0 F B T fix use st.left st.f mb' ev' en' wv' ws' ub' st.rows W/\(∀j,j<i->en' j=en j/\ev' j=ev j)/\(mb':Int)+st.left<=mb+left
def CI(UInv:(Nat->Prop)->List Row->World->Prop)(F B T:Nat)(fix:Nat->Option Value)(u:FuncId)(caps:Array Value)(gb go m:Nat)(ns:List aH)(es:List bK)(sa:Option Addr)(cs:Nat)(l:List aK)(ca:Option Addr)(cc:Nat)(cl:List bW)(r:List aK):Prop:=
 ∀(i:Nat) (prev:ByteArray) (Fx:Nat->Prop) (W0:World) (left:Int) (f:Row) (mb:Nat) (ev:Nat->Value) (en:Nat->List Int) (wv:Value) (ws:List gh) (ub:Nat->Prop) (rows:List Row) (W:World),
  Md UInv Fx W0 B u caps fix gb go m ns es sa cs l ca cc cl->l.drop i=r->i<=l.length->(∀p,0<i->l[i - 1]?=some p->p.name=prev)->jT UInv Fx W0 F B T fix (.func (.func u) #[] caps) left f mb ev en wv ws ub rows W->
  0<=left->left<=5000->(mb:Int)+left<=900000->(rows.length:Int)+left<=900000->
  Calls prog 127 #[.pointer (some ⟨F,0,none⟩),.int .i64 (i:Int)] W fun e W'=>e=.returned (.tuple #[])/\Ry UInv Fx W0 F B T fix (.func (.func u) #[] caps) mb left ev en i (bZ ns es cl r prev ⟨left,f,rows⟩) W'
theorem FL(r:vT UInv)(ok:Sf ns es l cl)(k:∀args w,(callFunc u args).run prog w=.ok (.enter u args) w):CI UInv F B T fix u caps gb go m ns es sa cs l ca cc cl []:=by
 intro i prev I W0 left f G ev C H ws K rows W a t hi b h D E n d;obtain rfl:i=l.length:=by
  have:=congrArg List.length t;simp only[x9,yd] at this;omega
 obtain⟨A,s,v⟩:=h.fa.cell;have c2:W.cell? ⟨F,2,none⟩=some (.slice sa l.length cs):=(s.cell 2).trans ((v.fx 2 (by decide)).trans a.q);have x:=p9 (end_ r h a.g a.c (a.st W h.kept).1 ok.aq ok.Tz (a.sc W h.kept) k a.use (by omega));have y:=p9 n;have z:qv (bZ ns es cl [] prev ⟨left,f,rows⟩=⟨left,f,if cl.all (kS ns f) then rows++[f] else rows⟩):=p9 (by simp only[bZ];split<;>rfl);clear a t hi b h n d s v ok r k;go_enter func127,ntmps127
 go_wp2_with fail;refine x.o.mono ?_;rintro e J ⟨rfl,p,h1⟩;have H1:=p9 h1;clear h1;go_wp2_with fail;refine bodyPost_ret (results_none rfl _ _ _) rfl ⟨rfl,?_⟩;rw[z.o];exact⟨ev,C,H,ws,G,p,H1.o,fun j _=>⟨rfl,rfl⟩,Int.le_refl _⟩
theorem EJ(hU:vT UInv)(ok:Sf ns es l cl)(s:aK)(r:List aK)(ih:CI UInv F B T fix u caps gb go m ns es sa cs l ca cc cl r):CI UInv F B T fix u caps gb go m ns es sa cs l ca cc cl (s::r):=by
 intro i prev Fx W0 left f mb ev en wv ws ub rows W X hd hi An h Cc Cd Cf Ap;have Az:i<l.length:=by
  have:=congrArg List.length hd;simp only[x9,vw] at this;omega
 have Bk:l.drop i=l[i]::l.drop (i+1):=xi Az;have Ax:l[i]=s:=by rw[Bk] at hd;injection hd
 have er:l.drop (i+1)=r:=by rw[Bk] at hd;injection hd
 have hs?:l[i]?=some s:=by rw[r6 Az,Ax]
 have Ch:rk s:=ok.LA s (by rw[<-Ax];exact sT Az);obtain⟨g,oo,rfl,d⟩:=bC (l:=l) nG (fun _=>rfl) (X.ss W h.kept) Az;rw[Ax] at d;obtain⟨Dd,hc,hf⟩:=h.fa.cell;have c2:W.cell? ⟨F,2,none⟩=some (.slice (some ⟨g,oo,none⟩) l.length cs):=(hc.cell 2).trans ((hf.fx 2 (by decide)).trans X.q);have p0:W.cell? ⟨g,oo+i*5,none⟩=some (.string s.name):=d 0 (by decide);have p1:W.cell? ⟨g,oo+i*5+1,none⟩=some (.string s.ai):=d 1 (by decide);have p2:W.cell? ⟨g,oo+i*5+2,none⟩=some (.string s.type):=d 2 (by decide);have p3:W.cell? ⟨g,oo+i*5+3,none⟩=some (.int .i64 s.least):=d 3 (by decide);have p4:W.cell? ⟨g,oo+i*5+4,none⟩=some (.int .i64 s.bq):=d 4 (by decide);have Dh:(i:Int)<(l.length:Int):=by omega
 have Di:((i:Int)==(l.length:Int))=false:=by simp;omega
 have H1:=p9 (h.fixed hU (.cells #[.string s.name,.string s.ai,.string s.type,.int .i64 s.least,.int .i64 s.bq] 191));have Aa:=p9 (h.kept.below ((r5 W.heap.size W).alloc (rm _) (.cells #[.string s.name,.string s.ai,.string s.type,.int .i64 s.least,.int .i64 s.bq] 191)));have S:=p9 (Loc.new W #[.string s.name,.string s.ai,.string s.type,.int .i64 s.least,.int .i64 s.bq] 191);have H:=p9 (X.on (Fx':=fun k=>Fx k\/k=W.heap.size) (fun k hk=>ad hk) Aa.o);have P:i<6:=by have:=ok.Se;omega
 have x:=p9 hU;have I:=p9 ok;have Ck:=p9 ih;have Ae:=p9 Ch;have Av:=p9 hs?;have Bt:=p9 er;have Bx:=p9 An;have Bv:=p9 Cf;have Cq:=p9 Ap;have Cp:=p9 (fun hz:prev.size<=maxLen=>h.fa.iF.wf hz);clear X hd hi An h Cf Ap hc hf ok hU ih Ch hs? er Bk Ax d;go_enter func127,ntmps127
 go_upto_region 3 with fail;obtain⟨Z,hZ⟩:∃Z,Z=W.heap.size:=⟨_,rfl⟩;rw[<-hZ] at H1 S H⊢;clear hZ c2 p0 p1 p2 p3 p4;generalize W.alloc (.cells #[.string s.name,.string s.ai,.string s.type,.int .i64 s.least,.int .i64 s.bq] 191)=W1 at H1 Aa S H⊢;obtain⟨av,cv,Bo⟩:=aV (H1.o.fa.re i P);obtain⟨De,Bj,C8⟩:=H1.o.fa.cell;have e0:W1.cell? ⟨F,21+i,none⟩=some (.slice av (en i).length cv):=(Bj.cell (21+i)).trans ((C8.e i P).trans (by rw[Bo]));have f0:=Bj.free (21+i);have Dc:(i:Int)<6:=by omega
 have Ct:=p9 Bo;clear Bo Bj C8;go_region;have z:=p9 ((H1.o.step x.o (H1.o.wide.Qw P Ct.o) ((Kept.refl _ W1).then (aE W1 F (21+i) (.slice av 0 cv)) (fun k hk=>by injection hk with hk;rw[<-hk];exact ad (ad (ad rfl))))).drew x.o);clear e0 f0 H1;generalize (W1.setCell ⟨F,21+i,none⟩ (.slice av 0 cv)).drew=W2 at z⊢;have Bz:=p9 (z.o.loc (a6 rfl) S.o);have z2:=Bz.o.at_ 2 (.string s.type) rfl;obtain⟨xs,Ci⟩:∃xs,(fT ns es s ((f prev).getD 0) left).1=xs:=⟨_,rfl⟩;obtain⟨l1,B4⟩:∃l1,(fT ns es s ((f prev).getD 0) left).2=l1:=⟨_,rfl⟩;have Af:=p9 Ci;have At:=p9 B4;clear Ci B4;go_upto_if 41 with fail;go_cut [] (fun w=>∃(J:Nat->Value) (C:Nat->List Int) (Ar:Value) (Aq:List gh),jT UInv (fun k=>Fx k\/k=Z) W1 F B T fix (.func (.func u) #[] caps) l1 f mb J C Ar Aq ub rows w/\C i=xs/\(∀j,j<i->C j=en j/\J j=ev j))
 case first=>
  have Aw:=p9 ((H.o.st.on z.o.kept).narrow (fun k hk=>z.o.free hk));cases U:s.type.toList.isEmpty with
  | true=>
   have Bh:=p9 U;go_wp2_with fail;refine(Qx z.o.wide H.o.g Aw.o P (by have:=I.o.rY;simp[tO];omega) (fun k hk=>a6 hk)).mono ?_;rintro e W3 ⟨rfl,J,C,h3,O,Q,hk⟩;have L:=p9 (z.o.step x.o h3 hk);have Bf:=p9 O;have Bg:=p9 Q;clear h3 O Q hk;go_wp2_with fail;go_meet;have e1:=Af.o;have e2:=At.o;simp only[fT,Bh.o,if_true] at e1 e2;refine⟨J,C,wv,ws,by rw[<-e2];exact L.o,by rw[Bf.o,<-e1];simp[tO],fun j hj=>?_⟩;have:=Bg.o j (by omega);rw[this.1,this.2];unfold tO sZ;rw[bk (by omega),bk (by omega)];exact⟨rfl,rfl⟩
  | false=>
   have Bh:=p9 U;have Ay:0<i:=by
    rcases Nat.eq_zero_or_pos i with e|e
    ·subst e;have:=I.o.first s Av.o;rw[this] at U;cases U
    ·exact e
   obtain⟨p,hp⟩:∃p,l[i - 1]?=some p:=⟨_,r6 (by omega)⟩;have Co:=p9 (Bx.o p Ay hp);have HP:=p9 hp;have Cn:=p9 (I.o.LA p (zs hp));have Cs:qv (rK (Dl F B T (sZ ev i (.slice av 0 cv)) wv W2) (some ⟨g,oo,none⟩) cs l W2):=p9 (fun w hk=>H.o.ss w (z.o.kept.trans (hk.pT (fun k hk=>z.o.free hk))));clear hp;go_wp2_with fail;refine(St z.o.wide H.o.g H.o.q Aw.o Cs.o P Av.o HP.o Ay Ae.o Cn.o ⟨Cc,Cd⟩ (by simp[tO]) I.o.none (fun k hk=>a6 hk)).mono ?_;rintro e W3 ⟨rfl,J,C,Ar,Aq,h3,O,Q,hk⟩;have L:=p9 (z.o.step x.o h3 hk);have Bf:=p9 O;have Bg:=p9 Q;clear h3 O Q hk;go_wp2_with fail;go_meet;have e1:=Af.o;have e2:=At.o;simp only[fT,Bh.o,th,if_false] at e1 e2;have e3:=Co.o;have h3:=L.o;have h4:=Bf.o;rw[e3] at h3 h4;refine⟨J,C,Ar,Aq,by rw[<-e2];exact h3,by rw[h4,<-e1];simp[tO],fun j hj=>?_⟩;have:=Bg.o j (by omega);rw[this.1,this.2];unfold tO sZ;rw[bk (by omega),bk (by omega)];exact⟨rfl,rfl⟩
 case rest=>
  obtain⟨C2,Cw,Da,D8,C3,B1,B7⟩:=hcut;have L:=p9 C3;have Be:=p9 B1;have Cm:=p9 B7;clear C3 B1 B7 z2 z Bz;have C0:=p9 (L.o.loc (a6 rfl) S.o);obtain⟨Df,C6,C9⟩:=L.o.fa.cell;have b0:wc.cell? ⟨F,20,none⟩=some (.map (some B)):=(C6.cell 20).trans C9.b;have z0:=C0.o.at_ 0 (.string s.name) rfl;have la:(Instr.lookup 136 (.map (some B)) (.string s.name) true).run prog wc.drew=.ok (.tuple #[.int .i64 ((f s.name).getD 0),.bool (f s.name).isSome]) wc.drew:=(L.o.drew x.o).fa.iF.SD Ae.o.1;have A5:=p9 (L.o.drew x.o);clear C6 C9;go_upto_region 7 with fail;go_region;clear la b0 z0 C0 L;generalize wc.drew=W4 at A5⊢;obtain⟨nd,Bm⟩:∃nd,(f s.name).getD 0=nd:=⟨_,rfl⟩;obtain⟨bd,Bi⟩:∃bd,(f s.name).isSome=bd:=⟨_,rfl⟩;rw[Bm,Bi];have Cl:=p9 Bm;have Bq:=p9 Bi;clear Bm Bi;obtain⟨ax,cx,Bp⟩:=aV (A5.o.fa.re i P);obtain⟨Dg,C7,Ca⟩:=A5.o.fa.cell;have e0:W4.cell? ⟨F,21+i,none⟩=some (.slice ax xs.length cx):=(C7.cell (21+i)).trans ((Ca.e i P).trans (by rw[Bp,Be.o]));have Cu:qv (C2 i=.slice ax xs.length cx):=p9 (by rw[Bp,Be.o]);have Dk:xs.length<=10000:=by rw[<-Af.o];exact G8 ns es s _ _ I.o.rY Cd
  have Bs:=p9 (vW ns es s ((f prev).getD 0) left Cc);rw[At.o] at Bs;clear Bp C7 Ca;go_upto_region 9 with fail;clear e0;obtain⟨rec,Ao⟩:∃rec,(fun t=>bZ ns es cl r s.name t)=rec:=⟨_,rfl⟩;obtain⟨E,Bn⟩:∃E,mw ns s (f s.name)=E:=⟨_,rfl⟩;have By:=p9 Ao;have Cr:=p9 Bn;have Bc:qv (bZ ns es cl (s::r) prev ⟨left,f,rows⟩=if (fK rec E s.name xs ⟨l1,f,rows⟩).2 then (fK rec E s.name xs ⟨l1,f,rows⟩).1 else if bd then (fK rec E s.name xs ⟨l1,f,rows⟩).1 else ⟨(fK rec E s.name xs ⟨l1,f,rows⟩).1.left,fI (fK rec E s.name xs ⟨l1,f,rows⟩).1.f s.name none,(fK rec E s.name xs ⟨l1,f,rows⟩).1.rows⟩):=p9 (by
   show bZ ns es cl (s::r) prev ⟨left,f,rows⟩=_;unfold bZ;simp only[Ao,Bn,Af.o,At.o,Bq.o])
  clear Ao Bn;have Dj:r.length+1<=6:=by
   have h1:=congrArg List.length Bt.o;have h2:=I.o.Se;simp only[x9] at h1;omega
  go_loopg [65] xs.length (fun c iv w=>∃(k:Nat) (st:mO) (J:Nat->Value) (C:Nat->List Int) (Ar:Value) (Aq:List gh) (mb':Nat) (ub':Nat->Prop),iv=.int .i64 (k:Int)/\k+c=xs.length/\fK rec E s.name xs ⟨l1,f,rows⟩=fK rec E s.name (xs.drop k) st/\jT UInv (fun k=>Fx k\/k=Z) W1 F B T fix (.func (.func u) #[] caps) st.left st.f mb' J C Ar Aq ub' st.rows w/\C i=xs/\J i=.slice ax xs.length cx/\(∀j,j<i->C j=en j/\J j=ev j)/\-7<=st.left/\st.left<=5000/\(mb':Int)+st.left<=mb+left/\(st.rows.length:Int)+st.left<=rows.length+left)
  case atStart=>
   have h1:=Bs.o;exact⟨0,⟨l1,f,rows⟩,C2,Cw,Da,D8,mb,ub,rfl,by omega,by simp,A5.o,Be.o,Cu.o,Cm.o,by simp only;omega,by simp only;omega,by simp only;omega,by simp only;omega⟩
  case round=>
   obtain⟨k,st,A1,A0,A4,A3,V,A2,rfl,hk,Ce,C4,B2,B3,B8,D2,D0,B5,Bb⟩:=hrel;have Au:=p9 Ce;have y:=p9 C4;have A7:=p9 B2;have A8:=p9 B3;have N:=p9 B8;have A:=p9 B5;have Ad:=p9 Bb;clear Ce C4 B2 B3 B8 B5 Bb A5;by_cases Bl:k<xs.length
   ·have D1:(k:Int)<(xs.length:Int):=by omega
    have Cg:dj wr 1 (.slice ax xs.length cx) xs.length (xs.flatMap (fun a=>[Value.int .i64 a])):=by
     have h1:=y.o.fa.re i P;rw[A7.o,A8.o] at h1;have h2:=aJ h1 h1.1
     rwa [List.map_eq_flatMap] at h2
    obtain⟨gx,ox,rfl,d⟩:=bC (l:=xs) (fun a=>[Value.int .i64 a]) (fun _=>rfl) Cg Bl;obtain⟨e,he⟩:∃e,xs[k]=e:=⟨_,rfl⟩;have Bd:qv (xs.drop k=e::xs.drop (k+1)):=p9 (by rw[xi Bl,he]);rw[he] at d;have Cz:e∈xs:=by rw[<-he];exact sT Bl
    have p0:wr.cell? ⟨gx,ox+k,none⟩=some (.int .i64 e):=by have:=d 0 (by decide);simpa using this
    clear d Cg he;have Y:qv (E e=((bd&&(e != nd)) || !(nF ns e s.ai))):=p9 (by rw[<-Cr.o];unfold mw;rw[Bq.o,Cl.o]);have A9:=p9 (JV (n:=e) (l:=s.ai) y.o.fa H.o.g (H.o.st wr y.o.kept).1);have C1:=p9 (y.o.loc (a6 rfl) S.o);have z1:=C1.o.at_ 1 (.string s.ai) rfl;go_upto_region 11 with fail;clear p0;go_cut [82] (fun c w=>c=.bool (E e)/\jT UInv (fun k=>Fx k\/k=Z) W1 F B T fix (.func (.func u) #[] caps) st.left st.f V A1 A0 A4 A3 A2 st.rows w)
    case first=>
     cases bd with
     | true=>
      cases O:(e != nd) with
      | true=>
       have HS:qv (E e=true):=p9 (by rw[Y.o,O];rfl);go_wp2_with fail;go_meet;exact⟨by rw[HS.o],y.o⟩
      | false=>
       go_wp2_with fail;refine A9.o.mono ?_;rintro e2 W6 ⟨rfl,Ai⟩;have G:=p9 (y.o.below x.o Ai);clear Ai A9;cases Al:nF ns e s.ai with
       | true=>
        have HS:qv (E e=false):=p9 (by rw[Y.o,Al];rw[O];rfl);go_wp2_with fail;go_meet;exact⟨by rw[HS.o],G.o⟩
       | false=>
        have HS:qv (E e=true):=p9 (by rw[Y.o,Al];simp);go_wp2_with fail;go_meet;exact⟨by rw[HS.o],G.o⟩
     | false=>
      go_wp2_with fail;refine A9.o.mono ?_;rintro e2 W6 ⟨rfl,Ai⟩;have G:=p9 (y.o.below x.o Ai);clear Ai A9;cases Al:nF ns e s.ai with
      | true=>
       have HS:qv (E e=false):=p9 (by rw[Y.o,Al];rfl);go_wp2_with fail;go_meet;exact⟨by rw[HS.o],G.o⟩
      | false=>
       have HS:qv (E e=true):=p9 (by rw[Y.o,Al];simp);go_wp2_with fail;go_meet;exact⟨by rw[HS.o],G.o⟩
    case rest=>
     obtain⟨rfl,C5⟩:=hcut;have G:=p9 C5;clear C5 z1 y C1 A9 Y;cases hs:E e with
     | true=>
      have Aw:qv (fK rec E s.name (e::xs.drop (k+1)) st=fK rec E s.name (xs.drop (k+1)) st):=p9 (by simp only[fK,hs,if_true]);go_wp2_with fail;go_roundg (gk - 1)
      case rel=>exact⟨k+1,st,A1,A0,A4,A3,V,A2,by simp,by omega,by rw[Au.o,Bd.o,Aw.o],G.o,A7.o,A8.o,N.o,D2,D0,A.o,Ad.o⟩
      case measure=>omega
     | false=>
      have B0:=p9 hs;clear hs;go_wp2_with fail;refine(Sj G.o.wide ⟨by omega,by omega⟩).mono ?_;rintro e3 W7 ⟨rfl,h7,g7⟩;have A6:=p9 (G.o.step x.o h7 ((Kept.refl _ wc).then g7 (fun k hk=>by injection hk with hk;rw[<-hk];exact ad (ad (ad rfl)))));clear h7 g7 G;by_cases hp:0<=st.left - 1
      ·have Am:decide (0<=st.left - 1)=true:=decide_eq_true hp;rw[Am];clear Am;have Ac:=p9 hp;have Ag:=p9 (A6.o.loc (a6 rfl) S.o);obtain⟨Cv,Aj,Ak⟩:=A6.o.fa.cell;have b0:W7.cell? ⟨F,20,none⟩=some (.map (some B)):=(Aj.cell 20).trans Ak.b;have z0:=Ag.o.at_ 0 (.string s.name) rfl;have M:=p9 (A6.o.drew x.o);obtain⟨D,K,Ah⟩:=M.o.fa.iF;have D5:(Lit.int .i64 e).wf=true:=by
        refine KJ (ns:=ns) (es:=es) (s:=s) (p:=(f prev).getD 0) (left:=left) I.o.T4 I.o.TX ?_ e (by rw[Af.o];exact Cz);intro U;have Ay:0<i:=by
         rcases Nat.eq_zero_or_pos i with e0|e0
         ·subst e0;have:=I.o.first s Av.o;rw[this] at U;cases U
         ·exact e0
        have Cb:l[i - 1]?=some (l[i - 1]'(by omega)):=r6 (by omega);refine Cp.o ?_;rw[<-Bx.o _ Ay Cb];exact(I.o.LA _ (zs Cb)).1
       have D4:V<maxLen:=by have h1:=A.o;have h2:=Bv.o;unfold maxLen;omega
       obtain⟨w8,Ba,R,v⟩:=K.store rX underlying136 D4 (uH Ae.o.1) (plainElem_int underlying3 D5);have As:=p9 (M.o.step x.o (M.o.wide.bind v.grown (cK.put K.isMap Ah Ae.o.1 R)) ((Kept.refl _ W7.drew).then v.grown (fun k hk=>by injection hk with hk;rw[<-hk];exact ad (ad (a6 (ad rfl))))));clear Aj Ak K Ah R v M A6 Ag;go_upto_region 13 with fail;go_region;clear b0 z0 Ba;have Br:=p9 (Ck.o (i+1) s.name (fun k=>Fx k\/k=Z) W1 (st.left - 1) (fI st.f s.name (some e)) (V+1) A1 A0 A4 A3 A2 st.rows w8 H.o Bt.o (by omega) (fun p _ hp=>by have h1:=Av.o;rw[Nat.add_sub_cancel,h1] at hp;injection hp with hp;rw[hp]) As.o Ac.o (by omega) (by have h1:=A.o;have h2:=Bv.o;omega) (by have h1:=Ad.o;have h2:=Cq.o;omega));go_wp2_with fail;refine Br.o.mono ?_;rintro e4 W9 ⟨rfl,Cy,Cx,Db,D9,D6,D7,h9,B9,B6⟩;have Cj:=p9 h9;have Ab:=p9 B9;have Bw:=p9 B6;clear h9 B9 B6 Br As;go_wp2_with fail;go_roundg (gk - 1)
       case rel=>
        have hle:=nB ns es cl r s.name ⟨st.left - 1,fI st.f s.name (some e),st.rows⟩ Ac.o;have h9:=Cj.o;have D3:=Bw.o;have hr:bZ ns es cl r s.name ⟨st.left - 1,fI st.f s.name (some e),st.rows⟩=rec ⟨st.left - 1,fI st.f s.name (some e),st.rows⟩:=by rw[<-By.o]
        rw[hr] at hle h9 D3;simp only at hle;refine⟨k+1,_,Cy,Cx,Db,D9,D6,D7,by simp,by omega,?_,h9,?_,?_,fun j hj=>?_,by omega,by omega,?_,?_⟩
        ·rw[Au.o,Bd.o];simp only[fK,B0.o,th,if_false,a8 Ac.o]
        ·rw[(Ab.o i (by omega)).1,A7.o]
        ·rw[(Ab.o i (by omega)).2,A8.o]
        ·have h1:=Ab.o j (by omega);have h2:=N.o j hj;exact⟨h1.1.trans h2.1,h1.2.trans h2.2⟩
        ·have h1:=A.o;omega
        ·have h1:=Ad.o;omega
       case measure=>omega
      ·have Am:decide (0<=st.left - 1)=false:=decide_eq_false hp;rw[Am];have HE:qv (bZ ns es cl (s::r) prev ⟨left,f,rows⟩=⟨st.left - 1,st.f,st.rows⟩):=p9 (by
        have h1:fK rec E s.name xs ⟨l1,f,rows⟩=(⟨st.left - 1,st.f,st.rows⟩,true):=by
         rw[Au.o,Bd.o];simp only[fK,B0.o,th,if_false,bk hp]
        rw[Bc.o,h1]
        rfl)
       clear Am;go_wp2_with fail;refine bodyPost_ret (results_none rfl _ _ _) rfl ⟨rfl,?_⟩;rw[HE.o];exact⟨A1,A0,A4,A3,V,A2,A6.o.M3 (fun k hk=>ad hk) Aa.o,N.o,by have:=A.o;simp only;omega⟩
   ·have D1:¬(k:Int)<(xs.length:Int):=by omega
    have Bu:qv (fK rec E s.name xs ⟨l1,f,rows⟩=(st,false)):=p9 (by rw[Au.o,LY (by omega)];rfl);cases bd with
    | true=>
     have HE:qv (bZ ns es cl (s::r) prev ⟨left,f,rows⟩=st):=p9 (by rw[Bc.o,Bu.o];rfl);go_wp2_with fail;go_end0;refine⟨rfl,?_⟩;rw[HE.o];exact⟨A1,A0,A4,A3,V,A2,y.o.M3 (fun k hk=>ad hk) Aa.o,N.o,A.o⟩
    | false=>
     have HE:qv (bZ ns es cl (s::r) prev ⟨left,f,rows⟩=⟨st.left,fI st.f s.name none,st.rows⟩):=p9 (by rw[Bc.o,Bu.o];rfl);have Ag:=p9 (y.o.loc (a6 rfl) S.o);obtain⟨Cv,Aj,Ak⟩:=y.o.fa.cell;have b0:wr.cell? ⟨F,20,none⟩=some (.map (some B)):=(Aj.cell 20).trans Ak.b;have z0:=Ag.o.at_ 0 (.string s.name) rfl;have M:=p9 (y.o.drew x.o);obtain⟨D,K,Ah⟩:=M.o.fa.iF;obtain⟨w8,Ba,R,v⟩:=K.drop rX underlying136 (uH Ae.o.1) 0;have As:=p9 (M.o.step x.o (M.o.wide.bind v.grown (cK.del Ah R)) ((Kept.refl _ wr.drew).then v.grown (fun k hk=>by injection hk with hk;rw[<-hk];exact ad (ad (a6 (ad rfl))))));clear Aj Ak K Ah R v M Ag;go_upto_region 17 with fail;go_region;go_wp2_with fail;go_end0;refine⟨rfl,?_⟩;rw[HE.o];exact⟨A1,A0,A4,A3,V,A2,As.o.M3 (fun k hk=>ad hk) Aa.o,N.o,A.o⟩
theorem I2(b:vT UInv)(ok:Sf ns es l cl)(a:∀args w,(callFunc u args).run prog w=.ok (.enter u args) w):∀r,CI UInv F B T fix u caps gb go m ns es sa cs l ca cc cl r
 | []=>FL b ok a
 | s::r=>EJ b ok s r (I2 b ok a r)
end
section
open Go.RowKit Go.Maps
def jS(l:List bm):ByteArray->Option Int:=l.foldl (fun f p=>fI f p.key (some p.val)) (fun _=>none)
theorem C8{l:List bm}{k:Nat}(hk:k<l.length):jS (l.take (k+1))=fI (jS (l.take k)) l[k].key (some l[k].val):=by
 unfold jS;rw[tt,r6 hk,L3]
 rfl
theorem cK.made(W:World):cK (W.alloc (.map #[] 0)) W.heap.size 0 (fun _=>none):=
 ⟨.map [],World.ownsMap_made W _ _ _,fun _ _=>⟨rfl,rfl⟩⟩
variable {gb go m:Nat} {T:TypeId} {cs:Array Value} {vn ve:Value} {ns:List aH} {es:List bK} {last:Int} {W:World} {rb rn:Nat} {S:bF->Bool} {nm:ByteArray} {q:aI} {vs vc vi:Value} {aop:Option Addr} {cap:Nat} {bud:Int}
def jz(S:bF->Bool)(q:aI)(bud:Int)(n:Nat):Int:=if bud<1 then 6 else if jw S q then (if 40<=n then 8 else 0) else 7
theorem RM(h:kN gb go T cs vn ve ns es last m W)(y:dl W rb rn S)(hp:dj W 2 (.slice aop q.aj.length cap) q.aj.length (q.aj.flatMap dG))(H:q.aj.length<=1000)(x:q.ai.size<=maxLen)(hk:∀p∈q.aj,p.key.size<=maxLen)(M:ns.length<=1000000)(hm:(jz S q bud ns.length==0)=false):
  Calls prog 138 #[.pointer (some ⟨gb,go,none⟩),.agg #[.string nm,.map (some rb)],.agg (qC q vs vc vi (.slice aop q.aj.length cap)),.int .i64 bud] W fun e W'=>e=.returned (.tuple #[.int .i64 0,.int .i64 (jz S q bud ns.length)])/\Below W.heap.size W W':=by
 have c:=p9 ((r5 W.heap.size W).alloc (rm _) (.cells #[.string nm,.map (some rb)] 104));have l:=p9 (Loc.new W #[.string nm,.map (some rb)] 104);have a:=p9 (c.o.alloc c.o.size (.cells (qC q vs vc vi (.slice aop q.aj.length cap)) 49));have b:=p9 (l.o.alloc (.cells (qC q vs vc vi (.slice aop q.aj.length cap)) 49));have g:=p9 (Loc.new (W.alloc (.cells #[.string nm,.map (some rb)] 104)) (qC q vs vc vi (.slice aop q.aj.length cap)) 49);obtain⟨F,G,t⟩:=aV h.on;subst t;have j:=p9 ((h.bJ.cell go).trans h.c0);have D:=p9 y;have C:=p9 hp;have A:=p9 x;have z:=p9 hk;have B:=p9 hm;clear h y hp x hk hm c l;go_enter func138,ntmps138
 go_upto_region 1 with fail;obtain⟨Y,s⟩:∃Y,Y=W.heap.size:=⟨_,rfl⟩;have u:(W.alloc (.cells #[.string nm,.map (some rb)] 104)).heap.size=Y+1:=by rw[s];simp
 rw[u] at g;rw[<-s] at b⊢;clear s u;generalize (W.alloc (.cells #[.string nm,.map (some rb)] 104)).alloc (.cells (qC q vs vc vi (.slice aop q.aj.length cap)) 49)=K at a b g⊢;by_cases w:bud<1
 ·have k:qv (jz S q bud ns.length=6):=p9 (by unfold jz;rw[a8 w]);go_wp2_with fail;go_ret2;exact⟨by rw[k.o];rfl,a.o⟩
 ·have f:=p9 w;have I:=b.o.at_ 0 (.string nm) rfl;have J:=b.o.at_ 1 (.map (some rb)) rfl;go_wp2_with (refine wpList_load_mid rfl 49 _ rfl (Y+1) 0 rfl (qC q vs vc vi (.slice aop q.aj.length cap)).toList _ g.o.range underlying49 rfl (by rw[Tryz.bp];rfl) ?_)
  refine(C4 (D.o.kept (ag a.o none) (by simp)) (C.o.below a.o) H A.o z.o).mono ?_;rintro e E ⟨rfl,n⟩;have d:=p9 (a.o.trans (n.mono a.o.size));clear n I J;have L:E.cell? ⟨gb,go,none⟩=some (.slice F ns.length G):=(d.o.cell (block_lt_of_cell j.o)).trans j.o;cases i:jw S q with
  | false=>
   have k:qv (jz S q bud ns.length=7):=p9 (by unfold jz;rw[bk (by have:=f.o;omega),i];rfl);go_wp2_with fail;go_ret2;exact⟨by rw[k.o];rfl,d.o⟩
  | true=>
   have r:40<=ns.length:=by
    rcases ua ns.length 40 with h1|h1
    ·exfalso;have:=B.o;unfold jz at this;rw[bk (by have:=f.o;omega),i,a8 rfl,bk (by omega)] at this;cases this
    ·exact h1
   have v:(40:Int)<=(ns.length:Int):=by omega
   have k:qv (jz S q bud ns.length=8):=p9 (by unfold jz;rw[bk (by have:=f.o;omega),i,a8 rfl,a8 r]);go_wp2_with fail;go_ret2;exact⟨by rw[k.o];rfl,d.o⟩
theorem OD(h:kN gb go T cs vn ve ns es last m W)(hs:go+2<cs.size)(hr:dl W rb rn S)(hp:dj W 2 (.slice aop q.aj.length cap) q.aj.length (q.aj.flatMap dG))(hn:q.aj.length<=1000)(hl:q.ai.size<=maxLen)(hk:∀p∈q.aj,p.key.size<=maxLen/\(Lit.int .i64 p.val).wf=true)(A4:0<=last/\last<=1000000000)(A6:q.aj.length<=m)(hm:jz S q bud ns.length=0):
  Calls prog 138 #[.pointer (some ⟨gb,go,none⟩),.agg #[.string nm,.map (some rb)],.agg (qC q vs vc vi (.slice aop q.aj.length cap)),.int .i64 bud] W fun e W'=>e=.returned (.tuple #[.int .i64 (last+1),.int .i64 0])/\∃vn' cs' pb,kN gb go T cs' vn' ve (ns++[⟨last+1,q.ai,pb,jS q.aj⟩]) es (last+1) m W'/\cs'.size=cs.size/\(∀j,j≠go->j≠go+2->cs'[j]?=cs[j]?)/\W.heap.size<=pb/\Kept (fun b=>b=gb\/vn.ownBlock=some b) W W'/\wI W vn vn':=by
 have A0:¬bud<1:=by intro N;unfold jz at hm;rw[a8 N] at hm;cases hm
 have L:jw S q=true:=by
  cases hh:jw S q with
  | true=>rfl
  | false=>unfold jz at hm;rw[bk A0,hh] at hm;cases hm
 have Aq:ns.length<40:=by
  rcases ua ns.length 40 with h1|h1
  ·exact h1
  ·unfold jz at hm;rw[bk A0,L,a8 rfl,a8 h1] at hm;cases hm
 have B:=p9 ((r5 W.heap.size W).alloc (rm _) (.cells #[.string nm,.map (some rb)] 104));have X:=p9 (Loc.new W #[.string nm,.map (some rb)] 104);have c:=p9 (B.o.alloc B.o.size (.cells (qC q vs vc vi (.slice aop q.aj.length cap)) 49));have i:=p9 (X.o.alloc (.cells (qC q vs vc vi (.slice aop q.aj.length cap)) 49));have f:=p9 (Loc.new (W.alloc (.cells #[.string nm,.map (some rb)] 104)) (qC q vs vc vi (.slice aop q.aj.length cap)) 49);obtain⟨av,cv,Al⟩:=aV h.on;subst Al;have P:=p9 ((h.bJ.cell go).trans h.c0);have H:=p9 h;have HS:=p9 hs;have HR:=p9 hr;have HP:=p9 hp;have HL:=p9 hl;have HK:=p9 hk;have Ac:=p9 A4;have Ah:=p9 A6;have Ad:=p9 L;have O:qv (∀y∈ns,y.bJ<W.heap.size):=p9 (fun y z=>(h.bf y z).lt);clear h hs hr hp hl hk hm A4 A6 L B X;go_enter func138,ntmps138
 go_upto_region 1 with fail;obtain⟨Y,hY⟩:∃Y,Y=W.heap.size:=⟨_,rfl⟩;have e1:(W.alloc (.cells #[.string nm,.map (some rb)] 104)).heap.size=Y+1:=by rw[hY];simp
 rw[e1] at f;have Ap:=p9 hY;rw[<-hY] at i⊢;clear hY e1;generalize (W.alloc (.cells #[.string nm,.map (some rb)] 104)).alloc (.cells (qC q vs vc vi (.slice aop q.aj.length cap)) 49)=W1 at c i f⊢;have r0:=i.o.at_ 0 (.string nm) rfl;have r1:=i.o.at_ 1 (.map (some rb)) rfl;go_wp2_with (refine wpList_load_mid rfl 49 _ rfl (Y+1) 0 rfl (qC q vs vc vi (.slice aop q.aj.length cap)).toList _ f.o.range underlying49 rfl (by rw[Tryz.bp];rfl) ?_)
 refine(C4 (HR.o.kept (ag c.o none) (by simp)) (HP.o.below c.o) hn HL.o (fun p hp=>(HK.o p hp).1)).mono ?_;rintro e W2 ⟨rfl,J⟩;have d:=p9 (c.o.trans (J.mono c.o.size));have G:=p9 (f.o.grown (ag J none) (by simp));clear J r0 r1 c i f;rw[Ad.o];have c0:W2.cell? ⟨gb,go,none⟩=some (.slice av ns.length cv):=(d.o.cell (block_lt_of_cell P.o)).trans P.o;have Ao:¬(40:Int)<=(ns.length:Int):=by omega
 have Ak:=@run_makeMap prog;go_upto_region 8 with fail;have s:=p9 (cK.made W2);have C:=p9 (d.o.alloc d.o.size (.map #[] 0));have u:=p9 (G.o.alloc (.map #[] 0));have t:=p9 d.o.size;have R:qv (Y+1<W2.heap.size):=p9 G.o.lt;obtain⟨M,hM⟩:∃M,M=W2.heap.size:=⟨_,rfl⟩;rw[<-hM] at s t R⊢;clear hM c0 Ak d G;generalize W2.alloc (.map #[] 0)=W3 at s C u⊢;have An:W3.cell? ⟨Y+1,16,none⟩=some (.slice aop q.aj.length cap):=(u.o.cell 16).trans rfl;go_wp2_with fail;clear An;go_loopg [32] q.aj.length (fun n iv w=>∃k:Nat,iv=.int .i64 (k:Int)/\k+n=q.aj.length/\cK w M k (jS (q.aj.take k))/\Below W.heap.size W w/\Loc w (Y+1) (qC q vs vc vi (.slice aop q.aj.length cap)) 49)
 case atStart=>exact⟨0,rfl,by omega,s.o,C.o,u.o⟩
 case round=>
  obtain⟨k,rfl,Ar,A7,N,hq⟩:=hrel;have F:=p9 A7;have A:=p9 N;have HQ:=p9 hq;clear A7 N hq s C u;by_cases K:k<q.aj.length
  ·obtain⟨g,oo,rfl,a⟩:=bC (l:=q.aj) dG (fun _=>rfl) (HP.o.below A.o) K;obtain⟨y,z⟩:∃y,q.aj[k]=y:=⟨_,rfl⟩;have HY:=p9 z;have I:=p9 (HK.o y (by rw[<-z];exact sT K));rw[z] at a;clear z;have p0:wr.cell? ⟨g,oo+k*2,none⟩=some (.string y.key):=a 0 (by decide);have p1:wr.cell? ⟨g,oo+k*2+1,none⟩=some (.int .i64 y.val):=a 1 (by decide);have Aj:(k:Int)<(q.aj.length:Int):=by omega
   clear a;have E:=p9 (A.o.alloc A.o.size (.cells #[.string y.key,.int .i64 y.val] 120));have V:=p9 (HQ.o.alloc (.cells #[.string y.key,.int .i64 y.val] 120));have U:=p9 (F.o.kept (aD wr (.cells #[.string y.key,.int .i64 y.val] 120) none) (by simp));have v:=p9 (Loc.new wr #[.string y.key,.int .i64 y.val] 120);clear A HQ F;go_upto_region 11 with fail;obtain⟨Z,hZ⟩:∃Z,Z=wr.heap.size:=⟨_,rfl⟩;rw[<-hZ] at v⊢;clear hZ p0 p1;generalize wr.alloc (.cells #[.string y.key,.int .i64 y.val] 120)=W4 at E V U v⊢;have z0:=v.o.at_ 0 (.string y.key) rfl;have z1:=v.o.at_ 1 (.int .i64 y.val) rfl;obtain⟨D,x,hD⟩:=U.o;have HO:=p9 x;have A9:=p9 hD;clear x hD;go_wp2_with (first
    | (at_mapUpdate;refine wpList_mapUpdate_own _ rfl _ _ _ 136 rfl 9 3 rX underlying136 _ M k D rfl HO.o (by unfold maxLen;omega) _ _ _ rfl rfl (uH I.o.1) _ [] (plainElem_int underlying3 I.o.2) ?_;intro w5 r A1;go_frame)
    | go_in)
   have Af:qv (cK w5 M (k+1) (jS (q.aj.take (k+1)))):=p9 (by rw[C8 K,HY.o];exact cK.put HO.o.isMap A9.o I.o.1 r);have Q:=p9 A1;clear r A1;go_roundg (gk - 1)
   case rel=>exact⟨k+1,by simp,by omega,Af.o,E.o.grown Q.o E.o.size (fun j hj=>by injection hj with hj;rw[<-hj];exact t.o),V.o.grown Q.o (by intro e;injection e with e;have:=R.o;omega)⟩
   case measure=>omega
  ·have Aj:¬(k:Int)<(q.aj.length:Int):=by omega
   have Ag:qv (cK wr M m (jS q.aj)):=p9 (by have:=F.o.more (n':=m) (by have:=Ah.o;omega);rwa [uB (by omega)] at this);have Am:wr.cell? ⟨Y+1,15,none⟩=some (.string q.ai):=(HQ.o.cell 15).trans rfl;go_wp2_with fail;refine(NL (lb:=q.ai) (H.o.later A.o) HS.o (by omega) Ac.o Ag.o (fun y z=>by have h1:=O.o y z;have h2:=t.o;omega)).mono ?_;rintro e W6 ⟨rfl,vn',cs',h6,A8,A5,A3,A2⟩;have Aa:qv (wI W (Value.slice av ns.length cv) vn'):=p9 (fun b N=>(A2 b N).imp id (fun h=>r8 A.o.size h));have H6:=p9 h6;have Ai:=p9 A8;have Ae:=p9 A5;have Ab:=p9 (((Kept.refl (fun b=>b=gb\/(Value.slice av ns.length cv).ownBlock=some b) W).below A.o).trans A3);clear h6 A8 A5 A3 A2 Am;go_wp2_with fail;go_ret2;exact⟨rfl,vn',cs',M,H6.o,Ai.o,Ae.o,t.o,Ab.o,Aa.o⟩
end
section
open Go.RowKit Go.Maps Go.Sort
structure wO where
 ns:List aH
 es:List bK
 last:Int
def xZ(S:bF->Bool)(g:wO)(q:aI)(b:Int):Int × Int × wO:=
 if jz S q b g.ns.length=0 then (g.last+1,0,⟨g.ns++[⟨g.last+1,q.ai,0,jS q.aj⟩],g.es,g.last+1⟩) else (0,jz S q b g.ns.length,g)
def Oa(S:bF->Bool)(g:wO)(q:aI)(b:Int):Int × Int × wO:=xZ S g q b
def Li(S:bF->Bool)(g:wO)(q:aI)(b:Int):List ByteArray × Int:=if (Oa S g q b).2.1=0 then ([bP (Oa S g q b).1],0) else ([],(Oa S g q b).2.1)
def Ma(gb:Nat)(vn ve:Value)(ns:List aH)(b:Nat):Prop:=b=gb\/vn.ownBlock=some b\/ve.ownBlock=some b\/∃x∈ns,x.bJ=b
structure Rc(g:wO):Prop where
 n40:g.ns.length<=40
 T5:g.es.length<=80
 Si:∀x∈g.ns,x.ai.size<=maxLen
 ty:∀x∈g.es,x.type.size<=maxLen
 num:∀x∈g.ns,(Lit.int .i64 x.num).wf=true
 ends:∀x∈g.es,(Lit.int .i64 x.src).wf=true/\(Lit.int .i64 x.dst).wf=true
 last:0<=g.last/\g.last<=1000000
structure yT(q:aI):Prop where
 Se:q.ah.length<=6
 LA:∀s∈q.ah,rk s
 first:∀s,q.ah[0]?=some s->s.type.toList.isEmpty=true
 aq:q.aq.length<=1000
 Tz:∀c∈q.aq,BY c
theorem yT.Qr{q:aI}(h:yT q){ns a:List aH}{es:List bK}{S:bF->Bool}{last:Int}(c:Rc ⟨ns,es,last⟩)(d:a.map Lh=gU S ns)(b:es=[]):Sf a (es.filter (qR a S)) q.ah q.aq:=by
 have hlen:a.length<=ns.length:=by
  have h1:(a.map Lh).length=(gU S ns).length:=by rw[d]
  unfold gU at h1;rw[tB,tB] at h1;rw[h1];exact NK _ _
 refine⟨h.Se,h.LA,h.first,h.aq,h.Tz,?_,fun x hx=>?_,fun e he=>(c.ends e ((List.mem_filter.1 he).1)).2,by rw[b];rfl⟩
 ·have:=c.n40;simp only at this;omega
 ·have h1:Lh x∈gU S ns:=by rw[<-d];exact List.mem_map_of_mem hx
  unfold gU at h1;obtain⟨y,g,e⟩:=List.mem_map.1 h1;have f:x.num=y.num:=by have:=congrArg (fun t:Int × ByteArray × (ByteArray->Option Int)=>t.1) e;exact this.symm
  rw[f];exact c.num y ((List.mem_filter.1 g).1)
structure jF{α:Type}(f:α->α->Int):Prop where
 mh:∀a b,f b a=-(f a b)
 trans:∀a b c,f a b<=0->f b c<=0->f a c<=0
def KT{α:Type}(f g:α->α->Int)(a b:α):Int:=if f a b=0 then g a b else f a b
theorem jF.both{f g:α->α->Int}(d:jF f)(j:jF g):jF (KT f g):=by
 refine⟨fun a b=>?_,fun a b c h1 h2=>?_⟩
 ·unfold KT;rw[d.mh a b,j.mh a b];by_cases h:f a b=0
  ·simp[h]
  ·rw[bk (by omega),bk h]
 ·unfold KT at h1 h2⊢;have f1:f a b<=0:=by
   by_cases h:f a b=0
   ·omega
   ·rwa [bk h] at h1
  have f2:f b c<=0:=by
   by_cases h:f b c=0
   ·omega
   ·rwa [bk h] at h2
  have f3:=d.trans a b c f1 f2;by_cases h:f a c=0
  ·have i:f c a<=0:=by rw[d.mh a c];omega
   have k:=d.trans b c a f2 i;rw[d.mh a b] at k;have l:=d.trans c a b i f1;rw[d.mh b c] at l;rw[a8 (by omega)] at h1 h2;rw[a8 h];exact j.trans a b c h1 h2
  ·rw[bk h];exact f3
theorem jF.zero :jF (fun _ _:α=>(0:Int)):=⟨fun _ _=>rfl,fun _ _ _ _ _=>Int.le_refl 0⟩
theorem jF.neg{f:α->α->Int}(d:jF f):jF (fun a b=>-(f a b)):=by
 refine⟨fun a b=>by rw[d.mh a b],fun a b c h1 h2=>?_⟩;have g:=d.trans c b a (by rw[d.mh b c];omega) (by rw[d.mh a b];omega);rw[d.mh a c] at g;omega
theorem jF.on{β:Type}{f:β->β->Int}(c:jF f)(k:α->β):jF (fun a b=>f (k a) (k b)):=⟨fun _ _=>c.mh _ _,fun _ _ _ h1 h2=>c.trans _ _ _ h1 h2⟩
theorem Cn:jF eB:=by
 have hi:∀a b:Int,Lib.compareInt a b=if a<b then -1 else if b<a then 1 else 0:=fun a b=>by
  unfold Lib.compareInt
  rfl
 refine⟨fun a b=>?_,fun a b c h1 h2=>?_⟩
 ·cases a<;>cases b<;>simp only[eB,hi]<;>first|rfl|(split<;>split<;>first|rfl|omega)
 ·cases a<;>cases b<;>cases c<;>simp only[eB,hi] at h1 h2⊢<;>first|omega|(split at h1<;>split at h2<;>split<;>first|omega|(split<;>omega))
theorem OS{a b:Option Int}(h:eB a b=0):a=b:=by
 cases a<;>cases b<;>simp[eB,Lib.compareInt] at h⊢
 split at h
 ·cases h
 ·split at h
  ·cases h
  ·omega
abbrev L6:={l:bY // l.length=6}
theorem yV:∀(d k:Nat),k+d=6->jF (fun a b:L6=>cmpL (a.1.drop k) (b.1.drop k))
 | 0,k,h=>by
  have e:(fun a b:L6=>cmpL (a.1.drop k) (b.1.drop k))=fun _ _=>0:=by
   funext a b
   rw[LY (by have:=a.2;omega)]
   rfl
  rw[e];exact jF.zero
 | d+1,k,h=>by
  have e:(fun a b:L6=>cmpL (a.1.drop k) (b.1.drop k))=KT (fun a b:L6=>eB (jm a.1 k) (jm b.1 k)) (fun a b:L6=>cmpL (a.1.drop (k+1)) (b.1.drop (k+1))):=by
   funext a b
   rw[uO a.2 b.2 (by omega)]
   rfl
  rw[e];exact(Cn.on (fun a:L6=>jm a.1 k)).both (yV d (k+1) (by omega))
theorem IV:jF (fun a b:L6=>cmpL a.1 b.1):=by simpa using yV 6 0 rfl
theorem pM(order:Int)(down:Bool):jF (fun a b:L6=>kz order down a.1 b.1):=by
 by_cases h:0<order
 ·have e:(fun a b:L6=>kz order down a.1 b.1)=KT (fun a b:L6=>if down then -(eB (jm a.1 (order - 1).toNat) (jm b.1 (order - 1).toNat)) else eB (jm a.1 (order - 1).toNat) (jm b.1 (order - 1).toNat)) (fun a b:L6=>cmpL a.1 b.1):=by
   funext a b
   unfold kz KT;rw[a8 h]
  rw[e];refine jF.both ?_ IV;cases down with
  | true=>exact(Cn.on (fun a:L6=>jm a.1 (order - 1).toNat)).neg
  | false=>exact Cn.on (fun a:L6=>jm a.1 (order - 1).toNat)
 ·have e:(fun a b:L6=>kz order down a.1 b.1)=fun a b:L6=>cmpL a.1 b.1:=by
   funext a b
   unfold kz;rw[bk h]
  rw[e];exact IV
theorem xF:∀(d k:Nat) (a b:L6),k+d=6->cmpL (a.1.drop k) (b.1.drop k)=0->a.1.drop k=b.1.drop k
 | 0,k,a,b,h,_=>by rw[LY (by have:=a.2;omega),LY (by have:=b.2;omega)]
 | d+1,k,a,b,h,h0=>by
  rw[uO a.2 b.2 (by omega)] at h0;by_cases hz:eB (jm a.1 k) (jm b.1 k)=0
  ·rw[a8 hz] at h0;have h1:=xF d (k+1) a b (by omega) h0;have f:k<a.1.length:=by have:=a.2;omega
   have g:k<b.1.length:=by have:=b.2;omega
   rw[xi f,xi g,h1];have c:=OS hz;unfold jm at c;rw[r6 f,r6 g] at c;simp only[xp] at c;rw[c]
  ·rw[bk hz] at h0;exact absurd h0 hz
theorem BC{order:Int}{down:Bool}{a b:L6}(h:kz order down a.1 b.1=0):a=b:=by
 have d:cmpL a.1 b.1=0:=by
  unfold kz at h;by_cases c:0<order
  ·rw[a8 c] at h;simp only at h;generalize (if down then -(eB (jm a.1 (order - 1).toNat) (jm b.1 (order - 1).toNat)) else eB (jm a.1 (order - 1).toNat) (jm b.1 (order - 1).toNat))=o at h;by_cases h1:o=0
   ·rwa [a8 h1] at h
   ·rw[bk h1] at h;exact absurd h h1
  ·rwa [bk c] at h
 exact Subtype.ext (by simpa using xF 6 0 a b rfl (by simpa using d))
theorem jF.swo{f:α->α->Int}(a:jF f):SWO (ltOf f):=by
 have b:∀x y,ltOf f x y=decide (f x y<0):=fun x y=>rfl;refine⟨fun x=>?_,fun x y z h1 h2=>?_,fun x y z h1 h2=>?_⟩
 ·have:=a.mh x x;rw[b];simp;omega
 ·rw[b] at*;simp only[decide_eq_true_eq] at*;have c:=a.trans x y z (by omega) (by omega);by_cases h:f x z=0
  ·have d:=a.trans z x y (by rw[a.mh x z];omega) (by omega);rw[a.mh y z] at d;omega
  ·omega
 ·rw[b] at*;simp only[decide_eq_false_iff_not] at*;have c:=a.trans z y x (by rw[a.mh y z];omega) (by rw[a.mh x y];omega);rw[a.mh x z] at c;omega
end
end Go.Proofs.YtbfmmmjkjhjleaaGreatDoor
