/- Mine. -/
import Derived.Test.YtbfmmmjkjhjleaaGreatDoorC09
import Derived.Test.YtbfmmmjkjhjleaaGreatDoorC07
set_option maxRecDepth 100000
set_option maxHeartbeats 0
namespace Go.Proofs.YtbfmmmjkjhjleaaGreatDoor
open Go.Proofs.Tryz
variable {b G x:Nat} {st s1:RS} {W W0 w:World} {n:ByteArray} {cx:Array Value} {T:TypeId}
section
open Go.RowKit
theorem Aj(a c:Int)(s:ByteArray)(w:World):(Instr.field 115 (.agg #[.int .i64 a,.string s,.int .i64 c]) 1).run prog w=.ok (.string s) w:=by kernel_rfl
theorem L9(a c:Int)(s:ByteArray)(w:World):(Instr.field 115 (.agg #[.int .i64 a,.string s,.int .i64 c]) 2).run prog w=.ok (.int .i64 c) w:=by kernel_rfl
theorem qi(h:PI b G st W)(i:ed st=(n,s1)):
  Calls prog 118 #[.pointer (some ⟨b,0,none⟩)] W fun e W'=>e=.returned (.string n)/\PI b G s1 W'/\W.grownBy W' (some b):=by
 have k:=p9 h;obtain⟨t,s2,d⟩:∃t s2,fw 1 st=(t,s2):=⟨_,_,rfl⟩;have e:(t.text,s2)=(n,s1):=by rw[<-i];unfold ed;rw[d]
 injection e with f g
 have l:=p9 d;have a:=p9 f;have c:=p9 g;have m:=Aj t.kind t.val t.text;clear h i d f g;go_enter func118,ntmps118
 go_wp2_with fail;refine(DC k.o 1).mono ?_;rintro e p ⟨rfl,h1,g1⟩;rw[l.o] at h1⊢;have H1:=p9 h1;have j:=p9 g1;clear h1 g1;go_wp2_with fail;refine bodyPost_ret (v:=.string t.text) ?_ rfl ⟨by rw[a.o],by rw[<-c.o];exact H1.o,j.o⟩;simp[results,results118,go_sem]
theorem BK(h:PI b G st W)(i:dJ st=(n,s1)):
  Calls prog 163 #[.pointer (some ⟨b,0,none⟩)] W fun e W'=>e=.returned (.string n)/\PI b G s1 W'/\W.grownBy W' (some b):=by
 have k:=p9 h;obtain⟨t,s2,d⟩:∃t s2,fw 2 st=(t,s2):=⟨_,_,rfl⟩;have e:(t.text,s2)=(n,s1):=by rw[<-i];unfold dJ;rw[d]
 injection e with f g
 have l:=p9 d;have a:=p9 f;have c:=p9 g;have m:=Aj t.kind t.val t.text;clear h i d f g;go_enter func163,ntmps163
 go_wp2_with fail;refine(DC k.o 2).mono ?_;rintro e p ⟨rfl,h1,g1⟩;rw[l.o] at h1⊢;have H1:=p9 h1;have j:=p9 g1;clear h1 g1;go_wp2_with fail;refine bodyPost_ret (v:=.string t.text) ?_ rfl ⟨by rw[a.o],by rw[<-c.o];exact H1.o,j.o⟩;simp[results,results163,go_sem]
theorem mZ{lo hi n:Int}(h:PI b G st W)(w:cW lo hi st=(n,s1)):
  Calls prog 223 #[.pointer (some ⟨b,0,none⟩),.int .i64 lo,.int .i64 hi] W fun e W'=>e=.returned (.int .i64 n)/\PI b G s1 W'/\W.grownBy W' (some b):=by
 have m:=p9 h;obtain⟨t,s2,q⟩:∃t s2,fw 4 st=(t,s2):=⟨_,_,rfl⟩;have e:(t.val,if t.val<lo\/hi<t.val then eh else s2)=(n,s1):=by rw[<-w];unfold cW;rw[q]
 injection e with s u
 have p:=p9 q;have a:=p9 s;have c:=p9 u;have y:=L9 t.kind t.val t.text;clear h w q s u;by_cases j:t.val<lo
 ·have f:qv (s1=eh):=by show _=_;rw[<-c.o,a8 (ad j)]
  go_enter func223,ntmps223
  go_wp2_with fail;refine(DC m.o 4).mono ?_;rintro e r ⟨rfl,h1,g1⟩;rw[p.o] at h1⊢;have H1:=p9 h1;have d:=p9 g1;clear h1 g1;go_wp2_with fail;refine(qj H1.o).mono ?_;rintro e x ⟨rfl,g,g2⟩;have l:=p9 g;have k:=p9 g2;clear g g2;go_wp2_with fail;refine bodyPost_ret (v:=.int .i64 t.val) ?_ rfl ⟨by rw[a.o],by rw[f.o];exact l.o,ay d.o k.o⟩;simp[results,results223,go_sem]
 ·by_cases i:hi<t.val
  ·have f:qv (s1=eh):=by show _=_;rw[<-c.o,a8 (a6 i)]
   go_enter func223,ntmps223
   go_wp2_with fail;refine(DC m.o 4).mono ?_;rintro e r ⟨rfl,h1,g1⟩;rw[p.o] at h1⊢;have H1:=p9 h1;have d:=p9 g1;clear h1 g1;go_wp2_with fail;refine(qj H1.o).mono ?_;rintro e x ⟨rfl,g,g2⟩;have l:=p9 g;have k:=p9 g2;clear g g2;go_wp2_with fail;refine bodyPost_ret (v:=.int .i64 t.val) ?_ rfl ⟨by rw[a.o],by rw[f.o];exact l.o,ay d.o k.o⟩;simp[results,results223,go_sem]
  ·have f:qv (s1=s2):=by show _=_;rw[<-c.o,bk (by rintro (e|e);exact j e;exact i e)]
   go_enter func223,ntmps223
   go_wp2_with fail;refine(DC m.o 4).mono ?_;rintro e r ⟨rfl,h1,g1⟩;rw[p.o] at h1⊢;have H1:=p9 h1;have d:=p9 g1;clear h1 g1;go_wp2_with fail;refine bodyPost_ret (v:=.int .i64 t.val) ?_ rfl ⟨by rw[a.o],by rw[f.o];exact H1.o,d.o⟩;simp[results,results223,go_sem]
theorem Sm(h:PI b G st W):
  Calls prog 76 #[.pointer (some ⟨b,0,none⟩)] W fun e W'=>e=.returned (.bool (!st.bad&&st.rest.isEmpty))/\W'=W:=by
 obtain⟨ao,c,g,j,k⟩:=h.box;have d:=g.at_ 0 (.slice ao st.rest.length c) rfl;have c1:=g.at_ 1 (.bool st.bad) rfl;clear k h j g;cases a:st.bad with
 | true=>
  rw[a] at c1;go_enter func76,ntmps76
  go_wp2_with fail;refine bodyPost_ret (v:=.bool false) ?_ rfl ⟨rfl,rfl⟩;simp[results,results76,go_sem]
 | false=>
  rw[a] at c1;cases i:st.rest with
  | nil=>
   rw[i] at d;have f:W.cell? ⟨b,0,none⟩=some (.slice ao 0 c):=d;clear d;go_enter func76,ntmps76
   go_wp2_with fail;refine bodyPost_ret (v:=.bool true) ?_ rfl ⟨rfl,rfl⟩;simp[results,results76,go_sem]
  | cons t r=>
   rw[i] at d;have f:W.cell? ⟨b,0,none⟩=some (.slice ao (r.length+1) c):=d;clear d;go_enter func76,ntmps76
   go_wp2_with fail;refine bodyPost_ret (v:=.bool false) ?_ rfl ⟨rfl,rfl⟩;simp[results,results76,go_sem]
   try omega
structure PX(W0:World)(b G:Nat)(st:RS)(x:Nat)(cx:Array Value)(T:TypeId)(w:World):Prop where
 p:PI b G st w
 lx:Loc w x cx T
 nx:W0.heap.size<=x
 xb:x≠b
 xg:x≠G
 grown:W0.grownBy w (some b)
theorem PX.start(h:PI b G st W)(a:Array Value)(T:TypeId):PX W b G st W.heap.size a T (W.alloc (.cells a T)):=
 ⟨h.quiet (aD W _ none),Loc.new W a T,rm _,fun e=>(h.ne (rm _)).1 e.symm,fun e=>(h.ne (rm _)).2 e.symm,aD W _ _⟩
theorem PX.call{c:World}{a:RS}(h:PX W0 b G st x cx T w)(h1:PI b G a c)(g1:w.grownBy c (some b)):PX W0 b G a x cx T c:=
 ⟨h1,h.lx.grown g1 (by intro e;injection e with e;exact h.xb e),h.nx,h.xb,h.xg,ay h.grown g1⟩
theorem PX.set{W0 w:World}{b G x:Nat}{st:RS}{a:Array Value}{T:TypeId}(h:PX W0 b G st x a T w)(j:Nat)(u:Value):PX W0 b G st x (a.setIfInBounds j u) T (w.setCell ⟨x,j,none⟩ u):=
 ⟨h.p.kept (aE w x j u) (by intro e;injection e with e;exact h.xb e.symm) (by intro e;injection e with e;exact h.xg e.symm),h.lx.set j u,h.nx,h.xb,h.xg,bU h.grown h.nx j u⟩
theorem Bk{k:ByteArray}(h:PI b G st W)(j:j9 st=((n,k),s1)):
  Calls prog 173 #[.pointer (some ⟨b,0,none⟩)] W fun e W'=>e=.returned (.tuple #[.string n,.string k])/\PI b G s1 W'/\W.grownBy W' (some b):=by
 have t:=p9 h;obtain⟨n',c,f⟩:∃n' c,ed st=(n',c):=⟨_,_,rfl⟩;obtain⟨a,a2,hk⟩:∃a a2,ed (aM eN c)=(a,a2):=⟨_,_,rfl⟩;have e:((n',a),a2)=((n,k),s1):=by rw[<-j];unfold j9;simp only[f,hk]
 injection e with d x
 injection d with d w
 subst d;subst w;subst x;have s:=p9 f;have u:=p9 hk;clear h j f hk;go_enter func173,ntmps173
 go_wp2_with fail;refine(qi t.o s.o).mono ?_;rintro e y ⟨rfl,h1,g1⟩;have H1:=p9 h1;have l:=p9 g1;clear h1 g1;go_wp2_with fail;refine(fj H1.o eN).mono ?_;rintro e z ⟨rfl,g,g2⟩;have q:=p9 g;have m:=p9 (ay l.o g2);clear g g2;go_wp2_with fail;refine(qi q.o u.o).mono ?_;rintro e A ⟨rfl,i,g3⟩;have r:=p9 i;have p:=p9 (ay m.o g3);clear i g3;go_wp2_with fail;refine bodyPost_ret (v:=.tuple #[.string n',.string a]) ?_ rfl ⟨rfl,r.o,p.o⟩;simp[results,results173,go_sem]
theorem Qp{r:bm}(h:PI b G st W)(t:gW st=(r,s1)):
  Calls prog 165 #[.pointer (some ⟨b,0,none⟩)] W fun e W'=>e=.returned (.agg #[.string r.key,.int .i64 r.val])/\PI b G s1 W'/\W.grownBy W' (some b):=by
 have c:=p9 (PX.start h #[.string ⟨#[]⟩,.int .i64 0] 120);obtain⟨n',k,l⟩:∃n' k,ed st=(n',k):=⟨_,_,rfl⟩;obtain⟨a,a2,hk⟩:∃a a2,cW (-1000000000) 1000000000 (aM cD k)=(a,a2):=⟨_,_,rfl⟩;have e:((⟨n',a⟩:bm),a2)=(r,s1):=by rw[<-t];unfold gW;simp only[l,hk]
 injection e with z A
 subst z;subst A;have x:=p9 l;have y:=p9 hk;clear h t l hk;go_enter func165,ntmps165
 go_wp2_with fail;obtain⟨X,s⟩:∃X,X=W.heap.size:=⟨_,rfl⟩;rw[<-s] at c⊢;clear s;generalize W.alloc (.cells #[.string ⟨#[]⟩,.int .i64 0] 120)=B at c⊢;refine(qi c.o.p x.o).mono ?_;rintro e C ⟨rfl,m,g2⟩;have g:=p9 (c.o.call m g2);clear m g2 c;go_wp2_with fail;refine(fj g.o.p cD).mono ?_;rintro e D ⟨rfl,n,g3⟩;have i:=p9 (g.o.call n g3);clear n g3 g;go_wp2_with fail;refine(mZ i.o.p y.o).mono ?_;rintro e j ⟨rfl,q,g4⟩;have d:=p9 (i.o.call q g4);clear q g4 i;have E:=d.o.lx.at_ 0 (.string ⟨#[]⟩) rfl;have f0:j.frozen? ⟨X,0,none⟩=false:=d.o.lx.free 0;have c1:=d.o.lx.at_ 1 (.int .i64 0) rfl;have f1:j.frozen? ⟨X,1,none⟩=false:=d.o.lx.free 1;go_wp2_with fail;have f:=((d.o.set 0 (.string n')).set 1 (.int .i64 a));generalize ((j.setCell ⟨X,0,none⟩ (.string n')).setCell ⟨X,1,none⟩ (.int .i64 a))=WF at f⊢;refine bodyPost_ret (v:=.agg #[.string n',.int .i64 a]) ?_ rfl ⟨rfl,f.p,f.grown⟩;have u:=f.lx.cell 0;have w:=f.lx.cell 1;simp at u w;simp[results,results165,go_sem,u,w]
theorem MV{r:gP}(h:PI b G st W)(t:fJ st=(r,s1)):
  Calls prog 170 #[.pointer (some ⟨b,0,none⟩)] W fun e W'=>e=.returned (.agg #[.string r.name,.string r.key,.int .i64 r.val])/\PI b G s1 W'/\W.grownBy W' (some b):=by
 have d:=p9 (PX.start h #[.string ⟨#[]⟩,.string ⟨#[]⟩,.int .i64 0] 46);cases hm:jG 4 st with
 | true=>
  obtain⟨j,a2,hk⟩:∃j a2,cW (-1000000000) 1000000000 st=(j,a2):=⟨_,_,rfl⟩;have e:((⟨⟨#[]⟩,⟨#[]⟩,j⟩:gP),a2)=(r,s1):=by rw[<-t];unfold fJ;rw[hm];simp only[hk];rfl
  injection e with x y
  subst x;subst y;have w:=p9 hm;have u:=p9 hk;clear h t hm hk;go_enter func170,ntmps170
  go_wp2_with fail;obtain⟨X,m⟩:∃X,X=W.heap.size:=⟨_,rfl⟩;rw[<-m] at d⊢;clear m;generalize W.alloc (.cells #[.string ⟨#[]⟩,.string ⟨#[]⟩,.int .i64 0] 46)=z at d⊢;refine(IJ d.o.p 4 true w.o).mono ?_;rintro e A ⟨rfl,k,g2⟩;have g:=p9 (d.o.call k g2);clear k g2 d;go_wp2_with fail;refine(mZ g.o.p u.o).mono ?_;rintro e f ⟨rfl,l,g4⟩;have a:=p9 (g.o.call l g4);clear l g4 g;have B:=a.o.lx.at_ 0 (.string ⟨#[]⟩) rfl;have f0:f.frozen? ⟨X,0,none⟩=false:=a.o.lx.free 0;have c1:=a.o.lx.at_ 1 (.string ⟨#[]⟩) rfl;have f1:f.frozen? ⟨X,1,none⟩=false:=a.o.lx.free 1;have c2:=a.o.lx.at_ 2 (.int .i64 0) rfl;have f2:f.frozen? ⟨X,2,none⟩=false:=a.o.lx.free 2;go_wp2_with fail;have c:=(((a.o.set 0 (.string ⟨#[]⟩)).set 1 (.string ⟨#[]⟩)).set 2 (.int .i64 j));generalize (((f.setCell ⟨X,0,none⟩ (.string ⟨#[]⟩)).setCell ⟨X,1,none⟩ (.string ⟨#[]⟩)).setCell ⟨X,2,none⟩ (.int .i64 j))=WF at c⊢;refine bodyPost_ret (v:=.agg #[.string ⟨#[]⟩,.string ⟨#[]⟩,.int .i64 j]) ?_ rfl ⟨rfl,c.p,c.grown⟩;have n:=c.lx.cell 0;have q:=c.lx.cell 1;have s:=c.lx.cell 2;simp at n q s;simp[results,results170,go_sem,n,q,s]
 | false=>
  obtain⟨n',i,a2,hk⟩:∃n' i a2,j9 st=((n',i),a2):=⟨_,_,_,rfl⟩;have e:((⟨n',i,0⟩:gP),a2)=(r,s1):=by rw[<-t];unfold fJ;rw[hm];simp only[hk];rfl
  injection e with x y
  subst x;subst y;have w:=p9 hm;have u:=p9 hk;clear h t hm hk;go_enter func170,ntmps170
  go_wp2_with fail;obtain⟨X,m⟩:∃X,X=W.heap.size:=⟨_,rfl⟩;rw[<-m] at d⊢;clear m;generalize W.alloc (.cells #[.string ⟨#[]⟩,.string ⟨#[]⟩,.int .i64 0] 46)=z at d⊢;refine(IJ d.o.p 4 false w.o).mono ?_;rintro e A ⟨rfl,k,g2⟩;have g:=p9 (d.o.call k g2);clear k g2 d;go_wp2_with fail;refine(Bk g.o.p u.o).mono ?_;rintro e f ⟨rfl,l,g4⟩;have a:=p9 (g.o.call l g4);clear l g4 g;have B:=a.o.lx.at_ 0 (.string ⟨#[]⟩) rfl;have f0:f.frozen? ⟨X,0,none⟩=false:=a.o.lx.free 0;have c1:=a.o.lx.at_ 1 (.string ⟨#[]⟩) rfl;have f1:f.frozen? ⟨X,1,none⟩=false:=a.o.lx.free 1;have c2:=a.o.lx.at_ 2 (.int .i64 0) rfl;have f2:f.frozen? ⟨X,2,none⟩=false:=a.o.lx.free 2;go_wp2_with fail;have c:=(((a.o.set 0 (.string n')).set 1 (.string i)).set 2 (.int .i64 0));generalize (((f.setCell ⟨X,0,none⟩ (.string n')).setCell ⟨X,1,none⟩ (.string i)).setCell ⟨X,2,none⟩ (.int .i64 0))=WF at c⊢;refine bodyPost_ret (v:=.agg #[.string n',.string i,.int .i64 0]) ?_ rfl ⟨rfl,c.p,c.grown⟩;have n:=c.lx.cell 0;have q:=c.lx.cell 1;have s:=c.lx.cell 2;simp at n q s;simp[results,results170,go_sem,n,q,s]
structure zF(W0:World)(b G:Nat)(st:RS)(x:Nat)(cx:Array Value)(T:TypeId)(y:Nat)(cy:Array Value)(T':TypeId)(w:World):Prop where
 q:PX W0 b G st x cx T w
 ly:Loc w y cy T'
 ny:W0.heap.size<=y
 yb:y≠b
 yg:y≠G
 yx:y≠x
theorem PX.more{W0 w:World}{b G x:Nat}{st:RS}{d:Array Value}{T:TypeId}(h:PX W0 b G st x d T w)(c:Array Value)(a:TypeId):zF W0 b G st x d T w.heap.size c a (w.alloc (.cells c a)):=by
 have g:=aD w (.cells c a) none;have i:=h.grown.size;have j:=h.lx.lt;have f:=h.p.ne (rm w.heap.size);exact⟨⟨h.p.quiet g,h.lx.grown g (by simp),h.nx,h.xb,h.xg,ay h.grown (aD w _ _)⟩,Loc.new w c a,i,fun e=>f.1 e.symm,fun e=>f.2 e.symm,by omega⟩
section
variable {W0 w w':World} {b G x y:Nat} {st st':RS} {cx cy:Array Value} {T T':TypeId}
theorem zF.call(h:zF W0 b G st x cx T y cy T' w)(h1:PI b G st' w')(g1:w.grownBy w' (some b)):zF W0 b G st' x cx T y cy T' w':=
 ⟨h.q.call h1 g1,h.ly.grown g1 (by intro e;injection e with e;exact h.yb e),h.ny,h.yb,h.yg,h.yx⟩
theorem zF.fS(h:zF W0 b G st x cx T y cy T' w)(j:Nat)(u:Value):zF W0 b G st x cx T y (cy.setIfInBounds j u) T' (w.setCell ⟨y,j,none⟩ u):=
 ⟨⟨h.q.p.kept (aE w y j u) (by intro e;injection e with e;exact h.yb e.symm) (by intro e;injection e with e;exact h.yg e.symm),h.q.lx.aY (fun e=>h.yx e.symm) j u,h.q.nx,h.q.xb,h.q.xg,bU h.q.grown h.ny j u⟩,h.ly.set j u,h.ny,h.yb,h.yg,h.yx⟩
theorem zF.eX(h:zF W0 b G st x cx T y cy T' w)(j:Nat)(u:Value):zF W0 b G st x (cx.setIfInBounds j u) T y cy T' (w.setCell ⟨x,j,none⟩ u):=
 ⟨h.q.set j u,h.ly.aY h.yx j u,h.ny,h.yb,h.yg,h.yx⟩
end
theorem Qc{r:aZ}(h:PI b G st W)(t:ja st=(r,s1)):
  Calls prog 226 #[.pointer (some ⟨b,0,none⟩)] W fun e W'=>e=.returned (.agg #[.string r.name,.string r.key])/\PI b G s1 W'/\W.grownBy W' (some b):=by
 have c:=p9 (PX.start h #[.string ⟨#[]⟩,.string ⟨#[]⟩] 129);cases hm:aP iw st with
 | true=>
  have e:((⟨⟨#[]⟩,⟨#[]⟩⟩:aZ),ar iw st)=(r,s1):=by rw[<-t];unfold ja;rw[hm];rfl
  injection e with A B
  subst A;subst B;have I:=p9 hm;clear h t hm;go_enter func226,ntmps226
  go_wp2_with fail;obtain⟨X,k⟩:∃X,X=W.heap.size:=⟨_,rfl⟩;rw[<-k] at c⊢;clear k;generalize W.alloc (.cells #[.string ⟨#[]⟩,.string ⟨#[]⟩] 129)=x at c⊢;refine(bg c.o.p iw true I.o).mono ?_;rintro e y ⟨rfl,h,g⟩;have H1:=p9 (c.o.call h g);clear h g c;have x0:=H1.o.lx.at_ 0 (.string ⟨#[]⟩) rfl;have g0:y.frozen? ⟨X,0,none⟩=false:=H1.o.lx.free 0;have x1:=H1.o.lx.at_ 1 (.string ⟨#[]⟩) rfl;have g1:y.frozen? ⟨X,1,none⟩=false:=H1.o.lx.free 1;go_wp2_with fail;have a:=((H1.o.set 0 (.string ⟨#[]⟩)).set 1 (.string ⟨#[]⟩));generalize ((y.setCell ⟨X,0,none⟩ (.string ⟨#[]⟩)).setCell ⟨X,1,none⟩ (.string ⟨#[]⟩))=WF at a⊢;refine bodyPost_ret (v:=.agg #[.string ⟨#[]⟩,.string ⟨#[]⟩]) ?_ rfl ⟨rfl,a.p,a.grown⟩;have l:=a.lx.cell 0;have m:=a.lx.cell 1;simp at l m;simp[results,results226,go_sem,l,m]
 | false=>
  obtain⟨n',n,D⟩:∃n' n,ed st=(n',n):=⟨_,_,rfl⟩;have I:=p9 hm;have L:=p9 D;have E:ar iw st=st:=by unfold ar;rw[hm];rfl
  have w:=p9 E;clear E;cases s:aP eN n with
  | false=>
   have e:((⟨n',⟨#[]⟩⟩:aZ),n)=(r,s1):=by rw[<-t];unfold ja;rw[hm];simp only[D,s];rfl
   injection e with A B
   subst A;subst B;have H:=p9 s;clear h t hm D s;go_enter func226,ntmps226
   go_wp2_with fail;obtain⟨X,k⟩:∃X,X=W.heap.size:=⟨_,rfl⟩;rw[<-k] at c⊢;clear k;generalize W.alloc (.cells #[.string ⟨#[]⟩,.string ⟨#[]⟩] 129)=x at c⊢;refine(bg c.o.p iw false I.o).mono ?_;rintro e y ⟨rfl,h,g⟩;have H1:=p9 (c.o.call h g);clear h g c;rw[w.o] at H1;go_wp2_with fail;refine(qi H1.o.p L.o).mono ?_;rintro e z ⟨rfl,h,g⟩;have u:=p9 (H1.o.call h g);clear h g H1;have f:=p9 (u.o.more #[.string n',.string ⟨#[]⟩] 129);clear u;go_wp2_with fail;obtain⟨Y,C⟩:∃Y,Y=z.heap.size:=⟨_,rfl⟩;rw[<-C] at f⊢;clear C;generalize z.alloc (.cells #[.string n',.string ⟨#[]⟩] 129)=O at f⊢;refine(bg f.o.q.p eN false H.o).mono ?_;rintro e J ⟨rfl,h,g⟩;have d:=p9 (f.o.call h g);clear h g f;rw[show ar eN n=n by unfold ar;rw[H.o];rfl] at d;have x0:=d.o.q.lx.at_ 0 (.string ⟨#[]⟩) rfl;have g0:J.frozen? ⟨X,0,none⟩=false:=d.o.q.lx.free 0;have x1:=d.o.q.lx.at_ 1 (.string ⟨#[]⟩) rfl;have g1:J.frozen? ⟨X,1,none⟩=false:=d.o.q.lx.free 1;have P:=d.o.ly.at_ 0 (.string n') rfl;have Q:=d.o.ly.at_ 1 (.string ⟨#[]⟩) rfl;go_wp2_with fail;have a:=((d.o.eX 0 (.string n')).eX 1 (.string ⟨#[]⟩)).q;generalize ((J.setCell ⟨X,0,none⟩ (.string n')).setCell ⟨X,1,none⟩ (.string ⟨#[]⟩))=WF at a⊢;refine bodyPost_ret (v:=.agg #[.string n',.string ⟨#[]⟩]) ?_ rfl ⟨rfl,a.p,a.grown⟩;have l:=a.lx.cell 0;have m:=a.lx.cell 1;simp at l m;simp[results,results226,go_sem,l,m]
  | true=>
   obtain⟨i,a2,hk⟩:∃i a2,ed (ar eN n)=(i,a2):=⟨_,_,rfl⟩;have e:((⟨n',i⟩:aZ),a2)=(r,s1):=by rw[<-t];unfold ja;rw[hm];simp only[D,s,hk];rfl
   injection e with A B
   subst A;subst B;have H:=p9 s;have N:=p9 hk;clear h t hm D s hk;go_enter func226,ntmps226
   go_wp2_with fail;obtain⟨X,k⟩:∃X,X=W.heap.size:=⟨_,rfl⟩;rw[<-k] at c⊢;clear k;generalize W.alloc (.cells #[.string ⟨#[]⟩,.string ⟨#[]⟩] 129)=x at c⊢;refine(bg c.o.p iw false I.o).mono ?_;rintro e y ⟨rfl,h,g⟩;have H1:=p9 (c.o.call h g);clear h g c;rw[w.o] at H1;go_wp2_with fail;refine(qi H1.o.p L.o).mono ?_;rintro e z ⟨rfl,h,g⟩;have u:=p9 (H1.o.call h g);clear h g H1;have f:=p9 (u.o.more #[.string n',.string ⟨#[]⟩] 129);clear u;go_wp2_with fail;obtain⟨Y,C⟩:∃Y,Y=z.heap.size:=⟨_,rfl⟩;rw[<-C] at f⊢;clear C;generalize z.alloc (.cells #[.string n',.string ⟨#[]⟩] 129)=O at f⊢;refine(bg f.o.q.p eN true H.o).mono ?_;rintro e J ⟨rfl,h,g⟩;have d:=p9 (f.o.call h g);clear h g f;go_wp2_with fail;refine(qi d.o.q.p N.o).mono ?_;rintro e M ⟨rfl,h,g⟩;have F:=p9 (d.o.call h g);clear h g d;have c1:=F.o.ly.at_ 1 (.string ⟨#[]⟩) rfl;have f1:M.frozen? ⟨Y,1,none⟩=false:=F.o.ly.free 1;have j:=p9 (F.o.fS 1 (.string i));clear F;go_upto_region 6 with fail;generalize (M.setCell ⟨Y,1,none⟩ (.string i))=K at j⊢;clear c1 f1;have x0:=j.o.q.lx.at_ 0 (.string ⟨#[]⟩) rfl;have g0:K.frozen? ⟨X,0,none⟩=false:=j.o.q.lx.free 0;have x1:=j.o.q.lx.at_ 1 (.string ⟨#[]⟩) rfl;have g1:K.frozen? ⟨X,1,none⟩=false:=j.o.q.lx.free 1;have P:=j.o.ly.at_ 0 (.string n') rfl;have Q:=j.o.ly.at_ 1 (.string i) rfl;go_wp2_with fail;have a:=((j.o.eX 0 (.string n')).eX 1 (.string i)).q;generalize ((K.setCell ⟨X,0,none⟩ (.string n')).setCell ⟨X,1,none⟩ (.string i))=WF at a⊢;refine bodyPost_ret (v:=.agg #[.string n',.string i]) ?_ rfl ⟨rfl,a.p,a.grown⟩;have l:=a.lx.cell 0;have m:=a.lx.cell 1;simp at l m;simp[results,results226,go_sem,l,m]
section
variable {W0 w:World} {b G x y:Nat} {st:RS} {cx cy new:Array Value} {T T':TypeId} {o:Nat} {l:List Value}
theorem P6{a b c:World}{r:Option Nat}{x:Nat}(h:a.grownBy b r)(k:b.grownBy c (some x))(d:a.heap.size<=x):a.grownBy c r:=
 ⟨k.os.trans h.os,k.tape.trans h.tape,k.output.trans h.output,r8 h.size k.size,fun j hj hne=>(k.block j (vH hj h.size) (fun e=>by have:=Bm e;omega)).trans (h.block j hj hne)⟩
theorem PX.G9(h:PX W0 b G st x cx T w)(a:Loc (w.setCells x o l) x new T):PX W0 b G st x new T (w.setCells x o l):=
 ⟨h.p.kept (aU x l o w) (fun e=>h.xb (Bm e).symm) (fun e=>h.xg (Bm e).symm),a,h.nx,h.xb,h.xg,P6 h.grown (aU x l o w) h.nx⟩
theorem zF.swap(h:zF W0 b G st x cx T y cy T' w):zF W0 b G st y cy T' x cx T w:=⟨⟨h.q.p,h.ly,h.ny,h.yb,h.yg,h.q.grown⟩,h.q.lx,h.q.nx,h.q.xb,h.q.xg,fun e=>h.yx e.symm⟩
theorem zF.copy(h:zF W0 b G st x cx T y cy T w)(a:cy.size=cx.size):PX W0 b G st x cy T (w.setCells x 0 cy.toList):=h.q.G9 (h.q.lx.fC a)
theorem zF.G9(h:zF W0 b G st x cx T y cy T' w)(a:Loc (w.setCells y o l) y new T'):zF W0 b G st x cx T y new T' (w.setCells y o l):=
 zF.swap ⟨h.swap.q.G9 a,h.q.lx.grown (aU y l o w) (fun e=>h.yx (Bm e).symm),h.q.nx,h.q.xb,h.q.xg,fun e=>h.yx e.symm⟩
end
theorem Tryz.jd:(prog.info? 191).map (·.size)=some 5:=by kernel_rfl
theorem CJ(a b c:ByteArray)(d e:Int):(#[.string a,.string b,.string c,.int .i64 d,.int .i64 e]:Array Value).all (·.oneCell')=true:=by simp[Value.oneCell']
theorem S3{r:aK}(h:PI b G st W)(D:jr st=(r,s1)):
  Calls prog 169 #[.pointer (some ⟨b,0,none⟩)] W fun e W'=>e=.returned (.agg #[.string r.name,.string r.ai,.string r.type,.int .i64 r.least,.int .i64 r.bq])/\PI b G s1 W'/\W.grownBy W' (some b):=by
 have i:=p9 (PX.start h #[.string ⟨#[]⟩,.string ⟨#[]⟩,.string ⟨#[]⟩,.int .i64 0,.int .i64 0] 191);obtain⟨k,c,C⟩:∃n' c,dJ st=(n',c):=⟨_,_,rfl⟩;have u:=p9 C;have A:=p9 D;clear h D C;go_enter func169,ntmps169
 go_wp2_with fail;generalize W.alloc (.cells #[.string ⟨#[]⟩,.string ⟨#[]⟩,.string ⟨#[]⟩,.int .i64 0,.int .i64 0] 191)=H at i⊢;generalize W.heap.size=X at i⊢;refine(BK i.o.p u.o).mono ?_;rintro e B ⟨rfl,h,g⟩;have j:=p9 ((i.o.call h g).more #[.string ⟨#[]⟩,.string ⟨#[]⟩,.string k,.int .i64 1,.int .i64 1] 191);clear h g;go_wp2_with fail;generalize B.alloc (.cells #[.string ⟨#[]⟩,.string ⟨#[]⟩,.string k,.int .i64 1,.int .i64 1] 191)=O at j⊢;generalize B.heap.size=Y at j⊢;cases hm:aP eP c
 all_goals
  have z:=p9 hm;refine(bg j.o.q.p eP _ z.o).mono ?_;rintro e P ⟨rfl,h,g⟩;have f:=p9 (j.o.call h g);clear h g;go_wp2_with fail
 ·rw[show ar eP c=c by unfold ar;rw[z.o];rfl] at f;have v:qv (((⟨⟨#[]⟩,⟨#[]⟩,k,1,1⟩:aK),aM dy c)=(r,s1)):=by show _=_;rw[<-A.o];unfold jr my;simp only[u.o,hm];rfl
  clear hm;refine(fj f.o.q.p dy).mono ?_;rintro e K ⟨rfl,h,g⟩;have a:=p9 (f.o.call h g);clear h g;go_upto_region 7 with fail;refine wp_region_lit ?_;refine wpList_load_mid rfl 191 _ rfl Y 0 rfl _ _ a.o.ly.range underlying191 rfl Tryz.jd ?_;refine wpList_store_mid rfl 191 _ _ rfl X 0 _ rfl rfl a.o.q.lx.there Tryz.jd (CJ _ _ _ _ _) ?_;have d:=a.o.copy rfl;injection v.o with w x
  subst w x;go_wp2_with fail;exact bodyPost_ret (ry results169 rfl d.lx underlying191 rfl Tryz.jd) rfl ⟨rfl,d.p,d.grown⟩
 ·obtain⟨lo,a2,hk⟩:∃k' a2,cW 0 4 (ar eP c)=(k',a2):=⟨_,_,rfl⟩;obtain⟨hi,a3,y⟩:∃k' az,cW lo 4 (aM lW a2)=(k',az):=⟨_,_,rfl⟩;have v:qv (((⟨⟨#[]⟩,⟨#[]⟩,k,lo,hi⟩:aK),aM dy a3)=(r,s1)):=by show _=_;rw[<-A.o];unfold jr my;simp only[u.o,hm,hk,y];rfl
  have F:=p9 hk;have E:=p9 y;clear hm hk y;refine(mZ f.o.q.p F.o).mono ?_;rintro e I ⟨rfl,h,g⟩;have l:=p9 (f.o.call h g);clear h g;have L:=l.o.ly.at_ 3 (.int .i64 1) rfl;have f3:=l.o.ly.free 3;go_wp2_with fail;have m:=p9 (l.o.fS 3 (.int .i64 lo));generalize I.setCell ⟨Y,3,none⟩ (.int .i64 lo)=Q at m⊢;clear L f3;refine(fj m.o.q.p lW).mono ?_;rintro e R ⟨rfl,h,g⟩;have n:=p9 (m.o.call h g);clear h g;have N:=n.o.ly.at_ 3 (.int .i64 lo) rfl;go_wp2_with fail;refine(mZ n.o.q.p E.o).mono ?_;rintro e J ⟨rfl,h,g⟩;have s:=p9 (n.o.call h g);clear h g N;have M:=s.o.ly.at_ 4 (.int .i64 1) rfl;have f4:=s.o.ly.free 4;go_wp2_with fail;have t:=p9 (s.o.fS 4 (.int .i64 hi));generalize J.setCell ⟨Y,4,none⟩ (.int .i64 hi)=S at t⊢;clear M f4;refine(fj t.o.q.p dy).mono ?_;rintro e K ⟨rfl,h,g⟩;have a:=p9 (t.o.call h g);clear h g;go_upto_region 7 with fail;refine wp_region_lit ?_;refine wpList_load_mid rfl 191 _ rfl Y 0 rfl _ _ a.o.ly.range underlying191 rfl Tryz.jd ?_;refine wpList_store_mid rfl 191 _ _ rfl X 0 _ rfl rfl a.o.q.lx.there Tryz.jd (CJ _ _ _ _ _) ?_;have d:=a.o.copy rfl;injection v.o with w x
  subst w x;go_wp2_with fail;exact bodyPost_ret (ry results169 rfl d.lx underlying191 rfl Tryz.jd) rfl ⟨rfl,d.p,d.grown⟩
end
section
open Go.RowKit
theorem zF.start(h:PI b G st W)(d:Array Value)(T:TypeId)(c:Array Value)(a:TypeId):zF W b G st (W.heap.size+1) d T W.heap.size c a ((W.alloc (.cells c a)).alloc (.cells d T)):=by
 have g1:=aD W (.cells c a) none;have s1:(W.alloc (.cells c a)).heap.size=W.heap.size+1:=by simp
 have i:=Loc.new W c a;have g:=aD W (.cells c a) (some b);have n0:=h.ne (rm W.heap.size);have k:=h.ne (show W.heap.size<=W.heap.size+1 by omega);generalize W.alloc (.cells c a)=f at g1 s1 i g⊢;have g2:=aD f (.cells d T) none;have l:=aD f (.cells d T) (some b);have j:=Loc.new f d T;rw[s1] at j;exact⟨⟨(h.quiet g1).quiet g2,j,by omega,fun e=>k.1 e.symm,fun e=>k.2 e.symm,ay g l⟩,i.grown g2 (by simp),rm _,fun e=>n0.1 e.symm,fun e=>n0.2 e.symm,by omega⟩
theorem MY{q r:aK}(h:PI b G st W)(z:dA q st=(r,s1)):
  Calls prog 168 #[.pointer (some ⟨b,0,none⟩),.agg #[.string q.name,.string q.ai,.string q.type,.int .i64 q.least,.int .i64 q.bq]] W fun e W'=>e=.returned (.agg #[.string r.name,.string r.ai,.string r.type,.int .i64 r.least,.int .i64 r.bq])/\PI b G s1 W'/\W.grownBy W' (some b):=by
 have d:=p9 (zF.start h #[.string ⟨#[]⟩,.string ⟨#[]⟩,.string ⟨#[]⟩,.int .i64 0,.int .i64 0] 191 #[.string q.name,.string q.ai,.string q.type,.int .i64 q.least,.int .i64 q.bq] 191);obtain⟨n',i,y⟩:∃n' az,ed (aM bO st)=(n',az):=⟨_,_,rfl⟩;have n:=p9 y;have x:=p9 z;clear h z y;go_enter func168,ntmps168
 go_wp2_with fail;generalize (W.alloc (.cells #[.string q.name,.string q.ai,.string q.type,.int .i64 q.least,.int .i64 q.bq] 191)).alloc (.cells #[.string ⟨#[]⟩,.string ⟨#[]⟩,.string ⟨#[]⟩,.int .i64 0,.int .i64 0] 191)=B at d⊢;generalize W.heap.size+1=X at d⊢;generalize W.heap.size=Y at d⊢;refine(fj d.o.q.p bO).mono ?_;rintro e H ⟨rfl,h,g⟩;have H1:=p9 (d.o.call h g);clear h g;go_wp2_with fail;refine(qi H1.o.q.p n.o).mono ?_;rintro e C ⟨rfl,h,g⟩;have j:=p9 (H1.o.call h g);clear h g;have F:=j.o.ly.at_ 0 (.string q.name) rfl;have f0:=j.o.ly.free 0;go_wp2_with fail;have k:=p9 (j.o.fS 0 (.string n'));generalize C.setCell ⟨Y,0,none⟩ (.string n')=I at k⊢;clear F f0;cases hm:aP cD i
 all_goals
  have w:=p9 hm;refine(bg k.o.q.p cD _ w.o).mono ?_;rintro e J ⟨rfl,h,g⟩;have f:=p9 (k.o.call h g);clear h g;go_wp2_with fail
 ·rw[show ar cD i=i by unfold ar;rw[w.o];rfl] at f;have s:qv (((⟨n',q.ai,q.type,q.least,q.bq⟩:aK),aM bN i)=(r,s1)):=by show _=_;rw[<-x.o];unfold dA;simp only[n.o,hm];rfl
  clear hm;refine(fj f.o.q.p bN).mono ?_;rintro e E ⟨rfl,h,g⟩;have a:=p9 (f.o.call h g);clear h g;go_upto_region 6 with fail;refine wp_region_lit ?_;refine wpList_load_mid rfl 191 _ rfl Y 0 rfl _ _ a.o.ly.range underlying191 rfl Tryz.jd ?_;refine wpList_store_mid rfl 191 _ _ rfl X 0 _ rfl rfl a.o.q.lx.there Tryz.jd (CJ _ _ _ _ _) ?_;have c:=a.o.copy rfl;injection s.o with t u
  subst t u;go_wp2_with fail;exact bodyPost_ret (ry results168 rfl c.lx underlying191 rfl Tryz.jd) rfl ⟨rfl,c.p,c.grown⟩
 ·obtain⟨v,a2,hk⟩:∃k' az,dJ (ar cD i)=(k',az):=⟨_,_,rfl⟩;have s:qv (((⟨n',v,q.type,q.least,q.bq⟩:aK),aM bN a2)=(r,s1)):=by show _=_;rw[<-x.o];unfold dA;simp only[n.o,hm,hk];rfl
  have A:=p9 hk;clear hm hk;refine(BK f.o.q.p A.o).mono ?_;rintro e D ⟨rfl,h,g⟩;have l:=p9 (f.o.call h g);clear h g;have c1:=l.o.ly.at_ 1 (.string q.ai) rfl;have f1:=l.o.ly.free 1;go_wp2_with fail;have m:=p9 (l.o.fS 1 (.string v));generalize D.setCell ⟨Y,1,none⟩ (.string v)=K at m⊢;clear c1 f1;refine(fj m.o.q.p bN).mono ?_;rintro e E ⟨rfl,h,g⟩;have a:=p9 (m.o.call h g);clear h g;go_upto_region 6 with fail;refine wp_region_lit ?_;refine wpList_load_mid rfl 191 _ rfl Y 0 rfl _ _ a.o.ly.range underlying191 rfl Tryz.jd ?_;refine wpList_store_mid rfl 191 _ _ rfl X 0 _ rfl rfl a.o.q.lx.there Tryz.jd (CJ _ _ _ _ _) ?_;have c:=a.o.copy rfl;injection s.o with t u
  subst t u;go_wp2_with fail;exact bodyPost_ret (ry results168 rfl c.lx underlying191 rfl Tryz.jd) rfl ⟨rfl,c.p,c.grown⟩
theorem IE(w:World):Calls prog 224 #[.int .i64 1] w fun e w'=>e=.returned (.string ⟨#[61]⟩)/\w'=w:=by
 go_enter func224,ntmps224
 go_wp2_with fail;go_ret;exact⟨rfl,rfl⟩
theorem ID(w:World):Calls prog 224 #[.int .i64 2] w fun e w'=>e=.returned (.string ⟨#[60,62]⟩)/\w'=w:=by
 go_enter func224,ntmps224
 go_wp2_with fail;go_ret;exact⟨rfl,rfl⟩
theorem IR(w:World):Calls prog 224 #[.int .i64 3] w fun e w'=>e=.returned (.string ⟨#[60]⟩)/\w'=w:=by
 go_enter func224,ntmps224
 go_wp2_with fail;go_ret;exact⟨rfl,rfl⟩
theorem Hx(w:World):Calls prog 224 #[.int .i64 4] w fun e w'=>e=.returned (.string ⟨#[60,61]⟩)/\w'=w:=by
 go_enter func224,ntmps224
 go_wp2_with fail;go_ret;exact⟨rfl,rfl⟩
theorem I7(w:World):Calls prog 224 #[.int .i64 5] w fun e w'=>e=.returned (.string ⟨#[62]⟩)/\w'=w:=by
 go_enter func224,ntmps224
 go_wp2_with fail;go_ret;exact⟨rfl,rfl⟩
theorem Ir(w:World):Calls prog 224 #[.int .i64 6] w fun e w'=>e=.returned (.string ⟨#[62,61]⟩)/\w'=w:=by
 go_enter func224,ntmps224
 go_wp2_with fail;go_ret;exact⟨rfl,rfl⟩
def CV(k:Nat)(st:RS):Int × RS:=dZ (jD.drop (k - 1)) k st
theorem EH{n:Int}(h:PI b G st W)(A:dZ jD 1 st=(n,s1)):
  Calls prog 171 #[.pointer (some ⟨b,0,none⟩)] W fun e W'=>e=.returned (.int .i64 n)/\PI b G s1 W'/\W.grownBy W' (some b):=by
 have x:=p9 h;have y:qv (CV 1 st=(n,s1)):=A;clear h A;go_enter func171,ntmps171
 go_wp2_with fail;go_loopg [3] 6 (fun m iv w=>∃k:Nat,iv=.int .i64 (k:Int)/\k+m=7/\1<=k/\PI b G st w/\W.grownBy w (some b)/\CV k st=(n,s1))
 case atStart=>exact⟨1,rfl,rfl,by omega,x.o,nu _ _,y.o⟩
 case round=>
  obtain⟨k,rfl,hk,B,hp,z,f⟩:=hrel;have l:=p9 hp;have j:=p9 z;clear x y hp z;have u:k=1\/k=2\/k=3\/k=4\/k=5\/k=6\/k=7:=by omega
  rcases u with rfl|rfl|rfl|rfl|rfl|rfl|rfl
  ·cases hm:aP ze st with
   | true=>
    have e:((1:Int),ar ze st)=(n,s1):=by rw[<-f];show _=(if aP ze st then _ else _);rw[hm];rfl
    injection e with p q
    subst p;subst q;have d:=p9 hm;clear hm f;go_wp2_with (go_at_call 224;refine(IE _).mono ?_;rintro e t ⟨rfl,rfl⟩)
    refine(bg l.o ze true d.o).mono ?_;rintro e r ⟨rfl,a,g2⟩;have i:=p9 a;have g:=p9 (ay j.o g2);clear a g2;go_wp2_with fail;refine bodyPost_ret (v:=.int .i64 1) ?_ rfl ⟨rfl,i.o,g.o⟩;simp[results,results171,go_sem]
   | false=>
    have c:CV 2 st=(n,s1):=by rw[<-f];show _=(if aP ze st then _ else _);rw[hm];rfl
    have d:=p9 hm;have s:=p9 c;clear hm f c;go_wp2_with (go_at_call 224;refine(IE _).mono ?_;rintro e t ⟨rfl,rfl⟩)
    refine(bg l.o ze false d.o).mono ?_;rintro e r ⟨rfl,a,g2⟩;rw[show ar ze st=st by unfold ar;rw[d.o];rfl] at a;have i:=p9 a;have g:=p9 (ay j.o g2);clear a g2;go_wp2_with fail;go_roundg (gk - 1)
    case measure=>omega
    case rel=>exact⟨2,by simp,by omega,by omega,i.o,g.o,s.o⟩
  ·cases hm:aP Lg st with
   | true=>
    have e:((2:Int),ar Lg st)=(n,s1):=by rw[<-f];show _=(if aP Lg st then _ else _);rw[hm];rfl
    injection e with p q
    subst p;subst q;have d:=p9 hm;clear hm f;go_wp2_with (go_at_call 224;refine(ID _).mono ?_;rintro e t ⟨rfl,rfl⟩)
    refine(bg l.o Lg true d.o).mono ?_;rintro e r ⟨rfl,a,g2⟩;have i:=p9 a;have g:=p9 (ay j.o g2);clear a g2;go_wp2_with fail;refine bodyPost_ret (v:=.int .i64 2) ?_ rfl ⟨rfl,i.o,g.o⟩;simp[results,results171,go_sem]
   | false=>
    have c:CV 3 st=(n,s1):=by rw[<-f];show _=(if aP Lg st then _ else _);rw[hm];rfl
    have d:=p9 hm;have s:=p9 c;clear hm f c;go_wp2_with (go_at_call 224;refine(ID _).mono ?_;rintro e t ⟨rfl,rfl⟩)
    refine(bg l.o Lg false d.o).mono ?_;rintro e r ⟨rfl,a,g2⟩;rw[show ar Lg st=st by unfold ar;rw[d.o];rfl] at a;have i:=p9 a;have g:=p9 (ay j.o g2);clear a g2;go_wp2_with fail;go_roundg (gk - 1)
    case measure=>omega
    case rel=>exact⟨3,by simp,by omega,by omega,i.o,g.o,s.o⟩
  ·cases hm:aP Lj st with
   | true=>
    have e:((3:Int),ar Lj st)=(n,s1):=by rw[<-f];show _=(if aP Lj st then _ else _);rw[hm];rfl
    injection e with p q
    subst p;subst q;have d:=p9 hm;clear hm f;go_wp2_with (go_at_call 224;refine(IR _).mono ?_;rintro e t ⟨rfl,rfl⟩)
    refine(bg l.o Lj true d.o).mono ?_;rintro e r ⟨rfl,a,g2⟩;have i:=p9 a;have g:=p9 (ay j.o g2);clear a g2;go_wp2_with fail;refine bodyPost_ret (v:=.int .i64 3) ?_ rfl ⟨rfl,i.o,g.o⟩;simp[results,results171,go_sem]
   | false=>
    have c:CV 4 st=(n,s1):=by rw[<-f];show _=(if aP Lj st then _ else _);rw[hm];rfl
    have d:=p9 hm;have s:=p9 c;clear hm f c;go_wp2_with (go_at_call 224;refine(IR _).mono ?_;rintro e t ⟨rfl,rfl⟩)
    refine(bg l.o Lj false d.o).mono ?_;rintro e r ⟨rfl,a,g2⟩;rw[show ar Lj st=st by unfold ar;rw[d.o];rfl] at a;have i:=p9 a;have g:=p9 (ay j.o g2);clear a g2;go_wp2_with fail;go_roundg (gk - 1)
    case measure=>omega
    case rel=>exact⟨4,by simp,by omega,by omega,i.o,g.o,s.o⟩
  ·cases hm:aP Le st with
   | true=>
    have e:((4:Int),ar Le st)=(n,s1):=by rw[<-f];show _=(if aP Le st then _ else _);rw[hm];rfl
    injection e with p q
    subst p;subst q;have d:=p9 hm;clear hm f;go_wp2_with (go_at_call 224;refine(Hx _).mono ?_;rintro e t ⟨rfl,rfl⟩)
    refine(bg l.o Le true d.o).mono ?_;rintro e r ⟨rfl,a,g2⟩;have i:=p9 a;have g:=p9 (ay j.o g2);clear a g2;go_wp2_with fail;refine bodyPost_ret (v:=.int .i64 4) ?_ rfl ⟨rfl,i.o,g.o⟩;simp[results,results171,go_sem]
   | false=>
    have c:CV 5 st=(n,s1):=by rw[<-f];show _=(if aP Le st then _ else _);rw[hm];rfl
    have d:=p9 hm;have s:=p9 c;clear hm f c;go_wp2_with (go_at_call 224;refine(Hx _).mono ?_;rintro e t ⟨rfl,rfl⟩)
    refine(bg l.o Le false d.o).mono ?_;rintro e r ⟨rfl,a,g2⟩;rw[show ar Le st=st by unfold ar;rw[d.o];rfl] at a;have i:=p9 a;have g:=p9 (ay j.o g2);clear a g2;go_wp2_with fail;go_roundg (gk - 1)
    case measure=>omega
    case rel=>exact⟨5,by simp,by omega,by omega,i.o,g.o,s.o⟩
  ·cases hm:aP Lf st with
   | true=>
    have e:((5:Int),ar Lf st)=(n,s1):=by rw[<-f];show _=(if aP Lf st then _ else _);rw[hm];rfl
    injection e with p q
    subst p;subst q;have d:=p9 hm;clear hm f;go_wp2_with (go_at_call 224;refine(I7 _).mono ?_;rintro e t ⟨rfl,rfl⟩)
    refine(bg l.o Lf true d.o).mono ?_;rintro e r ⟨rfl,a,g2⟩;have i:=p9 a;have g:=p9 (ay j.o g2);clear a g2;go_wp2_with fail;refine bodyPost_ret (v:=.int .i64 5) ?_ rfl ⟨rfl,i.o,g.o⟩;simp[results,results171,go_sem]
   | false=>
    have c:CV 6 st=(n,s1):=by rw[<-f];show _=(if aP Lf st then _ else _);rw[hm];rfl
    have d:=p9 hm;have s:=p9 c;clear hm f c;go_wp2_with (go_at_call 224;refine(I7 _).mono ?_;rintro e t ⟨rfl,rfl⟩)
    refine(bg l.o Lf false d.o).mono ?_;rintro e r ⟨rfl,a,g2⟩;rw[show ar Lf st=st by unfold ar;rw[d.o];rfl] at a;have i:=p9 a;have g:=p9 (ay j.o g2);clear a g2;go_wp2_with fail;go_roundg (gk - 1)
    case measure=>omega
    case rel=>exact⟨6,by simp,by omega,by omega,i.o,g.o,s.o⟩
  ·cases hm:aP Ld st with
   | true=>
    have e:((6:Int),ar Ld st)=(n,s1):=by rw[<-f];show _=(if aP Ld st then _ else _);rw[hm];rfl
    injection e with p q
    subst p;subst q;have d:=p9 hm;clear hm f;go_wp2_with (go_at_call 224;refine(Ir _).mono ?_;rintro e t ⟨rfl,rfl⟩)
    refine(bg l.o Ld true d.o).mono ?_;rintro e r ⟨rfl,a,g2⟩;have i:=p9 a;have g:=p9 (ay j.o g2);clear a g2;go_wp2_with fail;refine bodyPost_ret (v:=.int .i64 6) ?_ rfl ⟨rfl,i.o,g.o⟩;simp[results,results171,go_sem]
   | false=>
    have c:CV 7 st=(n,s1):=by rw[<-f];show _=(if aP Ld st then _ else _);rw[hm];rfl
    have d:=p9 hm;have s:=p9 c;clear hm f c;go_wp2_with (go_at_call 224;refine(Ir _).mono ?_;rintro e t ⟨rfl,rfl⟩)
    refine(bg l.o Ld false d.o).mono ?_;rintro e r ⟨rfl,a,g2⟩;rw[show ar Ld st=st by unfold ar;rw[d.o];rfl] at a;have i:=p9 a;have g:=p9 (ay j.o g2);clear a g2;go_wp2_with fail;go_roundg (gk - 1)
    case measure=>omega
    case rel=>exact⟨7,by simp,by omega,by omega,i.o,g.o,s.o⟩
  ·have e:((0:Int),eh)=(n,s1):=f;injection e with p q
   subst p;subst q;clear f;go_wp2_with fail;refine(qj l.o).mono ?_;rintro e r ⟨rfl,a,g2⟩;have i:=p9 a;have g:=p9 (ay j.o g2);clear a g2;go_wp2_with fail;refine bodyPost_ret (v:=.int .i64 0) ?_ rfl ⟨rfl,i.o,g.o⟩;simp[results,results171,go_sem]
theorem Qg{r:bW}(h:PI b G st W)(H:jW st=(r,s1)):
  Calls prog 123 #[.pointer (some ⟨b,0,none⟩)] W fun e W'=>e=.returned (.agg #[.int .i64 r.op,.string r.a.name,.string r.a.key,.int .i64 r.a.val,.string r.b.name,.string r.b.key,.int .i64 r.b.val])/\PI b G s1 W'/\W.grownBy W' (some b):=by
 have u:=p9 (PX.start h (Qe 0 t0 t0) 125);obtain⟨a,l,F⟩:∃k' az,fJ st=(k',az):=⟨_,_,rfl⟩;have z:=p9 H;have v:=p9 F;clear h H F;go_enter func123,ntmps123
 go_wp2_with fail;generalize W.alloc (.cells #[.int .i64 0,.string ⟨#[]⟩,.string ⟨#[]⟩,.int .i64 0,.string ⟨#[]⟩,.string ⟨#[]⟩,.int .i64 0] 125)=L at u⊢;generalize W.heap.size=X at u⊢;refine(MV u.o.p v.o).mono ?_;rintro e B ⟨rfl,h,g⟩;have n:=p9 ((u.o.call h g).more (Qe 0 a t0) 125);clear h g;go_wp2_with fail;generalize B.alloc (.cells #[.int .i64 0,.string a.name,.string a.key,.int .i64 a.val,.string ⟨#[]⟩,.string ⟨#[]⟩,.int .i64 0] 125)=P at n⊢;generalize B.heap.size=Y at n⊢;cases hi:aP oZ l with
 | true=>
  have s:=p9 hi;clear hi;refine(bg n.o.q.p oZ true s.o).mono ?_;rintro e C ⟨rfl,h,g⟩;have i:=p9 (n.o.call h g);clear h g;have t:=i.o.ly.at_ 0 (.int .i64 0) rfl;have f0:=i.o.ly.free 0;go_wp2_with fail;have j:=p9 (i.o.fS 0 (.int .i64 7));generalize C.setCell ⟨Y,0,none⟩ (.int .i64 7)=D at j⊢;clear t f0;cases hm:aP ku (ar oZ l)
  all_goals
   have A:qv (((⟨if aP ku (ar oZ l) then 8 else 7,a,oE⟩:bW),aM jM (ar ku (ar oZ l)))=(r,s1)):=by show _=_;rw[<-z.o];unfold jW;simp only[v.o,s.o];rfl
   rw[hm] at A;have J:=p9 hm;clear hm;refine(bg j.o.q.p ku _ J.o).mono ?_;rintro e E ⟨rfl,h,g⟩;have d:=p9 (j.o.call h g);clear h g;have t:=d.o.ly.at_ 0 (.int .i64 7) rfl;have f0:=d.o.ly.free 0;go_wp2_with fail;clear t f0
  have f:=d
  rotate_left
  have f:=p9 (d.o.fS 0 (.int .i64 8));generalize E.setCell ⟨Y,0,none⟩ (.int .i64 8)=M at f⊢
  all_goals
   refine(fj f.o.q.p jM).mono ?_;rintro e Q ⟨rfl,h,g⟩;have k:=p9 (f.o.call h g);clear h g;go_upto_region 7 with fail;refine wp_region_lit ?_;refine wpList_load_mid rfl 125 _ rfl Y 0 rfl _ _ k.o.ly.range underlying125 rfl Tryz.iW ?_;refine wpList_store_mid rfl 125 _ _ rfl X 0 _ rfl rfl k.o.q.lx.there Tryz.iW (wQ _ a t0) ?_;have m:=k.o.copy rfl;injection A.o with w N
   subst w N;go_wp2_with fail;exact bodyPost_ret (ry results123 rfl m.lx underlying125 rfl Tryz.iW) rfl ⟨rfl,m.p,m.grown⟩
 | false=>
  obtain⟨y,a2,hk⟩:∃k' az,dZ jD 1 l=(k',az):=⟨_,_,rfl⟩;obtain⟨c,a3,x⟩:∃k' az,fJ a2=(k',az):=⟨_,_,rfl⟩;have e:((⟨y,a,c⟩:bW),a3)=(r,s1):=by rw[<-z.o];unfold jW;simp only[v.o,hi,hk,x];rfl
  injection e with w O
  subst w O;have s:=p9 hi;have I:=p9 hk;have K:=p9 x;clear hi hk x;refine(bg n.o.q.p oZ false s.o).mono ?_;rintro e C ⟨rfl,h,g⟩;have i:=p9 (n.o.call h g);clear h g;rw[show ar oZ l=l by unfold ar;rw[s.o];rfl] at i;go_wp2_with fail;refine(EH i.o.q.p I.o).mono ?_;rintro e D ⟨rfl,h,g⟩;have j:=p9 (i.o.call h g);clear h g;have t:=j.o.ly.at_ 0 (.int .i64 0) rfl;have f0:=j.o.ly.free 0;go_wp2_with fail;have d:=p9 (j.o.fS 0 (.int .i64 y));generalize D.setCell ⟨Y,0,none⟩ (.int .i64 y)=E at d⊢;clear t f0;refine(MV d.o.q.p K.o).mono ?_;rintro e M ⟨rfl,h,g⟩;have f:=p9 (d.o.call h g);clear h g;go_upto_region 10 with (refine wpList_store_mid rfl 46 _ _ rfl Y 4 #[.string c.name,.string c.key,.int .i64 c.val] rfl rfl (f.o.ly.Ii 4 3 (rm 7)) Tryz.Dx (Ix c) ?_)
  have k:=p9 (f.o.G9 (Loc.setMany [.string c.name,.string c.key,.int .i64 c.val] 4 _ _ f.o.ly (rm 7)));refine wp_region_lit ?_;refine wpList_load_mid rfl 125 _ rfl Y 0 rfl _ _ k.o.ly.range underlying125 rfl Tryz.iW ?_;refine wpList_store_mid rfl 125 _ _ rfl X 0 _ rfl rfl k.o.q.lx.there Tryz.iW (wQ _ a c) ?_;have m:=k.o.copy rfl;go_wp2_with fail;exact bodyPost_ret (ry results123 rfl m.lx underlying125 rfl Tryz.iW) rfl ⟨rfl,m.p,m.grown⟩
end
end Go.Proofs.YtbfmmmjkjhjleaaGreatDoor
