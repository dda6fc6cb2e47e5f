/- Mine. -/
import Derived.Test.YtbfmmmjkjhjleaaGreatDoorC03
set_option maxRecDepth 100000
set_option maxHeartbeats 0
namespace Go.Proofs.YtbfmmmjkjhjleaaGreatDoor
open Go.Proofs.Tryz
variable {W W0 W' w2:World} {st st' st1:RS} {b x y k n B g:Nat} {lv v:Value} {ts:List Tok} {cx cy:Array Value} {Tx T Ty T':TypeId} {xs:List Value} {i:Int} {a:ByteArray}
section
open Go.RowKit
structure tE(W0:World)(b:Nat)(lv:Value)(ts:List Tok)(st:RS)(x:Nat)(cx:Array Value)(Tx:TypeId)(y:Nat)(cy:Array Value)(Ty:TypeId)(W:World):Prop where
 ri:RI b lv ts st W
 lx:Loc W x cx Tx
 ly:Loc W y cy Ty
 grown:W0.grownBy W (some b)
 nx:W0.heap.size<=x
 ny:W0.heap.size<=y
 xb:x≠b
 yb:y≠b
 xy:x≠y
 xl:lv.ownBlock≠some x
 yl:lv.ownBlock≠some y
theorem RI.IA(h:RI b lv ts st W)(c:W.heap.size<=x):lv.ownBlock≠some x:=by
 intro he;obtain⟨B,a⟩:=h.row;have:=(a.lt x he).2;omega
theorem tE.start(h:RI b lv ts st W)(c:Array Value)(a:TypeId)(f:Array Value)(d:TypeId):
  tE W b lv ts st W.heap.size c a (W.heap.size+1) f d ((W.alloc (.cells c a)).alloc (.cells f d)):=by
 have i:=h.box.lt;have e:(W.alloc (.cells c a)).heap.size=W.heap.size+1:=by simp
 have g:=Loc.new (W.alloc (.cells c a)) f d;rw[e] at g;exact⟨(h.alloc _).alloc _,(Loc.new W c a).alloc _,g,ay (aD _ _ _) (aD _ _ _),rm _,by omega,by omega,by omega,by omega,h.IA (rm _),h.IA (by omega)⟩
theorem tE.call(h:tE W0 b lv ts st x cx Tx y cy Ty W)(h1:RI b lv ts st' W')(g1:W.grownBy W' (some b)):tE W0 b lv ts st' x cx Tx y cy Ty W':=
 ⟨h1,h.lx.grown g1 (by simpa using h.xb),h.ly.grown g1 (by simpa using h.yb),ay h.grown g1,h.nx,h.ny,h.xb,h.yb,h.xy,h.xl,h.yl⟩
theorem tE.eX(h:tE W0 b lv ts st x cx Tx y cy Ty W)(j:Nat)(u:Value):tE W0 b lv ts st x (cx.setIfInBounds j u) Tx y cy Ty (W.setCell ⟨x,j,none⟩ u):=
 ⟨h.ri.aY (fun e=>h.xb e.symm) h.xl j u,h.lx.set j u,h.ly.aY (fun e=>h.xy e.symm) j u,bU h.grown h.nx j u,h.nx,h.ny,h.xb,h.yb,h.xy,h.xl,h.yl⟩
theorem tE.fS(h:tE W0 b lv ts st x cx Tx y cy Ty W)(j:Nat)(u:Value):tE W0 b lv ts st x cx Tx y (cy.setIfInBounds j u) Ty (W.setCell ⟨y,j,none⟩ u):=
 ⟨h.ri.aY (fun e=>h.yb e.symm) h.yl j u,h.lx.aY h.xy j u,h.ly.set j u,bU h.grown h.ny j u,h.nx,h.ny,h.xb,h.yb,h.xy,h.xl,h.yl⟩
def Mh(x:aK):Array Value:=#[.string x.name,.string x.ai,.string x.type,.int .i64 x.least,.int .i64 x.bq]
def Ll(t:gP):Array Value:=#[.string t.name,.string t.key,.int .i64 t.val]
theorem spot(h:RI b lv ts st W)(p:aK):
  Calls prog 100 #[.pointer (some ⟨b,0,none⟩),.agg #[.string p.name,.string p.ai,.string p.type,.int .i64 p.least,.int .i64 p.bq]] W
   fun e W'=>e=.returned (.agg (Mh (iz p st).1))/\RI b lv ts (iz p st).2 W'/\W.grownBy W' (some b):=by
 have E:=tE.start h (Mh p) 191 (Mh cV) 191;have C:=p9 E;have J:=h.box.lt;clear h E;go_enter func100,ntmps100
 go_wp2_with fail;refine(mI C.o.ri bO).mono ?_;rintro e U ⟨rfl,h1,g1⟩;have H1:=p9 (C.o.call h1 g1);clear h1 g1;go_wp2_with fail;refine(name H1.o.ri).mono ?_;rintro e D ⟨rfl,G,g2⟩;have r:=p9 (H1.o.call G g2);have x0:D.cell? ⟨W.heap.size,0,none⟩=some (.string p.name):=(r.o.lx.cell 0).trans rfl;have f0:=r.o.lx.free 0;clear G g2;obtain⟨nm,i⟩:∃nm,nm=cI (bG bO st):=⟨_,rfl⟩;rw[<-i] at r⊢;have m:=p9 i;clear i;go_wp2_with fail;have k:=p9 (r.o.eX 0 (.string nm.1));clear x0 f0;generalize D.setCell ⟨W.heap.size,0,none⟩ (.string nm.1)=V at k⊢;cases hp:aO cD nm.2 with
 | true=>
  have w:=p9 hp;have f:qv (iz p st=(⟨nm.1,(fA (bz cD nm.2)).1,p.type,p.least,p.bq⟩,bG bN (fA (bz cD nm.2)).2)):=by
   show _=_;unfold iz;simp only[<-m.o];rw[hp];rfl
  clear hp;refine(has k.o.ri cD true w.o).mono ?_;rintro e I ⟨rfl,j,g4⟩;have l:=p9 (k.o.call j g4);clear j g4;go_wp2_with fail;refine(Qf l.o.ri).mono ?_;rintro e F ⟨rfl,H,g5⟩;have s:=p9 (l.o.call H g5);clear H g5;obtain⟨g,q⟩:∃g,g=fA (bz cD nm.2):=⟨_,rfl⟩;rw[<-q] at s f⊢;clear q;have x1:F.cell? ⟨W.heap.size,1,none⟩=some (.string p.ai):=(s.o.lx.cell 1).trans rfl;have f1:=s.o.lx.free 1;go_wp2_with fail;have t:=p9 (s.o.eX 1 (.string g.1));clear x1 f1;generalize F.setCell ⟨W.heap.size,1,none⟩ (.string g.1)=X at t⊢;refine(mI t.o.ri bN).mono ?_;rintro e c ⟨rfl,n,g7⟩;have a:=p9 (t.o.call n g7);clear n g7;have x0:c.cell? ⟨W.heap.size,0,none⟩=some (.string nm.1):=(a.o.lx.cell 0).trans rfl;have x1:c.cell? ⟨W.heap.size,1,none⟩=some (.string g.1):=(a.o.lx.cell 1).trans rfl;have x2:c.cell? ⟨W.heap.size,2,none⟩=some (.string p.type):=(a.o.lx.cell 2).trans rfl;have x3:c.cell? ⟨W.heap.size,3,none⟩=some (.int .i64 p.least):=(a.o.lx.cell 3).trans rfl;have x4:c.cell? ⟨W.heap.size,4,none⟩=some (.int .i64 p.bq):=(a.o.lx.cell 4).trans rfl;have P:c.cell? ⟨W.heap.size+1,0,none⟩=some (.string ⟨#[]⟩):=(a.o.ly.cell 0).trans rfl;have Q:c.cell? ⟨W.heap.size+1,1,none⟩=some (.string ⟨#[]⟩):=(a.o.ly.cell 1).trans rfl;have R:c.cell? ⟨W.heap.size+1,2,none⟩=some (.string ⟨#[]⟩):=(a.o.ly.cell 2).trans rfl;have S:c.cell? ⟨W.heap.size+1,3,none⟩=some (.int .i64 0):=(a.o.ly.cell 3).trans rfl;have T:c.cell? ⟨W.heap.size+1,4,none⟩=some (.int .i64 0):=(a.o.ly.cell 4).trans rfl;have K:=a.o.ly.free 0;have L:=a.o.ly.free 1;have M:=a.o.ly.free 2;have N:=a.o.ly.free 3;have O:=a.o.ly.free 4
  go_wp2
  have d:=((((a.o.fS 0 (.string nm.1)).fS 1 (.string g.1)).fS 2 (.string p.type)).fS 3 (.int .i64 p.least)).fS 4 (.int .i64 p.bq);generalize ((((c.setCell ⟨W.heap.size+1,0,none⟩ (.string nm.1)).setCell ⟨W.heap.size+1,1,none⟩ (.string g.1)).setCell ⟨W.heap.size+1,2,none⟩ (.string p.type)).setCell ⟨W.heap.size+1,3,none⟩ (.int .i64 p.least)).setCell ⟨W.heap.size+1,4,none⟩ (.int .i64 p.bq)=WF at d⊢;refine bodyPost_ret (v:=.agg #[.string nm.1,.string g.1,.string p.type,.int .i64 p.least,.int .i64 p.bq]) ?_ rfl ⟨by rw[f.o];rfl,by rw[f.o];exact d.ri,d.grown⟩;have x:WF.cell? ⟨W.heap.size+1,0,none⟩=some (.string nm.1):=(d.ly.cell 0).trans rfl;have y:WF.cell? ⟨W.heap.size+1,1,none⟩=some (.string g.1):=(d.ly.cell 1).trans rfl;have z:WF.cell? ⟨W.heap.size+1,2,none⟩=some (.string p.type):=(d.ly.cell 2).trans rfl;have A:WF.cell? ⟨W.heap.size+1,3,none⟩=some (.int .i64 p.least):=(d.ly.cell 3).trans rfl;have B:WF.cell? ⟨W.heap.size+1,4,none⟩=some (.int .i64 p.bq):=(d.ly.cell 4).trans rfl;simp[results,results100,go_sem,x,y,z,A,B]
 | false=>
  have w:=p9 hp;have f:qv (iz p st=(⟨nm.1,p.ai,p.type,p.least,p.bq⟩,bG bN nm.2)):=by
   show _=_;unfold iz;simp only[<-m.o];rw[hp];rfl
  have u:qv (bz cD nm.2=nm.2):=by show _=_;unfold bz;rw[hp];rfl
  clear hp;refine(has k.o.ri cD false w.o).mono ?_;rintro e I ⟨rfl,j,g4⟩;rw[u.o] at j;have l:=p9 (k.o.call j g4);clear j g4;go_wp2_with fail;refine(mI l.o.ri bN).mono ?_;rintro e c ⟨rfl,n,g7⟩;have a:=p9 (l.o.call n g7);clear n g7;have x0:c.cell? ⟨W.heap.size,0,none⟩=some (.string nm.1):=(a.o.lx.cell 0).trans rfl;have x1:c.cell? ⟨W.heap.size,1,none⟩=some (.string p.ai):=(a.o.lx.cell 1).trans rfl;have x2:c.cell? ⟨W.heap.size,2,none⟩=some (.string p.type):=(a.o.lx.cell 2).trans rfl;have x3:c.cell? ⟨W.heap.size,3,none⟩=some (.int .i64 p.least):=(a.o.lx.cell 3).trans rfl;have x4:c.cell? ⟨W.heap.size,4,none⟩=some (.int .i64 p.bq):=(a.o.lx.cell 4).trans rfl;have P:c.cell? ⟨W.heap.size+1,0,none⟩=some (.string ⟨#[]⟩):=(a.o.ly.cell 0).trans rfl;have Q:c.cell? ⟨W.heap.size+1,1,none⟩=some (.string ⟨#[]⟩):=(a.o.ly.cell 1).trans rfl;have R:c.cell? ⟨W.heap.size+1,2,none⟩=some (.string ⟨#[]⟩):=(a.o.ly.cell 2).trans rfl;have S:c.cell? ⟨W.heap.size+1,3,none⟩=some (.int .i64 0):=(a.o.ly.cell 3).trans rfl;have T:c.cell? ⟨W.heap.size+1,4,none⟩=some (.int .i64 0):=(a.o.ly.cell 4).trans rfl;have K:=a.o.ly.free 0;have L:=a.o.ly.free 1;have M:=a.o.ly.free 2;have N:=a.o.ly.free 3;have O:=a.o.ly.free 4
  go_wp2
  have d:=((((a.o.fS 0 (.string nm.1)).fS 1 (.string p.ai)).fS 2 (.string p.type)).fS 3 (.int .i64 p.least)).fS 4 (.int .i64 p.bq);generalize ((((c.setCell ⟨W.heap.size+1,0,none⟩ (.string nm.1)).setCell ⟨W.heap.size+1,1,none⟩ (.string p.ai)).setCell ⟨W.heap.size+1,2,none⟩ (.string p.type)).setCell ⟨W.heap.size+1,3,none⟩ (.int .i64 p.least)).setCell ⟨W.heap.size+1,4,none⟩ (.int .i64 p.bq)=WF at d⊢;refine bodyPost_ret (v:=.agg #[.string nm.1,.string p.ai,.string p.type,.int .i64 p.least,.int .i64 p.bq]) ?_ rfl ⟨by rw[f.o];rfl,by rw[f.o];exact d.ri,d.grown⟩;have x:WF.cell? ⟨W.heap.size+1,0,none⟩=some (.string nm.1):=(d.ly.cell 0).trans rfl;have y:WF.cell? ⟨W.heap.size+1,1,none⟩=some (.string p.ai):=(d.ly.cell 1).trans rfl;have z:WF.cell? ⟨W.heap.size+1,2,none⟩=some (.string p.type):=(d.ly.cell 2).trans rfl;have A:WF.cell? ⟨W.heap.size+1,3,none⟩=some (.int .i64 p.least):=(d.ly.cell 3).trans rfl;have B:WF.cell? ⟨W.heap.size+1,4,none⟩=some (.int .i64 p.bq):=(d.ly.cell 4).trans rfl;simp[results,results100,go_sem,x,y,z,A,B]
structure One(W0:World)(b:Nat)(lv:Value)(ts:List Tok)(st:RS)(x:Nat)(cx:Array Value)(Tx:TypeId)(W:World):Prop where
 ri:RI b lv ts st W
 lx:Loc W x cx Tx
 grown:W0.grownBy W (some b)
 nx:W0.heap.size<=x
 xb:x≠b
 xl:lv.ownBlock≠some x
theorem One.start(h:RI b lv ts st W)(c:Array Value)(a:TypeId):One W b lv ts st W.heap.size c a (W.alloc (.cells c a)):=by
 have d:=h.box.lt;exact⟨h.alloc _,Loc.new W c a,aD _ _ _,rm _,by omega,h.IA (rm _)⟩
theorem One.drew{W0 W:World}{b:Nat}{d:Value}{f:List Tok}{st:RS}{x:Nat}{c:Array Value}{a:TypeId}(h:One W0 b d f st x c a W)(n:Nat):One W0 b d f st x c a (W.drewN n):=
 ⟨h.ri.drew n,h.lx.drew n,ay h.grown (fh _ n _),h.nx,h.xb,h.xl⟩
theorem One.call(h:One W0 b lv ts st x cx Tx W)(h1:RI b lv ts st' W')(g1:W.grownBy W' (some b)):One W0 b lv ts st' x cx Tx W':=
 ⟨h1,h.lx.grown g1 (by simpa using h.xb),ay h.grown g1,h.nx,h.xb,h.xl⟩
theorem One.eX(h:One W0 b lv ts st x cx Tx W)(j:Nat)(u:Value):One W0 b lv ts st x (cx.setIfInBounds j u) Tx (W.setCell ⟨x,j,none⟩ u):=
 ⟨h.ri.aY (fun e=>h.xb e.symm) h.xl j u,h.lx.set j u,bU h.grown h.nx j u,h.nx,h.xb,h.xl⟩
theorem One.two(h:One W0 b lv ts st x cx Tx W)(c:Array Value)(a:TypeId):tE W0 b lv ts st x cx Tx W.heap.size c a (W.alloc (.cells c a)):=by
 have f:=h.ri.box.lt;have g:=h.lx.lt;have d:=h.grown.size;exact⟨h.ri.alloc _,h.lx.alloc _,Loc.new W c a,ay h.grown (aD _ _ _),h.nx,d,h.xb,by omega,by omega,h.xl,h.ri.IA (rm _)⟩
theorem tE.one(h:tE W0 b lv ts st x cx Tx y cy Ty W):One W0 b lv ts st x cx Tx W:=
 ⟨h.ri,h.lx,h.grown,h.nx,h.xb,h.xl⟩
theorem OL(h:RI b lv ts st W)(hm:isKind 2 st=true):
  Calls prog 58 #[.pointer (some ⟨b,0,none⟩)] W fun e W'=>e=.returned (.agg (Ll (gD st).1))/\RI b lv ts (gD st).2 W'/\W.grownBy W' (some b):=by
 have s:=p9 (One.start h #[.string ⟨#[]⟩,.string ⟨#[]⟩,.int .i64 0] 46);have y:=h.box.lt;obtain⟨ao,cap,k,rfl,p,hlen,hk,l,x,c1,c2,q⟩:=h.seen;have C:k<=2000:=by omega
 obtain⟨t2,st2,j⟩:∃t st',fX 2 st=(t,st'):=⟨_,_,rfl⟩;have u:=p9 j;have m:qv (gD st=(⟨e0,e0,t2.val⟩,st2)):=by show _=_;unfold gD;rw[a8 hm,j]
 clear h c2 j;cases a:st.rest with
 | nil=>rw[xQ a] at hm;cases hm
 | cons t r=>
  obtain⟨D,g,rfl,z0,H,z2⟩:=q t r a;have f:t.kind=2:=by rw[nS a] at hm;simpa using hm
  have A:(t.kind==2)=true:=by simp[f]
  have B:g<W.heap.size:=block_lt_of_cell z0;clear hm f hk a q l H z2;have z:∀w:World,(Instr.field 115 (.agg #[.int .i64 t2.kind,.string t2.text,.int .i64 t2.val]) 2).run prog w=.ok (.int .i64 t2.val) w:=fun _=>by kernel_rfl
  go_enter func58,ntmps58
  go_wp2
  go_quiet (fail)
  have H1:=p9 (s.o.drew nq);generalize (W.alloc (.cells #[.string ⟨#[]⟩,.string ⟨#[]⟩,.int .i64 0] 46)).drewN nq=I at H1⊢;clear x c1 z0;go_wp2_with fail;refine(qg H1.o.ri 2 t2 u.o).mono ?_;rintro e i ⟨rfl,n,g2⟩;have c:=p9 (H1.o.call n g2);clear n g2;have x0:i.cell? ⟨W.heap.size,0,none⟩=some (.string ⟨#[]⟩):=(c.o.lx.cell 0).trans rfl;have x1:i.cell? ⟨W.heap.size,1,none⟩=some (.string ⟨#[]⟩):=(c.o.lx.cell 1).trans rfl;have x2:i.cell? ⟨W.heap.size,2,none⟩=some (.int .i64 0):=(c.o.lx.cell 2).trans rfl;have f0:=c.o.lx.free 0;have f1:=c.o.lx.free 1;have f2:=c.o.lx.free 2
  go_wp2
  have d:=((c.o.eX 0 (.string ⟨#[]⟩)).eX 1 (.string ⟨#[]⟩)).eX 2 (.int .i64 t2.val);generalize ((i.setCell ⟨W.heap.size,0,none⟩ (.string ⟨#[]⟩)).setCell ⟨W.heap.size,1,none⟩ (.string ⟨#[]⟩)).setCell ⟨W.heap.size,2,none⟩ (.int .i64 t2.val)=WF at d⊢;refine bodyPost_ret (v:=.agg #[.string ⟨#[]⟩,.string ⟨#[]⟩,.int .i64 t2.val]) ?_ rfl ⟨by rw[m.o];rfl,by rw[m.o];exact d.ri,d.grown⟩;have E:WF.cell? ⟨W.heap.size,0,none⟩=some (.string ⟨#[]⟩):=(d.lx.cell 0).trans rfl;have F:WF.cell? ⟨W.heap.size,1,none⟩=some (.string ⟨#[]⟩):=(d.lx.cell 1).trans rfl;have G:WF.cell? ⟨W.heap.size,2,none⟩=some (.int .i64 t2.val):=(d.lx.cell 2).trans rfl;simp[results,results58,go_sem,E,F,G]
structure Qz(st:RS) where
 n:ByteArray
 st1:RS
 k:ByteArray
 st2:RS
 hn:cI st=(n,st1)
 hk:cI (bG eN st1)=(k,st2)
def RD(st:RS):Qz st:=⟨(cI st).1,(cI st).2,(cI (bG eN (cI st).2)).1,(cI (bG eN (cI st).2)).2,rfl,rfl⟩
theorem lD{n:ByteArray}(h:RI b lv ts st W)(a:cI st=(n,st1)):
  Calls prog 21 #[.pointer (some ⟨b,0,none⟩)] W fun e W'=>e=.returned (.string n)/\RI b lv ts st1 W'/\W.grownBy W' (some b):=by
 have:=name h;rw[a] at this;exact this
theorem Cs{n:ByteArray}(h:RI b lv ts st W)(a:fA st=(n,st1)):
  Calls prog 52 #[.pointer (some ⟨b,0,none⟩)] W fun e W'=>e=.returned (.string n)/\RI b lv ts st1 W'/\W.grownBy W' (some b):=by
 have:=Qf h;rw[a] at this;exact this
theorem rG{lo hi n:Int}(h:RI b lv ts st W)(a:fq lo hi st=(n,st1)):
  Calls prog 53 #[.pointer (some ⟨b,0,none⟩),.int .i64 lo,.int .i64 hi] W fun e W'=>e=.returned (.int .i64 n)/\RI b lv ts st1 W'/\W.grownBy W' (some b):=by
 have:=count h lo hi;rw[a] at this;exact this
theorem Nq(h:RI b lv ts st W)(hm:¬isKind 2 st=true):
  Calls prog 58 #[.pointer (some ⟨b,0,none⟩)] W fun e W'=>e=.returned (.agg (Ll (gD st).1))/\RI b lv ts (gD st).2 W'/\W.grownBy W' (some b):=by
 have B:=p9 (One.start h #[.string ⟨#[]⟩,.string ⟨#[]⟩,.int .i64 0] 46);have Q:=h.box.lt;obtain⟨ao,cap,k,rfl,M,hlen,hk,z,L,c1,c2,E⟩:=h.seen;have T:k<=2000:=by omega
 have P:=RD st;have K:=p9 P.hn;have J:=p9 P.hk;have C:qv (gD st=(⟨P.n,P.k,0⟩,P.st2)):=by show _=_;unfold gD;rw[bk hm];simp only[P.hn,P.hk]
 clear h c2;cases c:st.rest with
 | nil=>
  have D:¬k<ts.length:=by rw[hk,c];simp
  have hg:decide ((k:Int)<(ts.length:Int))=false:=by simpa using D
  clear hm hk c E z;go_enter func58,ntmps58
  go_wp2
  go_quiet (fail)
  have H1:=p9 ((B.o.drew nq).two #[.string ⟨#[]⟩,.string ⟨#[]⟩,.int .i64 0] 46);have m:=(B.o.drew nq).grown.size;generalize (W.alloc (.cells #[.string ⟨#[]⟩,.string ⟨#[]⟩,.int .i64 0] 46)).drewN nq=d at H1 m⊢;clear L c1;go_wp2_with fail;refine(lD H1.o.ri K.o).mono ?_;rintro e s ⟨rfl,u,g2⟩;have j:=p9 (H1.o.call u g2);clear u g2;have A:s.cell? ⟨d.heap.size,0,none⟩=some (.string ⟨#[]⟩):=(j.o.ly.cell 0).trans rfl;have f0:=j.o.ly.free 0;go_wp2_with fail;have l:=p9 (j.o.fS 0 (.string P.n));clear A f0;generalize s.setCell ⟨d.heap.size,0,none⟩ (.string P.n)=N at l⊢;refine(mI l.o.ri eN).mono ?_;rintro e O ⟨rfl,w,g4⟩;have q:=p9 (l.o.call w g4);clear w g4;go_wp2_with fail;refine(lD q.o.ri J.o).mono ?_;rintro e f ⟨rfl,x,g5⟩;have a:=p9 (q.o.call x g5);clear x g5;have A:f.cell? ⟨d.heap.size,0,none⟩=some (.string P.n):=(a.o.ly.cell 0).trans rfl;have Z:f.cell? ⟨d.heap.size,1,none⟩=some (.string ⟨#[]⟩):=(a.o.ly.cell 1).trans rfl;have y2:f.cell? ⟨d.heap.size,2,none⟩=some (.int .i64 0):=(a.o.ly.cell 2).trans rfl;have f1:=a.o.ly.free 1;have x0:f.cell? ⟨W.heap.size,0,none⟩=some (.string ⟨#[]⟩):=(a.o.lx.cell 0).trans rfl;have x1:f.cell? ⟨W.heap.size,1,none⟩=some (.string ⟨#[]⟩):=(a.o.lx.cell 1).trans rfl;have x2:f.cell? ⟨W.heap.size,2,none⟩=some (.int .i64 0):=(a.o.lx.cell 2).trans rfl;have V:=a.o.lx.free 0;have X:=a.o.lx.free 1;have Y:=a.o.lx.free 2;have p:=a.o.xy;have F:d.heap.size≠W.heap.size:=fun e=>p e.symm
  go_wp2
  have i:=(((a.o.fS 1 (.string P.k)).eX 0 (.string P.n)).eX 1 (.string P.k)).eX 2 (.int .i64 0);generalize (((f.setCell ⟨d.heap.size,1,none⟩ (.string P.k)).setCell ⟨W.heap.size,0,none⟩ (.string P.n)).setCell ⟨W.heap.size,1,none⟩ (.string P.k)).setCell ⟨W.heap.size,2,none⟩ (.int .i64 0)=WF at i⊢;refine bodyPost_ret (v:=.agg #[.string P.n,.string P.k,.int .i64 0]) ?_ rfl ⟨by rw[C.o];rfl,by rw[C.o];exact i.ri,i.grown⟩;have G:WF.cell? ⟨W.heap.size,0,none⟩=some (.string P.n):=(i.lx.cell 0).trans rfl;have H:WF.cell? ⟨W.heap.size,1,none⟩=some (.string P.k):=(i.lx.cell 1).trans rfl;have I:WF.cell? ⟨W.heap.size,2,none⟩=some (.int .i64 0):=(i.lx.cell 2).trans rfl;simp[results,results58,go_sem,G,H,I]
 | cons t r=>
  obtain⟨U,g,rfl,z0,z1,z2⟩:=E t r c;have y:t.kind≠2:=by rw[nS c] at hm;simpa using hm
  have R:(t.kind==2)=false:=by simpa using y
  have S:g<W.heap.size:=block_lt_of_cell z0;clear hm y hk c E z z1 z2;go_enter func58,ntmps58
  go_wp2
  go_quiet (fail)
  clear z0;have H1:=p9 ((B.o.drew nq).two #[.string ⟨#[]⟩,.string ⟨#[]⟩,.int .i64 0] 46);have m:=(B.o.drew nq).grown.size;generalize (W.alloc (.cells #[.string ⟨#[]⟩,.string ⟨#[]⟩,.int .i64 0] 46)).drewN nq=d at H1 m⊢;clear L c1;go_wp2_with fail;refine(lD H1.o.ri K.o).mono ?_;rintro e s ⟨rfl,u,g2⟩;have j:=p9 (H1.o.call u g2);clear u g2;have A:s.cell? ⟨d.heap.size,0,none⟩=some (.string ⟨#[]⟩):=(j.o.ly.cell 0).trans rfl;have f0:=j.o.ly.free 0;go_wp2_with fail;have l:=p9 (j.o.fS 0 (.string P.n));clear A f0;generalize s.setCell ⟨d.heap.size,0,none⟩ (.string P.n)=N at l⊢;refine(mI l.o.ri eN).mono ?_;rintro e O ⟨rfl,w,g4⟩;have q:=p9 (l.o.call w g4);clear w g4;go_wp2_with fail;refine(lD q.o.ri J.o).mono ?_;rintro e f ⟨rfl,x,g5⟩;have a:=p9 (q.o.call x g5);clear x g5;have A:f.cell? ⟨d.heap.size,0,none⟩=some (.string P.n):=(a.o.ly.cell 0).trans rfl;have Z:f.cell? ⟨d.heap.size,1,none⟩=some (.string ⟨#[]⟩):=(a.o.ly.cell 1).trans rfl;have y2:f.cell? ⟨d.heap.size,2,none⟩=some (.int .i64 0):=(a.o.ly.cell 2).trans rfl;have f1:=a.o.ly.free 1;have x0:f.cell? ⟨W.heap.size,0,none⟩=some (.string ⟨#[]⟩):=(a.o.lx.cell 0).trans rfl;have x1:f.cell? ⟨W.heap.size,1,none⟩=some (.string ⟨#[]⟩):=(a.o.lx.cell 1).trans rfl;have x2:f.cell? ⟨W.heap.size,2,none⟩=some (.int .i64 0):=(a.o.lx.cell 2).trans rfl;have V:=a.o.lx.free 0;have X:=a.o.lx.free 1;have Y:=a.o.lx.free 2;have p:=a.o.xy;have F:d.heap.size≠W.heap.size:=fun e=>p e.symm
  go_wp2
  have i:=(((a.o.fS 1 (.string P.k)).eX 0 (.string P.n)).eX 1 (.string P.k)).eX 2 (.int .i64 0);generalize (((f.setCell ⟨d.heap.size,1,none⟩ (.string P.k)).setCell ⟨W.heap.size,0,none⟩ (.string P.n)).setCell ⟨W.heap.size,1,none⟩ (.string P.k)).setCell ⟨W.heap.size,2,none⟩ (.int .i64 0)=WF at i⊢;refine bodyPost_ret (v:=.agg #[.string P.n,.string P.k,.int .i64 0]) ?_ rfl ⟨by rw[C.o];rfl,by rw[C.o];exact i.ri,i.grown⟩;have G:WF.cell? ⟨W.heap.size,0,none⟩=some (.string P.n):=(i.lx.cell 0).trans rfl;have H:WF.cell? ⟨W.heap.size,1,none⟩=some (.string P.k):=(i.lx.cell 1).trans rfl;have I:WF.cell? ⟨W.heap.size,2,none⟩=some (.int .i64 0):=(i.lx.cell 2).trans rfl;simp[results,results58,go_sem,G,H,I]
theorem term(h:RI b lv ts st W):
  Calls prog 58 #[.pointer (some ⟨b,0,none⟩)] W fun e W'=>e=.returned (.agg (Ll (gD st).1))/\RI b lv ts (gD st).2 W'/\W.grownBy W' (some b):=by
 by_cases hm:isKind 2 st=true
 ·exact OL h hm
 ·exact Nq h hm
def Sx(c:bW):Array Value:=#[.int .i64 c.op,.string c.a.name,.string c.a.key,.int .i64 c.a.val,.string c.b.name,.string c.b.key,.int .i64 c.b.val]
def opAt(k:Nat):ByteArray:=jD.getD k e0
theorem EK{m:ByteArray}{r:List ByteArray}(h:aO m st=false):ef (m::r) i st=ef r (i+1) st:=by
 simp only[ef];rw[h];rfl
theorem Gl{m:ByteArray}{r:List ByteArray}(h:aO m st=true):ef (m::r) i st=(i,bz m st):=by
 simp only[ef];rw[h];rfl
theorem Ny(h:k<6):jD.drop k=opAt k::jD.drop (k+1):=by
 have a:jD.length=6:=rfl;rw[xi (by omega)]
 congr 1
 unfold opAt;rw[List.getD_eq_getElem?_getD,r6 (by omega)];rfl
abbrev t0:gP:=⟨⟨#[]⟩,⟨#[]⟩,0⟩
abbrev Qe(o:Int)(a b:gP):Array Value:=#[.int .i64 o,.string a.name,.string a.key,.int .i64 a.val,.string b.name,.string b.key,.int .i64 b.val]
structure oj(W0:World)(b:Nat)(lv:Value)(ts:List Tok)(st:RS)(x y g:Nat)(cy:Array Value)(W:World):Prop where
 two:tE W0 b lv ts st x (Qe 0 t0 t0) 125 y cy 125 W
 lg:Loc W g #[.string ⟨#[61]⟩,.string ⟨#[60,62]⟩,.string ⟨#[60]⟩,.string ⟨#[60,61]⟩,.string ⟨#[62]⟩,.string ⟨#[62,61]⟩] 9
 gb:g≠b
 gy:g≠y
theorem oj.call{W0 W c:World}{b:Nat}{d:Value}{f:List Tok}{st a:RS}{x y g:Nat}{i:Array Value}(h:oj W0 b d f st x y g i W)(h1:RI b d f a c)(g1:W.grownBy c (some b)):oj W0 b d f a x y g i c:=
 ⟨h.two.call h1 g1,h.lg.grown g1 (by simpa using h.gb),h.gb,h.gy⟩
theorem oj.fS{W0 W:World}{b:Nat}{c:Value}{d:List Tok}{st:RS}{x y g:Nat}{a:Array Value}(h:oj W0 b c d st x y g a W)(j:Nat)(u:Value):oj W0 b c d st x y g (a.setIfInBounds j u) (W.setCell ⟨y,j,none⟩ u):=
 ⟨h.two.fS j u,h.lg.aY h.gy j u,h.gb,h.gy⟩
theorem oj.QN(h:oj W0 b lv ts st x y g cy W)(k:Nat)(hk:k<6):W.cell? ⟨g,k,none⟩=some (.string (opAt k)):=by
 rw[h.lg.cell k];rcases (show k=0\/k=1\/k=2\/k=3\/k=4\/k=5 by omega) with rfl|rfl|rfl|rfl|rfl|rfl
 all_goals rfl
theorem Hl{t:gP}(h:RI b lv ts st W)(a:gD st=(t,st1)):
  Calls prog 58 #[.pointer (some ⟨b,0,none⟩)] W fun e W'=>e=.returned (.agg #[.string t.name,.string t.key,.int .i64 t.val])/\RI b lv ts st1 W'/\W.grownBy W' (some b):=by
 have:=term h;rw[a] at this;exact this
theorem Tryz.iW:(prog.info? 125).map (·.size)=some 7:=by kernel_rfl
theorem Tryz.Dx:(prog.info? 46).map (·.size)=some 3:=by kernel_rfl
theorem wQ(o:Int)(a b:gP):(Qe o a b).all (·.oneCell')=true:=by simp[Value.oneCell']
theorem Ix(b:gP):(#[.string b.name,.string b.key,.int .i64 b.val]:Array Value).all (·.oneCell')=true:=by simp[Value.oneCell']
theorem tE.G9{new:Array Value}{o:Nat}{l:List Value}(h:tE W0 b lv ts st x cx Tx y cy Ty W)(a:Loc (W.setCells y o l) y new Ty):tE W0 b lv ts st x cx Tx y new Ty (W.setCells y o l):=
 ⟨h.ri.kept (aU y l o W) (fun e=>h.yb (Bm e).symm) (a6 h.yl),h.lx.grown (aU y l o W) (fun e=>h.xy (Bm e)),a,⟨(aU y l o W).os.trans h.grown.os,(aU y l o W).tape.trans h.grown.tape,(aU y l o W).output.trans h.grown.output,r8 h.grown.size (aU y l o W).size,fun k hk hne=>((aU y l o W).block k (vH hk h.grown.size) (fun e=>by have:=h.ny;have:=Bm e;omega)).trans (h.grown.block k hk hne)⟩,h.nx,h.ny,h.xb,h.yb,h.xy,h.xl,h.yl⟩
theorem tE.swap(h:tE W0 b lv ts st x cx Tx y cy Ty W):tE W0 b lv ts st y cy Ty x cx Tx W:=⟨h.ri,h.ly,h.lx,h.grown,h.ny,h.nx,h.yb,h.xb,fun e=>h.xy e.symm,h.yl,h.xl⟩
theorem tE.dR{W0 W:World}{b:Nat}{i:Value}{j:List Tok}{st:RS}{x:Nat}{d:Array Value}{a:TypeId}{y:Nat}{g:Array Value}{c:TypeId}(h:tE W0 b i j st x d a y g c W)(f:Bool):tE W0 b i j ⟨st.rest,f⟩ x d a y g c (W.setCell ⟨b,2,none⟩ (.bool f)):=
 ⟨h.ri.dR f,h.lx.aY h.xb 2 _,h.ly.aY h.yb 2 _,ay h.grown (aE W b 2 _),h.nx,h.ny,h.xb,h.yb,h.xy,h.xl,h.yl⟩
theorem tE.copy(h:tE W0 b lv ts st x cx T y cy T W)(a:cy.size=cx.size):tE W0 b lv ts st y cy T x cy T (W.setCells x 0 cy.toList):=h.swap.G9 (h.lx.fC a)
theorem cond(h:RI b lv ts st W):
  Calls prog 56 #[.pointer (some ⟨b,0,none⟩)] W fun e W'=>e=.returned (.agg (Sx (mF st).1))/\RI b lv ts (mF st).2 W'/\W.grownBy W' (some b):=by
 have HE:=p9 (One.start h (Qe 0 t0 t0) 125);have A8:=h.box.lt;clear h;obtain⟨a,s1,ha⟩:∃a s1,gD st=(a,s1):=⟨_,_,rfl⟩;have Z:=p9 ha;clear ha;go_enter func56,ntmps56
 go_wp2_with fail;refine(Hl HE.o.ri Z.o).mono ?_;rintro e W1 ⟨rfl,h1,g1⟩;have H1:=p9 ((HE.o.call h1 g1).two (Qe 0 a t0) 125);clear h1 g1;go_wp2_with fail;generalize W1.alloc (.cells #[.int .i64 0,.string a.name,.string a.key,.int .i64 a.val,.string ⟨#[]⟩,.string ⟨#[]⟩,.int .i64 0] 125)=W2 at H1⊢;generalize W1.heap.size=Y at H1⊢;cases n:aO oZ s1 with
 | true=>
  have v:=p9 n;clear n;refine(has H1.o.ri oZ true v.o).mono ?_;rintro e S ⟨rfl,t,g3⟩;have l:=p9 (H1.o.call t g3);clear t g3;go_wp2_with fail;cases E:aO ku (bz oZ s1)
  all_goals
   have A1:=p9 E;have G:qv (mF st=(⟨if aO ku (bz oZ s1) then 8 else 7,a,oE⟩,bG jM (bz ku (bz oZ s1)))):=by
    show _=_;unfold mF;simp only[Z.o];rw[v.o];rfl
   rw[E] at G;clear E;refine(has l.o.ri ku _ A1.o).mono ?_;rintro e W4 ⟨rfl,h4,g4⟩;have R:=p9 (l.o.call h4 g4);clear h4 g4;have z0:=R.o.ly.at_ 0 (.int .i64 0) rfl;have f0:=R.o.ly.free 0;go_wp2_with fail
  have p:=p9 (R.o.fS 0 (.int .i64 7));generalize W4.setCell ⟨Y,0,none⟩ (.int .i64 7)=T at p⊢
  rotate_left
  have p:=p9 ((R.o.fS 0 (.int .i64 7)).fS 0 (.int .i64 8));generalize (W4.setCell ⟨Y,0,none⟩ (.int .i64 7)).setCell ⟨Y,0,none⟩ (.int .i64 8)=T at p⊢
  all_goals
   clear z0 f0;refine(mI p.o.ri jM).mono ?_;rintro e W6 ⟨rfl,h6,g6⟩;have q:=p9 (p.o.call h6 g6);clear h6 g6;go_upto_region 9 with fail;refine wp_region_lit ?_;refine wpList_load_mid rfl 125 _ rfl Y 0 rfl _ _ q.o.ly.range underlying125 rfl Tryz.iW ?_;refine wpList_store_mid rfl 125 _ _ rfl W.heap.size 0 _ rfl rfl q.o.lx.there Tryz.iW (wQ _ a t0) ?_;have w:=q.o.copy rfl;go_wp2_with fail;exact bodyPost_ret (ry results56 rfl w.ly underlying125 rfl Tryz.iW) rfl ⟨by rw[G.o];rfl,by rw[G.o];exact w.ri,w.grown⟩
 | false=>
  have v:=p9 n;have A0:qv (bz oZ s1=s1):=by show _=_;unfold bz;rw[n];rfl
  obtain⟨o,s2,F⟩:∃o s2,ef jD 1 s1=(o,s2):=⟨_,_,rfl⟩;obtain⟨c,U,A⟩:∃c U,gD (s2.bA (decide (o=0)))=(c,U):=⟨_,_,rfl⟩;have G:qv (mF st=(⟨o,a,c⟩,U)):=by
   show _=_;unfold mF;simp only[Z.o];rw[n];simp only[th,if_false,F,A]
  have L:=p9 F;have I:=p9 A;clear n F A;refine(has H1.o.ri oZ false v.o).mono ?_;rintro e S ⟨rfl,t,g3⟩;rw[A0.o] at t;have l:=p9 (H1.o.call t g3);have A6:=t.box.lt;clear t g3
  go_wp2
  have A2:=l.o.ly.lt;have J:qv (oj W b lv ts s1 W.heap.size Y S.heap.size (Qe 0 a t0) (S.alloc (.cells #[.string ⟨#[61]⟩,.string ⟨#[60,62]⟩,.string ⟨#[60]⟩,.string ⟨#[60,61]⟩,.string ⟨#[62]⟩,.string ⟨#[62,61]⟩] 9))):=
   ⟨⟨l.o.ri.alloc _,l.o.lx.alloc _,l.o.ly.alloc _,ay l.o.grown (aD _ _ _),l.o.nx,l.o.ny,l.o.xb,l.o.yb,l.o.xy,l.o.xl,l.o.yl⟩,Loc.new _ _ _,by omega,by omega⟩
  obtain⟨g,M⟩:∃g,g=S.heap.size:=⟨_,rfl⟩;rw[<-M] at J⊢;clear M A2
  go_loopw [7] (fun i wr=>∃(k:Nat) (u:Int) (f:RS),k<=6/\i=.int .i64 k/\oj W b lv ts f W.heap.size Y g (Qe u a t0) wr/\((u=0/\f=s1/\ef jD 1 s1=ef (jD.drop k) ((k:Int)+1) s1)\/(1<=u/\ef jD 1 s1=(u,f)))) (fun i _=>6 - (intOf i).toNat)
  case atStart=>exact⟨0,0,s1,by omega,rfl,J.o,ad ⟨rfl,rfl,rfl⟩⟩
  case round=>
   obtain⟨k,u,f,hk,rfl,d,j⟩:=hrel;have r:=p9 d;have z0:=d.two.ly.at_ 0 (.int .i64 u) rfl;have f0:=d.two.ly.free 0;by_cases C:k<6/\u=0
   ·obtain⟨O,A4⟩:=C;subst A4;have A3:f=s1/\ef jD 1 s1=ef (jD.drop k) ((k:Int)+1) s1:=by
     rcases j with ⟨_,z,t⟩|⟨z,_⟩
     ·exact⟨z,t⟩
     ·omega
    obtain⟨rfl,D⟩:=A3;rw[Ny O] at D;have y:=p9 D;have ck:=d.QN k O;obtain⟨m,hm⟩:∃m,m=opAt k:=⟨_,rfl⟩;rw[<-hm] at ck y;clear d j D hm;cases hp:aO m f with
    | true=>
     have HP:=p9 hp;have x:qv (ef jD 1 f=((k:Int)+1,bz m f)):=by show _=_;rw[y.o];exact Gl hp
     clear hp;go_wp2_with (go_at_call 19;refine(has r.o.two.ri m true HP.o).mono ?_;rintro e T ⟨rfl,H,g5⟩;have p:=p9 (r.o.call H g5);have A9:T.cell? ⟨Y,0,none⟩=some (.int .i64 0):=(p.o.two.ly.cell 0).trans rfl;have A5:=p.o.two.ly.free 0;clear H g5)
     go_roundw
     case rel=>exact⟨k+1,(k:Int)+1,bz m f,by omega,by go_num,p.o.fS 0 (.int .i64 ((k:Int)+1)),a6 ⟨by omega,x.o⟩⟩
     case measure=>simp[intOf];omega
    | false=>
     have HP:=p9 hp;have K:qv (bz m f=f):=by show _=_;unfold bz;rw[hp];rfl
     have x:qv (ef jD 1 f=ef (jD.drop (k+1)) ((k+1:Nat)+1:Int) f):=by show _=_;rw[y.o,EK hp];rfl
     clear hp;go_wp2_with (go_at_call 19;refine(has r.o.two.ri m false HP.o).mono ?_;rintro e T ⟨rfl,H,g5⟩;rw[K.o] at H;have p:=p9 (r.o.call H g5);clear H g5)
     go_roundw
     case rel=>exact⟨k+1,0,f,by omega,by go_num,p.o,ad ⟨rfl,rfl,x.o⟩⟩
     case measure=>simp[intOf];omega
   ·have Q:u=o/\f=s2:=by
     rcases j with ⟨h1,z,t⟩|⟨h1,z⟩
     ·have N:k=6:=by omega
      subst N;have:ef jD 1 s1=(0,s1):=t.trans rfl;rw[L.o] at this;injection this with e1 e2
      exact⟨by omega,by rw[z,e2]⟩
     ·rw[L.o] at z;injection z with e1 e2
      exact⟨e1.symm,e2.symm⟩
    obtain⟨rfl,rfl⟩:=Q;have q2:=d.two.ri.box.at_ 2 (.bool f.bad) rfl;have p2:=d.two.ri.box.free 2;have A7:=d.two.yb;have s:gD ⟨f.rest,f.bad || (u==0)⟩=(c,U):=I.o;have q:=d.two.dR (f.bad || (u==0));clear d j I;cases B:f.bad<;>cases P:(u==0)<;>by_cases N:k<6
    all_goals (try (exact absurd (And.intro (by assumption:k<6) (by simpa using P)) C))
    all_goals
     rw[B] at q2;rw[B,P] at q s;simp only[Bool.true_or,Bool.false_or] at q s;replace q:=p9 q;replace s:=p9 s;clear B C;go_wp2_with fail;refine(Hl q.o.ri s.o).mono ?_;rintro e W7 ⟨rfl,h7,g7⟩;have V:=p9 (q.o.call h7 g7);clear h7 g7 z0 f0 q2 p2 q r;go_upto_region 19 with (refine wpList_store_mid rfl 46 _ _ rfl Y 4 #[.string c.name,.string c.key,.int .i64 c.val] rfl rfl (V.o.ly.Ii 4 3 (rm 7)) Tryz.Dx (Ix c) ?_)
     have X:=p9 (V.o.G9 (Loc.setMany [.string c.name,.string c.key,.int .i64 c.val] 4 _ _ V.o.ly (rm 7)));refine wp_region_lit ?_;refine wpList_load_mid rfl 125 _ rfl Y 0 rfl _ _ X.o.ly.range underlying125 rfl Tryz.iW ?_;refine wpList_store_mid rfl 125 _ _ rfl W.heap.size 0 _ rfl rfl X.o.lx.there Tryz.iW (wQ _ a c) ?_;have w:=X.o.copy rfl;go_wp2_with fail;exact bodyPost_ret (ry results56 rfl w.ly underlying125 rfl Tryz.iW) rfl ⟨by rw[G.o];rfl,by rw[G.o];exact w.ri,w.grown⟩
def bL(l:List aK):List Value:=l.flatMap fun x=>[.string x.name,.string x.ai,.string x.type,.int .i64 x.least,.int .i64 x.bq]
theorem zr(l:List aK)(x:aK):bL (l++[x])=bL l++[.string x.name,.string x.ai,.string x.type,.int .i64 x.least,.int .i64 x.bq]:=by
 unfold bL;rw[As];simp
theorem Tryz.zj:(prog.info? 191).map (fun i=>(i.zero,i.size,i.bytes))=some (some (.agg #[.string ⟨#[]⟩,.string ⟨#[]⟩,.string ⟨#[]⟩,.int .i64 0,.int .i64 0]),5,64):=by kernel_rfl
theorem FC{w:World}{a b c d e:Value} :∀(j:Nat) (u:Value),[a,b,c,d,e][j]?=some u->(w.alloc (.cells #[a,b,c,d,e] T)).cell? ((⟨w.heap.size,0,none⟩:Addr).add j)=some u:=by
 intro j u f
 match j,f with
 | 0,f=>simp at f;subst f;simp[Addr.add]
 | 1,f=>simp at f;subst f;simp[Addr.add]
 | 2,f=>simp at f;subst f;simp[Addr.add]
 | 3,f=>simp at f;subst f;simp[Addr.add]
 | 4,f=>simp at f;subst f;simp[Addr.add]
theorem oV{b c:ByteArray}{d e:Int}:∀u∈[Value.string a,.string b,.string c,.int .i64 d,.int .i64 e],u.oneCell'=true:=by
 intro u hu;simp at hu;rcases hu with rfl|rfl|rfl|rfl|rfl<;>rfl
structure iR(W0:World)(b:Nat)(lv:Value)(ts:List Tok)(st:RS)(x:Nat)(cx:Array Value)(v:Value)(out:List aK)(W:World):Prop where
 one:One W0 b lv ts st x cx 191 W
 row:W.ownsRow W0.heap.size 191 5 v out.length (bL out)
 vx:v.ownBlock≠some x
theorem FG(h:RI b lv ts st W)(d:W.ownsRow B 191 5 v n xs):v.ownBlock=none\/v.ownBlock≠some b:=by
 right
 intro he;rcases d.2 with ⟨rfl,_⟩|⟨g,cap,f,rfl,i,c,_⟩
 ·simp[Value.ownBlock] at he
 ·simp[Value.ownBlock] at he;subst he;have a:=h.box;unfold Loc at a;rw[c] at a;simp at a
theorem iR.call{W0 W c:World}{b:Nat}{d:Value}{f:List Tok}{st a:RS}{x:Nat}{g:Array Value}{v:Value}{out:List aK}(h:iR W0 b d f st x g v out W)(h1:RI b d f a c)(g1:W.grownBy c (some b)):iR W0 b d f a x g v out c:=
 ⟨h.one.call h1 g1,h.row.kept g1 (FG h.one.ri h.row),h.vx⟩
theorem iR.eX{W0 W:World}{b:Nat}{c:Value}{d:List Tok}{st:RS}{x:Nat}{a:Array Value}{v:Value}{out:List aK}(h:iR W0 b c d st x a v out W)(j:Nat)(u:Value):iR W0 b c d st x (a.setIfInBounds j u) v out (W.setCell ⟨x,j,none⟩ u):=
 ⟨h.one.eX j u,h.row.kept (aE W x j u) (a6 h.vx),h.vx⟩
structure tI(W0:World)(b:Nat)(lv:Value)(ts:List Tok)(st:RS)(x:Nat)(cx:Array Value)(v:Value)(out:List aK)(y:Nat)(cy:Array Value)(W:World):Prop where
 two:tE W0 b lv ts st x cx 191 y cy 191 W
 row:W.ownsRow W0.heap.size 191 5 v out.length (bL out)
 vx:v.ownBlock≠some x
 vy:v.ownBlock≠some y
theorem iR.more{out:List aK}(h:iR W0 b lv ts st x cx v out W)(a:Array Value):tI W0 b lv ts st x cx v out W.heap.size a (W.alloc (.cells a 191)):=
 ⟨h.one.two a _,h.row.alloc _,h.vx,fun e=>by have:=(h.row.lt _ e).2;omega⟩
theorem tI.call{W0 W c:World}{b:Nat}{d:Value}{f:List Tok}{st a:RS}{x:Nat}{g:Array Value}{v:Value}{out:List aK}{y:Nat}{i:Array Value}(h:tI W0 b d f st x g v out y i W)(h1:RI b d f a c)(g1:W.grownBy c (some b)):tI W0 b d f a x g v out y i c:=
 ⟨h.two.call h1 g1,h.row.kept g1 (FG h.two.ri h.row),h.vx,h.vy⟩
theorem tI.fS{W0 W:World}{b:Nat}{d:Value}{f:List Tok}{st:RS}{x:Nat}{a:Array Value}{v:Value}{out:List aK}{y:Nat}{c:Array Value}(h:tI W0 b d f st x a v out y c W)(j:Nat)(u:Value):tI W0 b d f st x a v out y (c.setIfInBounds j u) (W.setCell ⟨y,j,none⟩ u):=
 ⟨h.two.fS j u,h.row.kept (aE W y j u) (a6 h.vy),h.vx,h.vy⟩
theorem tI.less{out:List aK}(h:tI W0 b lv ts st x cx v out y cy W):iR W0 b lv ts st x cx v out W:=⟨h.two.one,h.row,h.vx⟩
theorem iR.E9{out:List aK}{p:aK}{cap:Nat}{o:Obj}(h:iR W0 b lv ts st x cx v out W)
  (i:w2.ownsRow W0.heap.size 191 5 (.slice (some ⟨g,0,none⟩) (out.length+1) cap) (out.length+1) (bL out++[.string p.name,.string p.ai,.string p.type,.int .i64 p.least,.int .i64 p.bq]))
  (c:(W.alloc o).grownBy w2 v.ownBlock) (l:v.ownBlock=some g\/g=W.heap.size+1):iR W0 b lv ts st x cx (.slice (some ⟨g,0,none⟩) (out.length+1) cap) (out++[p]) w2:=by
 have d:=h.one.ri.alloc o;have C:=h.one.lx.alloc o;have A:=h.row.alloc o;have s:some b≠v.ownBlock:=by
  rcases FG h.one.ri h.row with e|e
  ·rw[e];simp
  ·exact fun h=>e h.symm
 have r:lv.ownBlock=none\/lv.ownBlock≠v.ownBlock:=by
  cases j:lv.ownBlock with
  | none=>left;rfl
  | some q=>
   right
   intro he;obtain⟨B,z⟩:=d.row;rcases z.2 with ⟨e,_⟩|⟨g1,c1,t,e,_,m,_⟩
   ·rw[e] at j;simp[Value.ownBlock] at j
   ·rcases A.2 with ⟨a,_⟩|⟨g2,c2,u,a,_,f,_⟩
    ·rw[a] at he;simp[Value.ownBlock] at he
    ·rw[e] at j;rw[a] at he;have w:g1=q:=by simpa [Value.ownBlock] using j
     have y:q=g2:=by simpa [Value.ownBlock] using he
     subst w;subst y;rw[m] at f;simp at f
 have E:=h.one.grown.size;refine⟨⟨d.kept c s r,C.grown c (fun e=>h.vx e.symm),⟨c.os.trans h.one.grown.os,c.tape.trans h.one.grown.tape,c.output.trans h.one.grown.output,?_,?_⟩,h.one.nx,h.one.xb,h.one.xl⟩,?_,?_⟩
 ·have:=c.size;simp at this;omega
 ·intro k hk n;have h1:=(ay h.one.grown (aD W o _)).block k hk n;refine(c.block k (by simp;omega) ?_).trans h1;intro e;have:=(h.row.lt k e.symm).1;omega
 ·rw[zr,r7];exact i
 ·have D:=h.one.lx.lt;rcases l with e|e
  ·intro a;apply h.vx;rw[e];exact a
  ·intro a;have:g=x:=by simpa [Value.ownBlock] using a
   omega
theorem Gh{s1:RS}(h:RI b lv ts st W)(p q:aK)(a:iz p st=(q,s1)):
  Calls prog 100 #[.pointer (some ⟨b,0,none⟩),.agg #[.string p.name,.string p.ai,.string p.type,.int .i64 p.least,.int .i64 p.bq]] W
   fun e W'=>e=.returned (.agg #[.string q.name,.string q.ai,.string q.type,.int .i64 q.least,.int .i64 q.bq])/\RI b lv ts s1 W'/\W.grownBy W' (some b):=by
 have:=spot h p;rw[a] at this;exact this
theorem aR{W:World}{x:Nat}{cs:Array Value}(d:W.ownsRow B T k v n xs)(a:Loc W x cs T')(b:T≠T'):v.ownBlock≠some x:=by
 intro he;rcases d.2 with ⟨rfl,_⟩|⟨g,cap,f,rfl,h,c,_⟩
 ·simp[Value.ownBlock] at he
 ·simp[Value.ownBlock] at he;subst he;unfold Loc at a;rw[c] at a;simp at a;exact b a.2
theorem bT{W:World}{i p n':Nat}{h:Value}{c:List Value}(o:W.ownsRow B T k v n xs)(b:W.ownsRow i T' p h n' c)(j:T≠T'):v.ownBlock=none\/v.ownBlock≠h.ownBlock:=by
 rcases o.2 with ⟨rfl,_⟩|⟨g,cap,q,rfl,r,m,_⟩
 ·left;simp[Value.ownBlock]
 ·right
  intro he;rcases b.2 with ⟨rfl,_⟩|⟨g2,d,f,rfl,l,a,_⟩
  ·simp[Value.ownBlock] at he
  ·simp[Value.ownBlock] at he;subst he;rw[m] at a;simp at a;exact j a.2
theorem RI.dY{W g:World}{b:Nat}{d:Value}{f:List Tok}{st:RS}(h:RI b d f st W)(c:W.ownsRow B T k v n xs)(j:W.grownBy g v.ownBlock)(h1:T≠91)(i:115≠T):RI b d f st g:=by
 obtain⟨l,a⟩:=h.row;exact h.kept j (fun e=>aR c h.box h1 e.symm) (bT a c i)
theorem Loc.dY{W a:World}{x:Nat}{cs:Array Value}(h:Loc W x cs T')(c:W.ownsRow B T k v n xs)(b:W.grownBy a v.ownBlock)(h1:T≠T'):Loc a x cs T':=
 h.grown b (fun e=>aR c h h1 e.symm)
theorem nT{W0 W d:World}{b:Nat}(h:W0.grownBy W (some b))(g:W.ownsRow W0.heap.size T k v n xs)(a:W.grownBy d v.ownBlock):W0.grownBy d (some b):=by
 have i:=h.size;refine⟨a.os.trans h.os,a.tape.trans h.tape,a.output.trans h.output,r8 i a.size,?_⟩;intro j f c;refine(a.block j (by omega) ?_).trans (h.block j f c);intro e;have:=(g.lt j e.symm).1;omega
def eK(l:List bW):List Value:=l.flatMap fun c=>[.int .i64 c.op,.string c.a.name,.string c.a.key,.int .i64 c.a.val,.string c.b.name,.string c.b.key,.int .i64 c.b.val]
theorem qL(l:List bW)(c:bW):eK (l++[c])=eK l++[.int .i64 c.op,.string c.a.name,.string c.a.key,.int .i64 c.a.val,.string c.b.name,.string c.b.key,.int .i64 c.b.val]:=by
 unfold eK;rw[As];simp
def eJ(l:List aZ):List Value:=l.flatMap fun c=>[.string c.name,.string c.key]
theorem qY(l:List aZ)(c:aZ):eJ (l++[c])=eJ l++[.string c.name,.string c.key]:=by
 unfold eJ;rw[As];simp
def fu(l:List bm):List Value:=l.flatMap fun c=>[.string c.key,.int .i64 c.val]
theorem qH(l:List bm)(c:bm):fu (l++[c])=fu l++[.string c.key,.int .i64 c.val]:=by
 unfold fu;rw[As];simp
theorem k7(l m:List aK):bL (l++m)=bL l++bL m:=by unfold bL;rw[As]
theorem oB(l:List aK):(bL l).length=l.length*5:=by
 induction l with
 | nil=>rfl
 | cons x l ih=>show ([_,_,_,_,_]++bL l).length=_;rw[r7,ih];simp;omega
theorem zS(l:List aK):∀u∈bL l,u.oneCell'=true:=by
 intro u hu;unfold bL at hu;obtain⟨x,_,a⟩:=List.mem_flatMap.1 hu;exact oV u a
structure LU where
 vs:Value
 sp:List aK
 vc:Value
 cd:List bW
 vi:Value
 it:List aZ
 vp:Value
 pr:List bm
structure fN(W0:World)(b:Nat)(lv:Value)(ts:List Tok)(st:RS)(x:Nat)(cs:Array Value)(R:LU)(W:World):Prop where
 ri:RI b lv ts st W
 lq:Loc W x cs 49
 grown:W0.grownBy W (some b)
 nx:W0.heap.size<=x
 rs:W.ownsRow W0.heap.size 191 5 R.vs R.sp.length (bL R.sp)
 rc:W.ownsRow W0.heap.size 125 7 R.vc R.cd.length (eK R.cd)
 rt:W.ownsRow W0.heap.size 129 2 R.vi R.it.length (eJ R.it)
 rp:W.ownsRow W0.heap.size 120 2 R.vp R.pr.length (fu R.pr)
variable {W0 W W' w2:World} {b x:Nat} {lv:Value} {ts:List Tok} {st st':RS} {cs:Array Value} {R:LU}
theorem fN.xb(h:fN W0 b lv ts st x cs R W):x≠b:=by
 rintro rfl;have h1:=h.lq;have a:=h.ri.box;unfold Loc at h1 a;rw[h1] at a;simp at a
theorem fN.call(h:fN W0 b lv ts st x cs R W)(h1:RI b lv ts st' W')(g1:W.grownBy W' (some b)):fN W0 b lv ts st' x cs R W':=
 ⟨h1,h.lq.grown g1 (by simpa using h.xb),ay h.grown g1,h.nx,h.rs.kept g1 (a6 (aR h.rs h.ri.box (by decide))),h.rc.kept g1 (a6 (aR h.rc h.ri.box (by decide))),h.rt.kept g1 (a6 (aR h.rt h.ri.box (by decide))),h.rp.kept g1 (a6 (aR h.rp h.ri.box (by decide)))⟩
theorem fN.alloc(h:fN W0 b lv ts st x cs R W)(o:Obj):fN W0 b lv ts st x cs R (W.alloc o):=h.call (h.ri.alloc o) (aD W o _)
theorem fN.drew(h:fN W0 b lv ts st x cs R W)(n:Nat):fN W0 b lv ts st x cs R (W.drewN n):=h.call (h.ri.drew n) (fh W n _)
theorem fN.dR(h:fN W0 b lv ts st x cs R W)(y:Bool):fN W0 b lv ts ⟨st.rest,y⟩ x cs R (W.setCell ⟨b,2,none⟩ (.bool y)):=h.call (h.ri.dR y) (aE W b 2 _)
theorem fN.set(h:fN W0 b lv ts st x cs R W)(j:Nat)(u:Value):fN W0 b lv ts st x (cs.setIfInBounds j u) R (W.setCell ⟨x,j,none⟩ u):=by
 have g:=aE W x j u;obtain⟨B,a⟩:=h.ri.row;exact⟨h.ri.aY (fun e=>h.xb e.symm) (aR a h.lq (by decide)) j u,h.lq.set j u,bU h.grown h.nx j u,h.nx,h.rs.kept g (a6 (aR h.rs h.lq (by decide))),h.rc.kept g (a6 (aR h.rc h.lq (by decide))),h.rt.kept g (a6 (aR h.rt h.lq (by decide))),h.rp.kept g (a6 (aR h.rp h.lq (by decide)))⟩
theorem fN.ah{l:List aK}(h:fN W0 b lv ts st x cs R W)(a:W.grownBy w2 R.vs.ownBlock)(c:w2.ownsRow W0.heap.size 191 5 v (R.sp++l).length (bL (R.sp++l))):fN W0 b lv ts st x cs {R with vs:=v,sp:=R.sp++l} w2:=
 ⟨h.ri.dY h.rs a (by decide) (by decide),h.lq.dY h.rs a (by decide),nT h.grown h.rs a,h.nx,c,h.rc.kept a (bT h.rc h.rs (by decide)),h.rt.kept a (bT h.rt h.rs (by decide)),h.rp.kept a (bT h.rp h.rs (by decide))⟩
theorem fN.aq{l:List bW}(h:fN W0 b lv ts st x cs R W)(a:W.grownBy w2 R.vc.ownBlock)(c:w2.ownsRow W0.heap.size 125 7 v (R.cd++l).length (eK (R.cd++l))):fN W0 b lv ts st x cs {R with vc:=v,cd:=R.cd++l} w2:=
 ⟨h.ri.dY h.rc a (by decide) (by decide),h.lq.dY h.rc a (by decide),nT h.grown h.rc a,h.nx,h.rs.kept a (bT h.rs h.rc (by decide)),c,h.rt.kept a (bT h.rt h.rc (by decide)),h.rp.kept a (bT h.rp h.rc (by decide))⟩
theorem fN.af{l:List aZ}(h:fN W0 b lv ts st x cs R W)(a:W.grownBy w2 R.vi.ownBlock)(c:w2.ownsRow W0.heap.size 129 2 v (R.it++l).length (eJ (R.it++l))):fN W0 b lv ts st x cs {R with vi:=v,it:=R.it++l} w2:=
 ⟨h.ri.dY h.rt a (by decide) (by decide),h.lq.dY h.rt a (by decide),nT h.grown h.rt a,h.nx,h.rs.kept a (bT h.rs h.rt (by decide)),h.rc.kept a (bT h.rc h.rt (by decide)),c,h.rp.kept a (bT h.rp h.rt (by decide))⟩
theorem fN.aj{l:List bm}(h:fN W0 b lv ts st x cs R W)(a:W.grownBy w2 R.vp.ownBlock)(c:w2.ownsRow W0.heap.size 120 2 v (R.pr++l).length (fu (R.pr++l))):fN W0 b lv ts st x cs {R with vp:=v,pr:=R.pr++l} w2:=
 ⟨h.ri.dY h.rp a (by decide) (by decide),h.lq.dY h.rp a (by decide),nT h.grown h.rp a,h.nx,h.rs.kept a (bT h.rs h.rp (by decide)),h.rc.kept a (bT h.rc h.rp (by decide)),h.rt.kept a (bT h.rt h.rp (by decide)),c⟩
end
section
open Go.RowKit
structure QY(W0:World)(b:Nat)(lv:Value)(ts:List Tok)(st:RS)(x:Nat)(cs:Array Value)(R:LU)(y:Nat)(cy:Array Value)(T:TypeId)(W:World):Prop where
 q:fN W0 b lv ts st x cs R W
 ly:Loc W y cy T
 yb:y≠b
 yx:y≠x
 yl:lv.ownBlock≠some y
 ny:W0.heap.size<=y
 ys:R.vs.ownBlock≠some y
 yc:R.vc.ownBlock≠some y
 yi:R.vi.ownBlock≠some y
 yp:R.vp.ownBlock≠some y
variable {W0 W W' w2:World} {b x y:Nat} {lv:Value} {ts:List Tok} {st st':RS} {cs cy:Array Value} {R:LU} {T:TypeId}
theorem uw{W:World}{T:TypeId}(a:W.ownsRow B T k v n xs):v.ownBlock≠some W.heap.size:=by
 intro e;have:=(a.lt _ e).2;omega
theorem fN.more(h:fN W0 b lv ts st x cs R W)(a:Array Value)(T:TypeId):QY W0 b lv ts st x cs R W.heap.size a T (W.alloc (.cells a T)):=by
 obtain⟨B,c⟩:=h.ri.row;have d:=h.ri.box.lt;have f:=h.lq.lt;exact⟨h.alloc _,Loc.new W a T,by omega,by omega,uw c,h.grown.size,uw h.rs,uw h.rc,uw h.rt,uw h.rp⟩
theorem QY.call(h:QY W0 b lv ts st x cs R y cy T W)(h1:RI b lv ts st' W')(g1:W.grownBy W' (some b)):QY W0 b lv ts st' x cs R y cy T W':=
 ⟨h.q.call h1 g1,h.ly.grown g1 (by simpa using h.yb),h.yb,h.yx,h.yl,h.ny,h.ys,h.yc,h.yi,h.yp⟩
theorem QY.fS(h:QY W0 b lv ts st x cs R y cy T W)(j:Nat)(u:Value):QY W0 b lv ts st x cs R y (cy.setIfInBounds j u) T (W.setCell ⟨y,j,none⟩ u):=by
 have g:=aE W y j u;exact⟨⟨h.q.ri.aY (fun e=>h.yb e.symm) h.yl j u,h.q.lq.aY (fun e=>h.yx e.symm) j u,bU h.q.grown h.ny j u,h.q.nx,h.q.rs.kept g (a6 h.ys),h.q.rc.kept g (a6 h.yc),h.q.rt.kept g (a6 h.yi),h.q.rp.kept g (a6 h.yp)⟩,h.ly.set j u,h.yb,h.yx,h.yl,h.ny,h.ys,h.yc,h.yi,h.yp⟩
theorem QY.dR(h:QY W0 b lv ts st x cs R y cy T W)(z:Bool):QY W0 b lv ts ⟨st.rest,z⟩ x cs R y cy T (W.setCell ⟨b,2,none⟩ (.bool z)):=h.call (h.q.ri.dR z) (aE W b 2 _)
theorem uv{b:ByteArray}:∀u∈[Value.string a,.string b],u.oneCell'=true:=by
 intro u hu;simp at hu;rcases hu with rfl|rfl<;>rfl
theorem CZ :∀u∈[Value.string a,.int .i64 i],u.oneCell'=true:=by
 intro u hu;simp at hu;rcases hu with rfl|rfl<;>rfl
theorem Tryz.DW:(prog.info? 129).map (fun i=>(i.zero,i.size,i.bytes))=some (some (.agg #[.string ⟨#[]⟩,.string ⟨#[]⟩]),2,32):=by kernel_rfl
theorem Tryz.tL:(prog.info? 120).map (fun i=>(i.zero,i.size,i.bytes))=some (some (.agg #[.string ⟨#[]⟩,.int .i64 0]),2,24):=by kernel_rfl
end
end Go.Proofs.YtbfmmmjkjhjleaaGreatDoor
