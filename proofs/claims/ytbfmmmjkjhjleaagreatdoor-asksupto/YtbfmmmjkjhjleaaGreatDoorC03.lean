/- Mine. -/
import Derived.Test.YtbfmmmjkjhjleaaGreatDoorC02
import Derived.Test.YtbfmmmjkjhjleaaGreatDoorC01
set_option maxRecDepth 100000
set_option maxHeartbeats 0
namespace Go.Proofs.YtbfmmmjkjhjleaaGreatDoor
open Go.Proofs.Tryz
variable {b X:Nat} {W w W':World} {st:RS} {ts:List Tok} {lv:Value} {T:TypeId} {cs:Array Value} {s:ByteArray} {r:Option Nat}
section
open Go.RowKit
theorem zH(t:Tok)(r:List Tok):dO (t::r)=.int .i64 t.kind::.string t.text::.int .i64 t.val::dO r:=by
 unfold dO;rw[vz];rfl
theorem EB(a:List Tok):∀(k:Nat) (h:k<a.length),(dO a)[k*3]?=some (.int .i64 a[k].kind)/\(dO a)[k*3+1]?=some (.string a[k].text)/\(dO a)[k*3+2]?=some (.int .i64 a[k].val):=by
 induction a with
 | nil=>intro k h;simp at h
 | cons t r ih=>
  intro k h;rw[zH];cases k with
  | zero=>exact⟨rfl,rfl,rfl⟩
  | succ k=>
   have:=ih k (by simpa using h);rw[show (k+1)*3=k*3+1+1+1 by omega,show k*3+1+1+1+1=(k*3+1)+1+1+1 by omega,show k*3+1+1+1+2=(k*3+2)+1+1+1 by omega];simp only[List.getElem?_cons_succ,tk];exact this
theorem Oc{B g n cap:Nat}(h:w.ownsRow B 115 3 (.slice (some ⟨g,0,none⟩) n cap) n (dO ts))(c:ts.length=n)(k:Nat)(hk:k<ts.length):
  w.cell? ⟨g,k*3,none⟩=some (.int .i64 ts[k].kind)/\w.cell? ⟨g,k*3+1,none⟩=some (.string ts[k].text)/\w.cell? ⟨g,k*3+2,none⟩=some (.int .i64 ts[k].val):=by
 obtain⟨a,h1,b⟩:=EB ts k hk;exact⟨(h.cellAt _ (by omega)).trans a,(h.cellAt _ (by omega)).trans h1,(h.cellAt _ (by omega)).trans b⟩
def mk(m:Int):Tok:=⟨m,⟨#[]⟩,0⟩
def marks(m:Int)(n:Nat):List Tok:=List.replicate n (mk m)
theorem Dy{B:Nat}{v:Value}(h:w.ownsRow B 115 3 v ts.length (dO ts)):
  ∃ao cap,v=.slice ao ts.length cap/\ts.length<=cap/\∀k,(hk:k<ts.length)->∃g,ao=some ⟨g,0,none⟩/\w.cell? ⟨g,k*3,none⟩=some (.int .i64 ts[k].kind)/\w.cell? ⟨g,k*3+1,none⟩=some (.string ts[k].text)/\w.cell? ⟨g,k*3+2,none⟩=some (.int .i64 ts[k].val):=by
 rcases h.2 with ⟨a,c⟩|⟨g,cap,d,a,f,i,b,_⟩
 ·exact⟨none,0,by rw[a,c],by omega,fun k hk=>by omega⟩
 ·rw[a] at h;exact⟨some ⟨g,0,none⟩,cap,a,b,fun k hk=>⟨g,rfl,Oc h rfl k hk⟩⟩
def Loc(W:World)(b:Nat)(cs:Array Value)(T:TypeId):Prop:=W.heap[b]?=some (.cells cs T (0,0))
theorem Loc.lt(h:Loc W b cs T):b<W.heap.size:=lt_of_block h
theorem Loc.cell{W:World}{b:Nat}{cs:Array Value}{T:TypeId}(h:Loc W b cs T)(j:Nat):W.cell? ⟨b,j,none⟩=cs[j]?:=by
 unfold Loc at h;simp[World.cell?,h]
theorem Loc.at_(h:Loc W b cs T)(j:Nat)(v:Value)(e:cs[j]?=some v):W.cell? ⟨b,j,none⟩=some v:=(h.cell j).trans e
theorem Loc.free(h:Loc W b cs T)(j:Nat):W.frozen? ⟨b,j,none⟩=false:=by
 unfold Loc at h;simp[World.frozen?,h]
theorem Loc.set(h:Loc W b cs T)(j:Nat)(u:Value):Loc (W.setCell ⟨b,j,none⟩ u) b (cs.setIfInBounds j u) T:=by
 unfold Loc at h⊢;simp[World.setCell,Array.getElem?_modify,h]
theorem Loc.aY{b':Nat}(h:Loc W b cs T)(a:b≠b')(j:Nat)(u:Value):Loc (W.setCell ⟨b',j,none⟩ u) b cs T:=by
 unfold Loc at h⊢;rw[Below.heap_setCell W ⟨b',j,none⟩ u b a];exact h
theorem Loc.alloc{W:World}{b:Nat}{cs:Array Value}{T:TypeId}(h:Loc W b cs T)(o:Obj):Loc (W.alloc o) b cs T:=by
 unfold Loc;rw[Below.heap_alloc W o b h.lt];exact h
theorem Loc.new(W:World)(cs:Array Value)(T:TypeId):Loc (W.alloc (.cells cs T)) W.heap.size cs T:=heap_alloc_new W _
theorem Loc.grown(h:Loc W b cs T)(c:W.grownBy W' r)(a:some b≠r):Loc W' b cs T:=by
 unfold Loc;rw[c.block b h.lt a];exact h
theorem Loc.drew(h:Loc W b cs T)(n:Nat):Loc (W.drewN n) b cs T:=h
theorem ay{a b c:World}(h:a.grownBy b r)(k:b.grownBy c r):a.grownBy c r:=
 ⟨k.os.trans h.os,k.tape.trans h.tape,k.output.trans h.output,r8 h.size k.size,fun j hj hne=>(k.block j (vH hj h.size) hne).trans (h.block j hj hne)⟩
theorem nu(w:World)(r:Option Nat):w.grownBy w r:=⟨rfl,rfl,rfl,rm _,fun _ _ _=>rfl⟩
theorem fh(w:World)(n:Nat)(r:Option Nat):w.grownBy (w.drewN n) r:=⟨rfl,rfl,rfl,rm _,fun _ _ _=>rfl⟩
theorem aE(w:World)(b j:Nat)(u:Value):w.grownBy (w.setCell ⟨b,j,none⟩ u) (some b):=
 ⟨rfl,rfl,rfl,by simp[World.setCell],fun k _ hne=>Below.heap_setCell w ⟨b,j,none⟩ u k (fun e=>hne (by rw[e]))⟩
theorem aD(w:World)(o:Obj)(r:Option Nat):w.grownBy (w.alloc o) r:=World.grownBy_alloc w o r
theorem ag{a:World}(h:Below w.heap.size w a)(r:Option Nat):w.grownBy a r:=⟨h.os,h.tape,h.output,h.size,fun k hk _=>h.block k hk⟩
theorem bU{a b:World}(h:a.grownBy b r){x:Nat}(c:a.heap.size<=x)(j:Nat)(u:Value):a.grownBy (b.setCell ⟨x,j,none⟩ u) r:=
 ⟨h.os,h.tape,h.output,by simpa [World.setCell] using h.size,fun k hk hne=>(Below.heap_setCell b ⟨x,j,none⟩ u k (by show k≠x;omega)).trans (h.block k hk hne)⟩
structure RI(b:Nat)(lv:Value)(ts:List Tok)(st:RS)(W:World):Prop where
 box:Loc W b #[lv,.int .i64 ((ts.length - st.rest.length:Nat):Int),.bool st.bad] 91
 Th:∃pre,ts=pre++st.rest
 row:∃B,W.ownsRow B 115 3 lv ts.length (dO ts)
 len:ts.length<=2000
theorem RI.ne(h:RI b lv ts st W):lv.ownBlock≠some b:=by
 obtain⟨B,d⟩:=h.row;intro he;rcases d.2 with ⟨rfl,_⟩|⟨g,cap,f,rfl,i,c,_⟩
 ·simp[Value.ownBlock] at he
 ·simp[Value.ownBlock] at he;subst he;have a:=h.box;unfold Loc at a;rw[c] at a;simp at a
theorem RI.kept{b:Nat}{a:Value}{f:List Tok}{st:RS}{W c:World}{r:Option Nat}(h:RI b a f st W)(d:W.grownBy c r)(h1:some b≠r)(g:a.ownBlock=none\/a.ownBlock≠r):RI b a f st c:=by
 obtain⟨B,i⟩:=h.row;exact⟨h.box.grown d h1,h.Th,⟨B,i.kept d g⟩,h.len⟩
theorem RI.old(h:RI b lv ts st W)(a:W.grownBy W' none):RI b lv ts st W':=
 h.kept a (by simp) (by cases c:lv.ownBlock<;>simp)
theorem RI.alloc{b:Nat}{a:Value}{c:List Tok}{st:RS}{W:World}(h:RI b a c st W)(o:Obj):RI b a c st (W.alloc o):=h.old (aD W o none)
theorem RI.drew(h:RI b lv ts st W)(n:Nat):RI b lv ts st (W.drewN n):=h.old (fh W n none)
theorem RI.aY{x:Nat}(h:RI b lv ts st W)(h1:b≠x)(a:lv.ownBlock≠some x)(j:Nat)(u:Value):RI b lv ts st (W.setCell ⟨x,j,none⟩ u):=
 h.kept (aE W x j u) (by simpa using h1) (a6 a)
theorem RI.dR(h:RI b lv ts st W)(x:Bool):RI b lv ts ⟨st.rest,x⟩ (W.setCell ⟨b,2,none⟩ (.bool x)):=by
 obtain⟨B,a⟩:=h.row;exact⟨h.box.set 2 (.bool x),h.Th,⟨B,a.kept (aE W b 2 _) (a6 h.ne)⟩,h.len⟩
theorem RI.setAt{t:Tok}{r:List Tok}(h:RI b lv ts st W)(c:st.rest=t::r)(x:Int)(d:x=((ts.length - r.length:Nat):Int)):RI b lv ts ⟨r,st.bad⟩ (W.setCell ⟨b,1,none⟩ (.int .i64 x)):=by
 obtain⟨B,a⟩:=h.row;obtain⟨pre,hp⟩:=h.Th;subst d;exact⟨h.box.set 1 (.int .i64 ((ts.length - r.length:Nat):Int)),⟨pre++[t],by rw[hp,c];simp⟩,⟨B,a.kept (aE W b 1 _) (a6 h.ne)⟩,h.len⟩
theorem dW{a b:Bool}(h:a=b):Ending.returned (.bool a)=.returned (.bool b):=by rw[h]
theorem RI.seen(h:RI b lv ts st W):
  ∃ao cap k,lv=.slice ao ts.length cap/\ts.length<=cap/\ts.length<=2000/\k=ts.length - st.rest.length/\st.rest.length<=ts.length/\
   W.cell? ⟨b,0,none⟩=some lv/\W.cell? ⟨b,1,none⟩=some (.int .i64 (k:Nat))/\W.cell? ⟨b,2,none⟩=some (.bool st.bad)/\
   ∀t r,st.rest=t::r->k<ts.length/\∃g,ao=some ⟨g,0,none⟩/\W.cell? ⟨g,k*3,none⟩=some (.int .i64 t.kind)/\W.cell? ⟨g,k*3+1,none⟩=some (.string t.text)/\W.cell? ⟨g,k*3+2,none⟩=some (.int .i64 t.val):=by
 obtain⟨B,m⟩:=h.row;obtain⟨pre,hp⟩:=h.Th;obtain⟨ao,cap,o,j,V⟩:=Dy m;have c:ts.length=pre.length+st.rest.length:=by rw[hp,r7]
 refine⟨ao,cap,ts.length - st.rest.length,o,j,h.len,rfl,by omega,(h.box.cell 0).trans rfl,(h.box.cell 1).trans rfl,(h.box.cell 2).trans rfl,?_⟩;intro t r f;have n:st.rest.length=r.length+1:=by rw[f];rfl
 have a:ts.length - st.rest.length<ts.length:=by omega
 refine⟨a,?_⟩;obtain⟨g,e,z0,i,z2⟩:=V _ a;have he:ts[ts.length - st.rest.length]'a=t:=by
  have hk:ts.length - st.rest.length=pre.length:=by omega
  simp only[hk];have:∀(l:List Tok) (c:l=pre++t::r) (d:pre.length<l.length),l[pre.length]'d=t:=by
   intro l c d;subst c;simp
  exact this ts (by rw[hp,f]) _
 rw[he] at z0 i z2;exact⟨g,e,z0,i,z2⟩
theorem TB(h:RI b lv ts st W)(s:ByteArray):
  Calls prog 50 #[.pointer (some ⟨b,0,none⟩),.string s] W fun e W'=>e=.returned (.bool (aO s st))/\∃d,W'=W.drewN d:=by
 obtain⟨ao,cap,k,rfl,p,hlen,hk,j,w,c1,c2,q⟩:=h.seen;have m:=p9 q;clear q h;cases a:st.rest with
 | nil=>
  have l:qv (aO s st=false):=by show _=_;unfold aO;rw[a]
  have i:k=ts.length:=by rw[hk,a];rfl
  have x:decide ((k:Int)<(ts.length:Int))=false:=by rw[i];simp
  have u:¬k<ts.length:=by omega
  clear hk a m i j;go_enter func50,ntmps50
  go_wp2
  go_quiet (fail)
  go_wp2
  go_ret;exact⟨dW l.o.symm,nq,rfl⟩
 | cons t r=>
  obtain⟨v,g,rfl,z0,y,z2⟩:=m.o t r a;have l:qv (aO s st=(decide (t.kind≠2)&&jb t.text s)):=by show _=_;unfold aO;rw[a]
  clear hk a m j z2 c2;by_cases f:t.kind=2
  ·have n:(t.kind != 2)=false:=by simp[f]
   have c:qv (aO s st=false):=by show _=_;rw[l.o,f];rfl
   clear f;go_enter func50,ntmps50
   go_wp2
   go_quiet (fail)
   go_wp2
   go_ret;exact⟨dW c.o.symm,nq,rfl⟩
  ·have n:(t.kind != 2)=true:=by simp[f]
   have c:qv (aO s st=(t.text.toList==s.toList)):=by show _=_;rw[l.o];simp[f,jb]
   clear f;go_enter func50,ntmps50
   go_wp2
   go_quiet (fail)
   go_wp2
   go_ret;exact⟨dW c.o.symm,nq,rfl⟩
theorem peekIs(h:RI b lv ts st W)(s:ByteArray)(x:Bool)(a:aO s st=x):
  Calls prog 50 #[.pointer (some ⟨b,0,none⟩),.string s] W fun e W'=>e=.returned (.bool x)/\∃d,W'=W.drewN d:=by
 have:=TB h s;rw[a] at this;exact this
theorem J1(h:aO s st=true):∃t r,st.rest=t::r:=by
 unfold aO at h;split at h
 ·cases h
 ·exact⟨_,_,by assumption⟩
theorem has(h:RI b lv ts st W)(s:ByteArray)(x:Bool)(l:aO s st=x):
  Calls prog 19 #[.pointer (some ⟨b,0,none⟩),.string s] W fun e W'=>e=.returned (.bool x)/\RI b lv ts (bz s st) W'/\W.grownBy W' (some b):=by
 have g:=p9 h;have c:=p9 l;obtain⟨ao,cap,k,rfl,n,hlen,hk,w,y,c1,c2,v⟩:=h.seen;have f1:=h.box.free 1;have u:k<=2000:=by omega
 have p:=p9 hk;clear h v hk;cases x with
 | true=>
  obtain⟨t,r,a⟩:=J1 c.o;have i:qv (bz s st=⟨r,st.bad⟩):=by show _=_;unfold bz;rw[c.o,a];rfl
  have m:=p9 a;clear a l;have f:st.rest.length=r.length+1:=by rw[m.o];rfl
  have j:=p9 f;clear f;go_enter func19,ntmps19
  go_wp2_with (go_at_call 50;refine(peekIs g.o s true c.o).mono ?_;rintro e q ⟨rfl,d,rfl⟩)
  go_ret;refine⟨rfl,?_,ay (fh W d _) (aE _ b 1 _)⟩;rw[i.o];exact(g.o.drew d).setAt m.o _ (by have:=p.o;have:=j.o;omega)
 | false=>
  have i:qv (bz s st=st):=by show _=_;unfold bz;rw[c.o];rfl
  clear l;go_enter func19,ntmps19
  go_wp2_with (go_at_call 50;refine(peekIs g.o s false c.o).mono ?_;rintro e q ⟨rfl,d,rfl⟩)
  go_ret;exact⟨rfl,by rw[i.o];exact g.o.drew d,fh W d _⟩
theorem dI(s:ByteArray)(st:RS):(bz s st).bad=st.bad:=by unfold bz;split<;>rfl
theorem mI(h:RI b lv ts st W)(s:ByteArray):
  Calls prog 51 #[.pointer (some ⟨b,0,none⟩),.string s] W fun e W'=>e=.returned (.tuple #[])/\RI b lv ts (bG s st) W'/\W.grownBy W' (some b):=by
 have k:=p9 h;clear h;cases f:aO s st with
 | true=>
  have j:=p9 f;cases d:st.bad with
  | true=>
   have i:qv (bG s st=⟨(bz s st).rest,true⟩):=by show _=_;unfold bG RS.bA;rw[dI,d,f];rfl
   have g:=p9 d;clear f d;go_enter func51,ntmps51
   go_wp2_with (go_at_call 19;refine(has k.o s true j.o).mono ?_;rintro e l ⟨rfl,h1,g1⟩;have c:=p9 h1;have a:=p9 g1;have c2:=(h1.box.cell 2).trans (by rw[dI,g.o];rfl:_=some (Value.bool true));have f2:=h1.box.free 2;clear h1 g1)
   go_end0;exact⟨rfl,by rw[i.o];exact c.o.dR true,ay a.o (aE _ b 2 _)⟩
  | false=>
   have i:qv (bG s st=⟨(bz s st).rest,false⟩):=by show _=_;unfold bG RS.bA;rw[dI,d,f];rfl
   have g:=p9 d;clear f d;go_enter func51,ntmps51
   go_wp2_with (go_at_call 19;refine(has k.o s true j.o).mono ?_;rintro e l ⟨rfl,h1,g1⟩;have c:=p9 h1;have a:=p9 g1;have c2:=(h1.box.cell 2).trans (by rw[dI,g.o];rfl:_=some (Value.bool false));have f2:=h1.box.free 2;clear h1 g1)
   go_end0;exact⟨rfl,by rw[i.o];exact c.o.dR false,ay a.o (aE _ b 2 _)⟩
 | false=>
  have j:=p9 f;have i:qv (bG s st=⟨(bz s st).rest,true⟩):=by show _=_;unfold bG RS.bA;rw[f];simp
  clear f;cases d:st.bad with
  | true=>
   have g:=p9 d;clear d;go_enter func51,ntmps51
   go_wp2_with (go_at_call 19;refine(has k.o s false j.o).mono ?_;rintro e l ⟨rfl,h1,g1⟩;have c:=p9 h1;have a:=p9 g1;have c2:=(h1.box.cell 2).trans (by rw[dI,g.o];rfl:_=some (Value.bool true));have f2:=h1.box.free 2;clear h1 g1)
   go_end0;exact⟨rfl,by rw[i.o];exact c.o.dR true,ay a.o (aE _ b 2 _)⟩
  | false=>
   have g:=p9 d;clear d;go_enter func51,ntmps51
   go_wp2_with (go_at_call 19;refine(has k.o s false j.o).mono ?_;rintro e l ⟨rfl,h1,g1⟩;have c:=p9 h1;have a:=p9 g1;have c2:=(h1.box.cell 2).trans (by rw[dI,g.o];rfl:_=some (Value.bool false));have f2:=h1.box.free 2;clear h1 g1)
   go_end0;exact⟨rfl,by rw[i.o];exact c.o.dR true,ay a.o (aE _ b 2 _)⟩
def Hi(t:Tok):Value:=.agg #[.int .i64 t.kind,.string t.text,.int .i64 t.val]
theorem xQ{a:Int}(h:st.rest=[]):isKind a st=false:=by unfold isKind;rw[h]
theorem nS{a:Int}{t:Tok}{r:List Tok}(h:st.rest=t::r):isKind a st=decide (t.kind=a):=by unfold isKind;rw[h]
theorem RI.Sq{g cap:Nat}(h:RI b (.slice (some ⟨g,0,none⟩) ts.length cap) ts st W):g≠b:=by
 have:=h.ne;intro e;apply this;rw[e];rfl
structure Rn(b x:Nat)(lv:Value)(ts:List Tok)(st:RS)(W W1:World):Prop where
 ri:RI b lv ts st W1
 loc:Loc W1 x #[.int .i64 0,.string ⟨#[]⟩,.int .i64 0] 115
 new:W.heap.size<=x
 grown:W.grownBy W1 (some b)
 ne:b≠x
theorem next(h:RI b lv ts st W)(z:Int):
  Calls prog 54 #[.pointer (some ⟨b,0,none⟩),.int .i64 z] W fun e W'=>e=.returned (Hi (fX z st).1)/\RI b lv ts (fX z st).2 W'/\W.grownBy W' (some b):=by
 have HI:=p9 h;have A8:=h.box.lt;obtain⟨ao,cap,k,rfl,A6,hlen,hk,C,P,c1,c2,hr⟩:=h.seen;have Aa:k<=2000:=by omega
 have M:=p9 hr;have Y:=p9 hk;have s:qv (∀nq,Rn b W.heap.size (.slice ao ts.length cap) ts st W ((W.alloc (.cells #[.int .i64 0,.string ⟨#[]⟩,.int .i64 0] 115)).drewN nq)):=fun nq=>
  ⟨(HI.o.alloc _).drew nq,(Loc.new _ _ _).drew nq,rm _,ay (aD W _ _) (fh _ nq _),by have:=HI.o.box.lt;omega⟩
 have H:qv (∀x,W.heap.size<=x->(Value.slice ao ts.length cap).ownBlock≠some x):=by
  intro x hx he;obtain⟨B,ho⟩:=h.row;have:=(ho.lt x he).2;omega
 clear h hr;by_cases hm:isKind z st=true
 ·have G:qv (fX z st=(st.rest.headD wH,⟨st.rest.tail,st.bad⟩)):=by show _=_;unfold fX;rw[a8 hm]
  cases c:st.rest with
  | nil=>rw[xQ c] at hm;cases hm
  | cons t r=>
   obtain⟨A4,g,rfl,z0,L,z2⟩:=M.o t r c;have y:t.kind=z:=by rw[nS c] at hm;simpa using hm
   have A2:(t.kind != z)=false:=by simp[y]
   have A3:g<W.heap.size:=block_lt_of_cell z0;have T:=p9 c;have O:qv (st.rest.length=r.length+1):=by show _=_;rw[c];rfl
   have N:=p9 C;clear hm y hk c M C c2 L z2;go_enter func54,ntmps54
   go_wp2
   go_quiet (fail)
   have d:=s.o nq;generalize (W.alloc (.cells #[.int .i64 0,.string ⟨#[]⟩,.int .i64 0] 115)).drewN nq=q at d⊢;obtain⟨x,p⟩:∃x,x=W.heap.size:=⟨_,rfl⟩;rw[<-p] at d⊢;clear p s P c1 z0;have a:=p9 d;obtain⟨A7,A5,K,e1,-,-,R,-,P,c1,c2,S⟩:=d.ri.seen;injection e1 with e1 _ e3
   subst e1;subst e3;have ek:K=k:=by rw[R];exact Y.o.symm
   subst ek;obtain⟨-,g1,Q,z0,L,z2⟩:=S t r T.o;injection Q with Q
   injection Q with Q
   subst Q;have f1:=d.ri.box.free 1;clear d S R c2
   go_wp2
   have w:RI b (.slice (some ⟨g,0,none⟩) ts.length cap) ts ⟨r,st.bad⟩ (q.setCell ⟨b,1,none⟩ (.int .i64 ((K:Int)+1))):=a.o.ri.setAt T.o _ (by have:=Y.o;have:=O.o;have:=N.o;omega);have A:=a.o.ri.Sq;have u:=aE q b 1 (.int .i64 ((K:Int)+1));have y0:=u.cell z0 (by simpa using A);have y1:=u.cell L (by simpa using A);have y2:=u.cell z2 (by simpa using A);have l:=a.o.loc.grown u (by simpa using fun e=>a.o.ne e.symm);have I:=ay a.o.grown u;have A0:=(w.box.cell 0).trans rfl;have A1:(q.setCell ⟨b,1,none⟩ (.int .i64 ((K:Int)+1))).cell? ⟨b,1,none⟩=some (.int .i64 ((K:Int)+1)):=(w.box.cell 1).trans (by
    have e:((ts.length - r.length:Nat):Int)=(K:Int)+1:=by have:=Y.o;have:=O.o;have:=N.o;omega
    show some (Value.int .i64 ((ts.length - r.length:Nat):Int))=_;rw[e])
   clear P c1 z0 L z2 f1 u A;generalize q.setCell ⟨b,1,none⟩ (.int .i64 ((K:Int)+1))=U at w y0 y1 y2 l I A0 A1⊢;have x0:=l.cell 0;have x1:=l.cell 1;have x2:=l.cell 2;have w0:=l.free 0;have w1:=l.free 1;have w2:=l.free 2;have X:=p9 w;have Z:=p9 l;have V:=p9 I;clear w l I;go_region
   go_wp2
   have j:=H.o x a.o.new;have i:=a.o.ne;have f:Loc (((U.setCell ⟨x,0,none⟩ (.int .i64 t.kind)).setCell ⟨x,1,none⟩ (.string t.text)).setCell ⟨x,2,none⟩ (.int .i64 t.val)).drew x #[.int .i64 t.kind,.string t.text,.int .i64 t.val] 115:=((Z.o.set 0 _).set 1 _).set 2 _;have n:RI b (.slice (some ⟨g,0,none⟩) ts.length cap) ts ⟨r,st.bad⟩ (((U.setCell ⟨x,0,none⟩ (.int .i64 t.kind)).setCell ⟨x,1,none⟩ (.string t.text)).setCell ⟨x,2,none⟩ (.int .i64 t.val)).drew:=(((X.o.aY i j 0 _).aY i j 1 _).aY i j 2 _).drew 1;have m:W.grownBy (((U.setCell ⟨x,0,none⟩ (.int .i64 t.kind)).setCell ⟨x,1,none⟩ (.string t.text)).setCell ⟨x,2,none⟩ (.int .i64 t.val)).drew (some b):=ay (bU (bU (bU V.o a.o.new 0 _) a.o.new 1 _) a.o.new 2 _) (fh _ 1 _);generalize (((U.setCell ⟨x,0,none⟩ (.int .i64 t.kind)).setCell ⟨x,1,none⟩ (.string t.text)).setCell ⟨x,2,none⟩ (.int .i64 t.val)).drew=WF at f n m⊢;refine bodyPost_ret (v:=Hi t) ?_ rfl ⟨?_,?_,m⟩
   ·have D:=f.cell 0;have E:=f.cell 1;have F:=f.cell 2;simp at D E F;simp[results,results54,go_sem,Hi,D,E,F]
   ·rw[G.o,T.o];rfl
   ·rw[G.o,T.o];exact n
 ·have G:qv (fX z st=(wH,⟨st.rest,true⟩)):=by show _=_;unfold fX;rw[bk hm]
  cases c:st.rest with
  | nil=>
   have A9:ts.length<=k:=by rw[hk,c];simp
   clear hk c M C hm;go_enter func54,ntmps54
   go_wp2
   go_quiet (fail)
   have d:=s.o nq;generalize (W.alloc (.cells #[.int .i64 0,.string ⟨#[]⟩,.int .i64 0] 115)).drewN nq=q at d⊢;obtain⟨x,p⟩:∃x,x=W.heap.size:=⟨_,rfl⟩;rw[<-p] at d⊢;clear p s P c1;have a:=p9 d;have f2:=d.ri.box.free 2;have c2:=(d.ri.box.cell 2).trans rfl;have x0:=d.loc.cell 0;have x1:=d.loc.cell 1;have x2:=d.loc.cell 2;have w0:=d.loc.free 0;have w1:=d.loc.free 1;have w2:=d.loc.free 2;clear d;have i:=a.o.ne;have J:x≠b:=fun e=>i e.symm
   go_wp2
   have j:(Value.slice ao ts.length cap).ownBlock≠some x:=by
    have:=a.o.new;exact H.o x this
   have u:=aE q b 2 (.bool true);have f:Loc ((((q.setCell ⟨b,2,none⟩ (.bool true)).setCell ⟨x,0,none⟩ (.int .i64 0)).setCell ⟨x,1,none⟩ (.string ⟨#[]⟩)).setCell ⟨x,2,none⟩ (.int .i64 0)) x #[.int .i64 0,.string ⟨#[]⟩,.int .i64 0] 115:=(((a.o.loc.aY J 2 _).set 0 _).set 1 _).set 2 _;have n:RI b (.slice ao ts.length cap) ts ⟨st.rest,true⟩ ((((q.setCell ⟨b,2,none⟩ (.bool true)).setCell ⟨x,0,none⟩ (.int .i64 0)).setCell ⟨x,1,none⟩ (.string ⟨#[]⟩)).setCell ⟨x,2,none⟩ (.int .i64 0)):=(((a.o.ri.dR true).aY i j 0 _).aY i j 1 _).aY i j 2 _;have m:W.grownBy ((((q.setCell ⟨b,2,none⟩ (.bool true)).setCell ⟨x,0,none⟩ (.int .i64 0)).setCell ⟨x,1,none⟩ (.string ⟨#[]⟩)).setCell ⟨x,2,none⟩ (.int .i64 0)) (some b):=bU (bU (bU (ay a.o.grown u) a.o.new 0 _) a.o.new 1 _) a.o.new 2 _;clear u;generalize ((((q.setCell ⟨b,2,none⟩ (.bool true)).setCell ⟨x,0,none⟩ (.int .i64 0)).setCell ⟨x,1,none⟩ (.string ⟨#[]⟩)).setCell ⟨x,2,none⟩ (.int .i64 0))=WF at f n m⊢;refine bodyPost_ret (v:=Hi wH) ?_ rfl ⟨?_,?_,m⟩
   ·have D:=f.cell 0;have E:=f.cell 1;have F:=f.cell 2;simp at D E F;simp[results,results54,go_sem,Hi,wH,e0,D,E,F]
   ·rw[G.o]
   ·rw[G.o];exact n
  | cons t r=>
   obtain⟨A4,g,rfl,z0,L,z2⟩:=M.o t r c;have y:t.kind≠z:=by rw[nS c] at hm;simpa using hm
   have A2:(t.kind != z)=true:=by simpa using y
   have A3:g<W.heap.size:=block_lt_of_cell z0;clear hm y hk c M C c2 L z2;go_enter func54,ntmps54
   go_wp2
   go_quiet (fail)
   have d:=s.o nq;generalize (W.alloc (.cells #[.int .i64 0,.string ⟨#[]⟩,.int .i64 0] 115)).drewN nq=q at d⊢;obtain⟨x,p⟩:∃x,x=W.heap.size:=⟨_,rfl⟩;rw[<-p] at d⊢;clear p s P c1;have a:=p9 d;have f2:=d.ri.box.free 2;have c2:=(d.ri.box.cell 2).trans rfl;have x0:=d.loc.cell 0;have x1:=d.loc.cell 1;have x2:=d.loc.cell 2;have w0:=d.loc.free 0;have w1:=d.loc.free 1;have w2:=d.loc.free 2;clear d;have i:=a.o.ne;have J:x≠b:=fun e=>i e.symm
   go_wp2
   have j:(Value.slice (some ⟨g,0,none⟩) ts.length cap).ownBlock≠some x:=by
    have:=a.o.new;exact H.o x this
   have u:=aE q b 2 (.bool true);have f:Loc ((((q.setCell ⟨b,2,none⟩ (.bool true)).setCell ⟨x,0,none⟩ (.int .i64 0)).setCell ⟨x,1,none⟩ (.string ⟨#[]⟩)).setCell ⟨x,2,none⟩ (.int .i64 0)) x #[.int .i64 0,.string ⟨#[]⟩,.int .i64 0] 115:=(((a.o.loc.aY J 2 _).set 0 _).set 1 _).set 2 _;have n:RI b (.slice (some ⟨g,0,none⟩) ts.length cap) ts ⟨st.rest,true⟩ ((((q.setCell ⟨b,2,none⟩ (.bool true)).setCell ⟨x,0,none⟩ (.int .i64 0)).setCell ⟨x,1,none⟩ (.string ⟨#[]⟩)).setCell ⟨x,2,none⟩ (.int .i64 0)):=(((a.o.ri.dR true).aY i j 0 _).aY i j 1 _).aY i j 2 _;have m:W.grownBy ((((q.setCell ⟨b,2,none⟩ (.bool true)).setCell ⟨x,0,none⟩ (.int .i64 0)).setCell ⟨x,1,none⟩ (.string ⟨#[]⟩)).setCell ⟨x,2,none⟩ (.int .i64 0)) (some b):=bU (bU (bU (ay a.o.grown u) a.o.new 0 _) a.o.new 1 _) a.o.new 2 _;clear u;generalize ((((q.setCell ⟨b,2,none⟩ (.bool true)).setCell ⟨x,0,none⟩ (.int .i64 0)).setCell ⟨x,1,none⟩ (.string ⟨#[]⟩)).setCell ⟨x,2,none⟩ (.int .i64 0))=WF at f n m⊢;refine bodyPost_ret (v:=Hi wH) ?_ rfl ⟨?_,?_,m⟩
   ·have D:=f.cell 0;have E:=f.cell 1;have F:=f.cell 2;simp at D E F;simp[results,results54,go_sem,Hi,wH,e0,D,E,F]
   ·rw[G.o]
   ·rw[G.o];exact n
theorem qg{a:RS}(h:RI b lv ts st W)(c:Int)(t:Tok)(d:fX c st=(t,a)):
  Calls prog 54 #[.pointer (some ⟨b,0,none⟩),.int .i64 c] W fun e W'=>e=.returned (.agg #[.int .i64 t.kind,.string t.text,.int .i64 t.val])/\RI b lv ts a W'/\W.grownBy W' (some b):=by
 have:=next h c;rw[d] at this;exact this
theorem AX(h1:1<=s.size)(a:s.size<=8)(b:eM (bt s 0)=true):isWord s=decide (∀j,j<s.size->fR (bt s j)=true):=by
 unfold isWord;rw[decide_eq_true h1,decide_eq_true a,b];rfl
theorem kh(h:¬(1<=s.size/\s.size<=8/\eM (bt s 0)=true)):isWord s=false:=by
 cases a:isWord s with
 | false=>rfl
 | true=>
  exfalso;apply h;unfold isWord at a;simp only[wa,decide_eq_true_eq] at a;exact⟨a.1.1.1,a.1.1.2,a.1.2⟩
theorem I6(s:ByteArray)(w:World):Calls prog 44 #[.string s] w fun e w'=>e=.returned (.bool (isWord s))/\w'=w:=by
 by_cases h1:1<=s.size
 ·by_cases q:s.size<=8
  ·have m:0<s.size:=h1;cases f:eM ((s[0]'m).toNat:Int) with
   | true=>
    have n:qv (isWord s=decide (∀j,j<s.size->fR (bt s j)=true)):=AX h1 q (by rw[<-bX m];exact f);go_enter func44,ntmps44
    go_wp2_with (first|(go_at_call 46;refine(eL _ _).mono ?_;rintro e w' ⟨rfl,rfl⟩)|(go_at_call 47;refine(gM _ _).mono ?_;rintro e w' ⟨rfl,rfl⟩))
    clear f
    go_loop [3] (fun i=>∃k:Nat,k<=s.size/\i=.int .i64 k/\∀j,j<k->fR (bt s j)=true) (fun i=>s.size - (intOf i).toNat)
    case atStart=>exact⟨0,by omega,rfl,fun j g=>absurd g (by omega)⟩
    case round=>
     obtain⟨k,hk,rfl,a⟩:=hrel;have l:=p9 a;clear a;by_cases b:k<s.size
     ·cases f:eM ((s[k]'b).toNat:Int) with
      | true=>
       have d:qv (∀j,j<k+1->fR (bt s j)=true):=by
        intro j g;by_cases e:j=k
        ·subst e;rw[<-bX b];unfold fR;rw[f];rfl
        ·exact l.o j (by omega)
       go_wp2_with (first|(go_at_call 46;refine(eL _ _).mono ?_;rintro e w' ⟨rfl,rfl⟩)|(go_at_call 47;refine(gM _ _).mono ?_;rintro e w' ⟨rfl,rfl⟩))
       go_round
       case rel=>exact⟨k+1,by omega,by go_num,d.o⟩
       case measure=>simp[intOf];omega
      | false=>
       cases p:cm ((s[k]'b).toNat:Int) with
       | true=>
        have d:qv (∀j,j<k+1->fR (bt s j)=true):=by
         intro j g;by_cases e:j=k
         ·subst e;rw[<-bX b];unfold fR;rw[f,p];rfl
         ·exact l.o j (by omega)
        go_wp2_with (first|(go_at_call 46;refine(eL _ _).mono ?_;rintro e w' ⟨rfl,rfl⟩)|(go_at_call 47;refine(gM _ _).mono ?_;rintro e w' ⟨rfl,rfl⟩))
        go_round
        case rel=>exact⟨k+1,by omega,by go_num,d.o⟩
        case measure=>simp[intOf];omega
       | false=>
        have c:qv (isWord s=false):=by
         show _=_;rw[n.o];apply decide_eq_false;intro a;have:=a k b;rw[<-bX b] at this;unfold fR at this;rw[f,p] at this;cases this
        go_wp2_with (first|(go_at_call 46;refine(eL _ _).mono ?_;rintro e w' ⟨rfl,rfl⟩)|(go_at_call 47;refine(gM _ _).mono ?_;rintro e w' ⟨rfl,rfl⟩))
        go_ret;exact⟨dW c.o.symm,rfl⟩
     ·have c:qv (isWord s=true):=by
       show _=_;rw[n.o];apply decide_eq_true;intro j g;exact l.o j (by omega)
      go_wp2
      go_ret;exact⟨dW c.o.symm,rfl⟩
   | false=>
    have c:qv (isWord s=false):=kh (by rintro ⟨_,_,h⟩;rw[<-bX m,f] at h;cases h);go_enter func44,ntmps44
    go_wp2_with (first|(go_at_call 46;refine(eL _ _).mono ?_;rintro e w' ⟨rfl,rfl⟩)|(go_at_call 47;refine(gM _ _).mono ?_;rintro e w' ⟨rfl,rfl⟩))
    go_ret;exact⟨dW c.o.symm,rfl⟩
  ·have c:qv (isWord s=false):=kh (by omega);go_enter func44,ntmps44
   go_wp2
   go_ret;exact⟨dW c.o.symm,rfl⟩
 ·have c:qv (isWord s=false):=kh (by omega);go_enter func44,ntmps44
  go_wp2
  go_ret;exact⟨dW c.o.symm,rfl⟩
theorem wM(s:ByteArray)(w:World):Calls prog 15 #[.string s] w fun e w'=>e=.returned (.bool (bB s))/\w'=w:=by
 have b:=p9 (fun w=>I6 s w);cases hw:isWord s with
 | true=>
  have h1:0<s.size:=by
   by_cases h:0<s.size
   ·exact h
   ·rw[kh (by omega)] at hw;cases hw
  have d:qv (bB s=decide (97<=((s[0]'h1).toNat:Int))):=by show _=_;unfold bB;rw[hw,bX h1];rfl
  have a:=p9 hw;clear hw;go_enter func15,ntmps15
  go_wp2_with (go_at_call 44;refine(b.o _).mono ?_;rintro e w' ⟨he,rfl⟩;rw[a.o] at he;subst he)
  go_ret;exact⟨dW d.o.symm,rfl⟩
 | false=>
  have c:qv (bB s=false):=by show _=_;unfold bB;rw[hw];rfl
  have a:=p9 hw;clear hw;go_enter func15,ntmps15
  go_wp2_with (go_at_call 44;refine(b.o _).mono ?_;rintro e w' ⟨he,rfl⟩;rw[a.o] at he;subst he)
  go_ret;exact⟨dW c.o.symm,rfl⟩
def BJ(k:Nat):ByteArray:=aC.getD k e0
theorem Lt(w:World)(j:Nat)(a:j<17):(w.alloc (.cells #[Value.string {data:=#[77,65,84,67,72]},Value.string {data:=#[87,72,69,82,69]},Value.string {data:=#[65,78,68]},Value.string {data:=#[82,69,84,85,82,78]},Value.string {data:=#[79,82,68,69,82]},Value.string {data:=#[66,89]},Value.string {data:=#[68,69,83,67]},Value.string {data:=#[83,75,73,80]},Value.string {data:=#[76,73,77,73,84]},Value.string {data:=#[83,69,84]},Value.string {data:=#[68,69,76,69,84,69]},Value.string {data:=#[67,82,69,65,84,69]},Value.string {data:=#[67,65,76,76]},Value.string {data:=#[73,83]},Value.string {data:=#[78,79,84]},Value.string {data:=#[78,85,76,76]},Value.string {data:=#[67,79,85,78,84]}] 9)).cell? ⟨w.heap.size,j,none⟩=some (.string (BJ j)):=by
 rw[(Loc.new w _ _).cell j];rcases (show j=0\/j=1\/j=2\/j=3\/j=4\/j=5\/j=6\/j=7\/j=8\/j=9\/j=10\/j=11\/j=12\/j=13\/j=14\/j=15\/j=16 by omega) with rfl|rfl|rfl|rfl|rfl|rfl|rfl|rfl|rfl|rfl|rfl|rfl|rfl|rfl|rfl|rfl|rfl
 all_goals rfl
theorem Qt{k:Nat}(hk:k<17)(h:jb (BJ k) s=true):dU s=true:=by
 unfold dU;rw[List.any_eq_true];have a:aC.length=17:=rfl;refine⟨aC[k]'(by omega),sT _,?_⟩;unfold BJ at h;rw[List.getD_eq_getElem?_getD,r6 (by omega)] at h;exact h
theorem Sp(h:∀j,j<17->jb (BJ j) s=false):dU s=false:=by
 unfold dU;rw[List.any_eq_false];intro x a;obtain⟨i,hi,rfl⟩:=List.mem_iff_getElem.1 a;have b:aC.length=17:=rfl;have:=h i (by omega);unfold BJ at this;rw[List.getD_eq_getElem?_getD,r6 hi] at this
 simpa using this
theorem Hq(s:ByteArray)(w:World):Calls prog 99 #[.string s] w fun e w'=>e=.returned (.bool (dU s))/\Below w.heap.size w w':=by
 go_enter func99,ntmps99
 go_wp2
 go_loopw [4] (fun i wr=>∃k:Nat,k<=17/\i=.int .i64 k/\(∀j,j<17->wr.cell? ⟨w.heap.size,j,none⟩=some (.string (BJ j)))/\Below w.heap.size w wr/\∀j,j<k->jb (BJ j) s=false) (fun i _=>17 - (intOf i).toNat)
 case atStart=>exact⟨0,by omega,rfl,Lt w,(r5 _ _).alloc (rm _) _,fun j f=>absurd f (by omega)⟩
 case round=>
  obtain⟨k,hk,rfl,p,n,c⟩:=hrel;have g:=p9 p;have d:=p9 n;have l:=p9 c;clear p n c;by_cases b:k<17
  ·obtain⟨m,hm⟩:∃m,m=BJ k:=⟨_,rfl⟩;have q:wr.cell? ⟨w.heap.size,k,none⟩=some (.string m):=by rw[hm];exact g.o k b
   have h:=p9 hm;clear hm;cases he:(m.toList==s.toList) with
   | true=>
    have a:qv (dU s=true):=Qt b (by rw[<-h.o];exact he)
    go_wp2
    go_ret;exact⟨dW a.o.symm,d.o⟩
   | false=>
    have a:qv (∀j,j<k+1->jb (BJ j) s=false):=by
     intro j f;by_cases e:j=k
     ·subst e;rw[<-h.o];exact he
     ·exact l.o j (by omega)
    go_wp2
    go_roundw
    case rel=>exact⟨k+1,by omega,by go_num,g.o,d.o,a.o⟩
    case measure=>simp[intOf];omega
  ·have a:qv (dU s=false):=Sp (fun j f=>l.o j (by omega))
   go_wp2
   go_ret;exact⟨dW a.o.symm,d.o⟩
theorem yY(s:ByteArray)(w:World):Calls prog 45 #[.string s] w fun e w'=>e=.returned (.bool (bI s))/\Below w.heap.size w w':=by
 have f:=p9 (fun w=>I6 s w);have g:=p9 (fun w=>Hq s w);cases hw:isWord s with
 | true=>
  have h1:0<s.size:=by
   by_cases h:0<s.size
   ·exact h
   ·rw[kh (by omega)] at hw;cases hw
  have j:qv (bI s=(decide (((s[0]'h1).toNat:Int)<97)&&!dU s)):=by show _=_;unfold bI;rw[hw,bX h1];rfl
  have d:=p9 hw;clear hw;by_cases k:((s[0]'h1).toNat:Int)<97
  ·cases a:dU s with
   | true=>
    have b:qv (bI s=false):=by show _=_;rw[j.o,a];simp
    have i:=p9 a;clear a;go_enter func45,ntmps45
    go_wp2_with (first|(go_at_call 44;refine(f.o _).mono ?_;rintro e w' ⟨he,rfl⟩;rw[d.o] at he;subst he)|(go_at_call 99;refine(g.o _).mono ?_;rintro e w' ⟨he,c⟩;rw[i.o] at he;subst he))
    go_ret;exact⟨dW b.o.symm,c⟩
   | false=>
    have b:qv (bI s=true):=by show _=_;rw[j.o,a,decide_eq_true k];rfl
    have i:=p9 a;clear a;go_enter func45,ntmps45
    go_wp2_with (first|(go_at_call 44;refine(f.o _).mono ?_;rintro e w' ⟨he,rfl⟩;rw[d.o] at he;subst he)|(go_at_call 99;refine(g.o _).mono ?_;rintro e w' ⟨he,c⟩;rw[i.o] at he;subst he))
    go_ret;exact⟨dW b.o.symm,c⟩
  ·have b:qv (bI s=false):=by show _=_;rw[j.o,decide_eq_false k];rfl
   go_enter func45,ntmps45
   go_wp2_with (first|(go_at_call 44;refine(f.o _).mono ?_;rintro e w' ⟨he,rfl⟩;rw[d.o] at he;subst he)|(go_at_call 99;refine(g.o _).mono ?_;rintro e w' ⟨rfl,c⟩))
   go_ret;exact⟨dW b.o.symm,c⟩
 | false=>
  have b:qv (bI s=false):=by show _=_;unfold bI;rw[hw];rfl
  have d:=p9 hw;clear hw;go_enter func45,ntmps45
  go_wp2_with (first|(go_at_call 44;refine(f.o _).mono ?_;rintro e w' ⟨he,rfl⟩;rw[d.o] at he;subst he)|(go_at_call 99;refine(g.o _).mono ?_;rintro e w' ⟨rfl,c⟩))
  go_ret;exact⟨dW b.o.symm,c⟩
theorem pH{a b:ByteArray}(h:a=b):Ending.returned (.string a)=.returned (.string b):=by rw[h]
theorem Cz{a b:Int}(h:a=b):Ending.returned (.int .i64 a)=.returned (.int .i64 b):=by rw[h]
theorem name(h:RI b lv ts st W):
  Calls prog 21 #[.pointer (some ⟨b,0,none⟩)] W fun e W'=>e=.returned (.string (cI st).1)/\RI b lv ts (cI st).2 W'/\W.grownBy W' (some b):=by
 obtain⟨t,st1,l⟩:∃t st1,fX 1 st=(t,st1):=⟨_,_,rfl⟩;have g:qv (cI st=(t.text,st1.bA (!bB t.text))):=by show _=_;unfold cI;rw[l]
 have n:=p9 l;have m:=p9 h;have f:=p9 (fun w=>wM t.text w);clear h l;cases d:st1.bad with
 | true=>
  have i:=p9 d;have j:qv (st1.bA (!bB t.text)=⟨st1.rest,true⟩):=by show _=_;unfold RS.bA;rw[d];rfl
  clear d;go_enter func21,ntmps21
  go_wp2_with (first|(go_at_call 54;refine(qg m.o 1 t n.o).mono ?_;rintro e p ⟨rfl,h1,g1⟩;have c:=p9 h1;have a:=p9 g1;have k:=h1.box.lt;have c2:=(h1.box.cell 2).trans (by rw[i.o];rfl:_=some (Value.bool true));have f2:=h1.box.free 2;clear h1 g1)|(go_at_call 15;refine(f.o _).mono ?_;rintro e q ⟨rfl,rfl⟩))
  go_ret;exact⟨pH (by rw[g.o]),by rw[g.o,j.o];exact(c.o.dR true).alloc _,ay (ay a.o (aE _ b 2 _)) (aD _ _ _)⟩
 | false=>
  have i:=p9 d;have j:qv (st1.bA (!bB t.text)=⟨st1.rest,!bB t.text⟩):=by show _=_;unfold RS.bA;rw[d];rfl
  clear d;go_enter func21,ntmps21
  go_wp2_with (first|(go_at_call 54;refine(qg m.o 1 t n.o).mono ?_;rintro e p ⟨rfl,h1,g1⟩;have c:=p9 h1;have a:=p9 g1;have k:=h1.box.lt;have c2:=(h1.box.cell 2).trans (by rw[i.o];rfl:_=some (Value.bool false));have f2:=h1.box.free 2;clear h1 g1)|(go_at_call 15;refine(f.o _).mono ?_;rintro e q ⟨rfl,rfl⟩))
  go_ret;exact⟨pH (by rw[g.o]),by rw[g.o,j.o];exact(c.o.dR (!bB t.text)).alloc _,ay (ay a.o (aE _ b 2 _)) (aD _ _ _)⟩
theorem Qf(h:RI b lv ts st W):
  Calls prog 52 #[.pointer (some ⟨b,0,none⟩)] W fun e W'=>e=.returned (.string (fA st).1)/\RI b lv ts (fA st).2 W'/\W.grownBy W' (some b):=by
 obtain⟨t,st1,v⟩:∃t st1,fX 1 st=(t,st1):=⟨_,_,rfl⟩;have r:qv (fA st=(t.text,st1.bA (!bI t.text))):=by show _=_;unfold fA;rw[v]
 have z:=p9 v;have y:=p9 h;have q:=p9 (fun w=>yY t.text w);clear h v;cases n:st1.bad with
 | true=>
  have p:=p9 n;have s:qv (st1.bA (!bI t.text)=⟨st1.rest,true⟩):=by show _=_;unfold RS.bA;rw[n];rfl
  clear n;go_enter func52,ntmps52
  go_wp2_with (first|(go_at_call 54;refine(qg y.o 1 t z.o).mono ?_;rintro e l ⟨rfl,h1,g1⟩;have j:=p9 h1;have g:=p9 g1;have u:=h1.box.lt;have c2:=(h1.box.cell 2).trans (by rw[p.o];rfl:_=some (Value.bool true));have f2:=h1.box.free 2;clear h1 g1))
  refine(q.o _).mono ?_;rintro e m ⟨rfl,c⟩;have d:=ag c none;have a:=(j.o.alloc (.cells #[.int .i64 t.kind,.string t.text,.int .i64 t.val] 115)).old d;have f:=(Loc.new l #[.int .i64 t.kind,.string t.text,.int .i64 t.val] 115).grown d (by simp);have k:=p9 a;have i:qv (W.grownBy m (some b)):=ay (ay g.o (aD _ _ _)) (ag c _);have A:m.cell? ⟨b,2,none⟩=some (.bool true):=(a.box.cell 2).trans (by rw[p.o];rfl);have B:=a.box.free 2;have C:m.cell? ⟨l.heap.size,1,none⟩=some (.string t.text):=(f.cell 1).trans rfl;have x:l.heap.size≠b:=by omega
  clear c d a f c2 f2
  go_wp2
  go_ret;exact⟨pH (by rw[r.o]),by rw[r.o,s.o];exact k.o.dR true,ay i.o (aE _ b 2 _)⟩
 | false=>
  have p:=p9 n;have s:qv (st1.bA (!bI t.text)=⟨st1.rest,!bI t.text⟩):=by show _=_;unfold RS.bA;rw[n];rfl
  clear n;go_enter func52,ntmps52
  go_wp2_with (first|(go_at_call 54;refine(qg y.o 1 t z.o).mono ?_;rintro e l ⟨rfl,h1,g1⟩;have j:=p9 h1;have g:=p9 g1;have u:=h1.box.lt;have c2:=(h1.box.cell 2).trans (by rw[p.o];rfl:_=some (Value.bool false));have f2:=h1.box.free 2;clear h1 g1))
  refine(q.o _).mono ?_;rintro e m ⟨rfl,c⟩;have d:=ag c none;have a:=(j.o.alloc (.cells #[.int .i64 t.kind,.string t.text,.int .i64 t.val] 115)).old d;have f:=(Loc.new l #[.int .i64 t.kind,.string t.text,.int .i64 t.val] 115).grown d (by simp);have k:=p9 a;have i:qv (W.grownBy m (some b)):=ay (ay g.o (aD _ _ _)) (ag c _);have A:m.cell? ⟨b,2,none⟩=some (.bool false):=(a.box.cell 2).trans (by rw[p.o];rfl);have B:=a.box.free 2;have C:m.cell? ⟨l.heap.size,1,none⟩=some (.string t.text):=(f.cell 1).trans rfl;have x:l.heap.size≠b:=by omega
  clear c d a f c2 f2
  go_wp2
  go_ret;exact⟨pH (by rw[r.o]),by rw[r.o,s.o];exact k.o.dR (!bI t.text),ay i.o (aE _ b 2 _)⟩
theorem count(h:RI b lv ts st W)(lo hi:Int):
  Calls prog 53 #[.pointer (some ⟨b,0,none⟩),.int .i64 lo,.int .i64 hi] W fun e W'=>e=.returned (.int .i64 (fq lo hi st).1)/\RI b lv ts (fq lo hi st).2 W'/\W.grownBy W' (some b):=by
 obtain⟨t,st1,m⟩:∃t st1,fX 2 st=(t,st1):=⟨_,_,rfl⟩;have f:qv (fq lo hi st=(t.val,st1.bA (decide (t.val<lo) || decide (hi<t.val)))):=by show _=_;unfold fq;rw[m]
 have l:=p9 m;have k:=p9 h;clear h m;cases i:st1.bad with
 | true=>
  have d:=p9 i;have g:qv (st1.bA (decide (t.val<lo) || decide (hi<t.val))=⟨st1.rest,true⟩):=by show _=_;unfold RS.bA;rw[i];rfl
  clear i;go_enter func53,ntmps53
  go_wp2_with (go_at_call 54;refine(qg k.o 2 t l.o).mono ?_;rintro e n ⟨rfl,h1,g1⟩;have c:=p9 h1;have a:=p9 g1;have j:=h1.box.lt;have c2:=(h1.box.cell 2).trans (by rw[d.o];rfl:_=some (Value.bool true));have f2:=h1.box.free 2;clear h1 g1)
  go_ret;exact⟨Cz (by rw[f.o]),by rw[f.o,g.o];exact(c.o.dR true).alloc _,ay (ay a.o (aE _ b 2 _)) (aD _ _ _)⟩
 | false=>
  have d:=p9 i;clear i;by_cases h1:t.val<lo
  ·have g:qv (st1.bA (decide (t.val<lo) || decide (hi<t.val))=⟨st1.rest,true⟩):=by show _=_;unfold RS.bA;rw[d.o,decide_eq_true h1];rfl
   go_enter func53,ntmps53
   go_wp2_with (go_at_call 54;refine(qg k.o 2 t l.o).mono ?_;rintro e n ⟨rfl,h1,g1⟩;have c:=p9 h1;have a:=p9 g1;have j:=h1.box.lt;have c2:=(h1.box.cell 2).trans (by rw[d.o];rfl:_=some (Value.bool false));have f2:=h1.box.free 2;clear h1 g1)
   go_ret;exact⟨Cz (by rw[f.o]),by rw[f.o,g.o];exact(c.o.dR true).alloc _,ay (ay a.o (aE _ b 2 _)) (aD _ _ _)⟩
  ·have g:qv (st1.bA (decide (t.val<lo) || decide (hi<t.val))=⟨st1.rest,decide (hi<t.val)⟩):=by show _=_;unfold RS.bA;rw[d.o,decide_eq_false h1];rfl
   have p:decide (t.val<lo)=false:=decide_eq_false h1;go_enter func53,ntmps53
   go_wp2_with (go_at_call 54;refine(qg k.o 2 t l.o).mono ?_;rintro e n ⟨rfl,h1,g1⟩;have c:=p9 h1;have a:=p9 g1;have j:=h1.box.lt;have c2:=(h1.box.cell 2).trans (by rw[d.o];rfl:_=some (Value.bool false));have f2:=h1.box.free 2;clear h1 g1)
   go_ret;exact⟨Cz (by rw[f.o]),by rw[f.o,g.o];exact(c.o.dR _).alloc _,ay (ay a.o (aE _ b 2 _)) (aD _ _ _)⟩
theorem Loc.range(h:Loc w b cs T):w.rangeAt b 0 cs.toList:=fun j v hv=>by
 rw[tH,h.cell j];simpa using hv
theorem Loc.there{w:World}{b:Nat}{cs:Array Value}{T:TypeId}(h:Loc w b cs T):w.there b 0 cs.size:=fun j hj=>by
 rw[tH,h.cell j];exact⟨by simp[hj],h.free j⟩
theorem Loc.setMany{X:Nat}{T:TypeId}:∀(l:List Value) (o:Nat) (w:World) (cs:Array Value),Loc w X cs T->o+l.length<=cs.size->Loc (w.setCells X o l) X (cs.toList.take o++l++cs.toList.drop (o+l.length)).toArray T
 | [],o,w,cs,h,_=>by simpa [World.setCells] using h
 | v::r,o,w,cs,h,hl=>by
  rw[World.setCells];have h1:=Loc.setMany r (o+1) _ _ (h.set o v) (by simp only[vw] at hl;simp;omega);have c:o<cs.toList.length:=by simp only[vw] at hl;simp;omega
  have e:(cs.setIfInBounds o v).toList=cs.toList.set o v:=by simp
  rw[e] at h1;have a:(cs.toList.set o v).take (o+1)=cs.toList.take o++[v]:=by
   rw[tt,List.take_set_of_le (rm _),List.getElem?_set_self c];rfl
  have b:(cs.toList.set o v).drop (o+1+r.length)=cs.toList.drop (o+(v::r).length):=by
   rw[List.drop_set_of_lt (by omega)]
   congr 1
   simp only[vw];omega
  rw[a,b] at h1
  simpa using h1
theorem Loc.fC{new:Array Value}(h:Loc w X cs T)(a:new.size=cs.size):Loc (w.setCells X 0 new.toList) X new T:=by
 have h1:=Loc.setMany new.toList 0 w cs h (by simp[a]);have e:(cs.toList.take 0++new.toList++cs.toList.drop (0+new.toList.length)).toArray=new:=by
  have:cs.toList.drop (0+new.toList.length)=[]:=LY (by simp[a]);rw[this];simp
 rw[e] at h1;exact h1
theorem aU(X:Nat):∀(l:List Value) (o:Nat) (w:World),w.grownBy (w.setCells X o l) (some X)
 | [],o,w=>by simpa [World.setCells] using nu w (some X)
 | v::r,o,w=>by rw[World.setCells];exact ay (aE w X o v) (aU X r (o+1) _)
theorem ej{P:Program}{ops:Array Oper}{rest:List Oper}{op:Oper}{a:Act}{Q:Exit->Act->World->Prop}{x:Operand}(b:op.guard=none)(c:op.op=.move x)(h:wpList P ops Q rest (a.put op.dst (a.eval x)) w):wpList P ops Q (op::rest) a w:=
 wpList_plain b fun _ hK=>by
  unfold Oper.wp execOp;simp only[c];exact hK _ _ h
theorem Loc.Ii(h:Loc w b cs T)(o n:Nat)(a:o+n<=cs.size):w.there b o n:=fun j hj=>by
 rw[h.cell (o+j)];exact⟨by simp;omega,h.free _⟩
theorem ry{fn:Func}{tmps:Array Value}{c:Nat}{d:TypeDesc}(h:fn.results=#[.cell c T])(b:tmps[c]?.getD undef=.pointer (some ⟨X,0,none⟩))(a:Loc w X cs T)(hu:prog.underlying T=some d)(f:d.isRow=true)(i:(prog.info? T).map (·.size)=some cs.size):
  (results fn tmps).run prog w=.ok (.agg cs) w:=by
 have g:=run_loadVar_mid (P:=prog) w X 0 T cs.toList _ a.range hu f (by rw[i];simp);unfold results;rw[h];simp[b,g,asAddr]
open Go.Maps
def eS:Option Int->Array Value
 | none=>#[.bool false,.int .i64 0]
 | some n=>#[.bool true,.int .i64 n]
structure aH where
 num:Int
 ai:ByteArray
 bJ:Nat
 bf:ByteArray->Option Int
structure bK where
 type:ByteArray
 src:Int
 dst:Int
def jO(x:aH):List Value:=[.int .i64 x.num,.string x.ai,.map (some x.bJ)]
def MW(x:bK):List Value:=[.string x.type,.int .i64 x.src,.int .i64 x.dst]
theorem Bz(n:Int)(W:World):Calls prog 128 #[.int .i64 n] W fun e W'=>e=.returned (.agg (eS (some n)))/\Below W.heap.size W W':=by
 have a:=p9 ((r5 W.heap.size W).alloc (rm _) (.cells #[.bool true,.int .i64 n] 161));go_enter func128,ntmps128
 go_wp2_with fail;refine bodyPost_ret (v:=.agg #[.bool true,.int .i64 n]) ?_ rfl ⟨rfl,a.o⟩;simp[results,results128,go_sem]
def eB:Option Int->Option Int->Int
 | some a,some b=>Lib.compareInt a b
 | some _,none=>1
 | none,some _=>-1
 | none,none=>0
theorem Nc(a b:Option Int)(W:World):Calls prog 134 #[.agg (eS a),.agg (eS b)] W fun e W'=>e=.returned (.int .i64 (eB a b))/\Below W.heap.size W W':=by
 have c:=p9 ((r5 W.heap.size W).alloc (rm _) (.cells (eS a) 161));have d:=p9 (c.o.alloc c.o.size (.cells (eS b) 161));cases a<;>cases b<;>unfold eS at d⊢
 all_goals
  go_enter func134,ntmps134
  go_wp2_with (go_at_call 190;refine(Tryz.cmp_Compare_int _ _ _).mono ?_;rintro e f ⟨rfl,hw⟩;obtain rfl:=hw.symm)
  go_ret;exact⟨rfl,d.o⟩
theorem LH(x:aH)(n:Int)(W:World):Calls prog 192 #[.agg #[.int .i64 x.num,.string x.ai,.map (some x.bJ)],.int .i64 n] W fun e W'=>e=.returned (.int .i64 (Lib.compareInt x.num n))/\Below W.heap.size W W':=by
 have a:=p9 ((r5 W.heap.size W).alloc (rm _) (.cells #[.int .i64 x.num,.string x.ai,.map (some x.bJ)] 138));go_enter func192,ntmps192
 go_wp2_with (go_at_call 190;refine(Tryz.cmp_Compare_int _ _ _).mono ?_;rintro e b ⟨rfl,hw⟩;obtain rfl:=hw.symm)
 go_ret;exact⟨rfl,a.o⟩
end
section
open Go.RowKit
def lZ(c:Int):Int:=
 if c=45 then 3 else if c=93 then 4 else if c=46 then 5 else if c=60 then 6 else if c=62 then 7
 else if c=40\/c=41\/c=58\/c=44\/c=61\/c=42\/c=123\/c=125 then 8
 else if eM c then 1 else if cm c then 2 else 0
theorem PA(c:Int)(w:World):Calls prog 218 #[.int .u8 c] w fun e w'=>e=.returned (.int .i64 (lZ c))/\w'=w:=by
 by_cases f:c=45\/c=93\/c=46\/c=60\/c=62\/c=40\/c=41\/c=58\/c=44\/c=61\/c=42\/c=123\/c=125
 ·rcases f with rfl|rfl|rfl|rfl|rfl|rfl|rfl|rfl|rfl|rfl|rfl|rfl|rfl
  all_goals
   go_enter func218,ntmps218
   go_wp2
   go_ret;exact⟨rfl,rfl⟩
 ·have a:lZ c=if eM c then 1 else if cm c then 2 else 0:=by
   unfold lZ;rw[bk (by omega),bk (by omega),bk (by omega),bk (by omega),bk (by omega),bk (by omega)]
  have h1:(c==45)=false:=by simp;omega
  have k:(c==93)=false:=by simp;omega
  have l:(c==46)=false:=by simp;omega
  have m:(c==60)=false:=by simp;omega
  have n:(c==62)=false:=by simp;omega
  have o:(c==40)=false:=by simp;omega
  have p:(c==41)=false:=by simp;omega
  have q:(c==58)=false:=by simp;omega
  have r:(c==44)=false:=by simp;omega
  have g:(c==61)=false:=by simp;omega
  have h:(c==42)=false:=by simp;omega
  have i:(c==123)=false:=by simp;omega
  have j:(c==125)=false:=by simp;omega
  clear f;cases d:eM c with
  | true=>
   rw[d] at a;rw[a];clear a;go_enter func218,ntmps218
   go_wp2_with (first|(go_at_call 158;refine(iD _ _).mono ?_;rintro e w' ⟨rfl,rfl⟩)|(go_at_call 159;refine(isDigit _ _).mono ?_;rintro e w' ⟨rfl,rfl⟩))
   go_ret;exact⟨rfl,rfl⟩
  | false=>
   rw[d] at a;cases b:cm c with
   | true=>
    rw[b] at a;rw[a];clear a;go_enter func218,ntmps218
    go_wp2_with (first|(go_at_call 158;refine(iD _ _).mono ?_;rintro e w' ⟨rfl,rfl⟩)|(go_at_call 159;refine(isDigit _ _).mono ?_;rintro e w' ⟨rfl,rfl⟩))
    go_ret;exact⟨rfl,rfl⟩
   | false=>
    rw[b] at a;rw[a];clear a;go_enter func218,ntmps218
    go_wp2_with (first|(go_at_call 158;refine(iD _ _).mono ?_;rintro e w' ⟨rfl,rfl⟩)|(go_at_call 159;refine(isDigit _ _).mono ?_;rintro e w' ⟨rfl,rfl⟩))
    go_ret;exact⟨rfl,rfl⟩
end
end Go.Proofs.YtbfmmmjkjhjleaaGreatDoor
