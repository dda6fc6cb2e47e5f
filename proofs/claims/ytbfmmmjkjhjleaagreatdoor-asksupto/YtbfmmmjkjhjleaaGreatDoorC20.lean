/- Mine. -/
import Derived.Test.YtbfmmmjkjhjleaaGreatDoorC12
import Derived.Test.YtbfmmmjkjhjleaaGreatDoorC14
import Derived.Deep.Onto
import Derived.Test.YtbfmmmjkjhjleaaGreatDoorRows
set_option maxRecDepth 100000
set_option maxHeartbeats 0
namespace Go.Proofs.YtbfmmmjkjhjleaaGreatDoor
open Go.Proofs.Tryz
variable {st s1 s2:RS} {n b G k o B:Nat} {W W0 w:World} {sep:ByteArray} {α:Type} {v:Value} {cs xs:List Value} {T:TypeId} {ao:Option Addr}
section
open Go.RowKit
theorem Fz{s:ByteArray}(h:aP s st=true):0<st.rest.length:=by
 unfold aP at h;split at h
 ·cases h
 ·rename_i e;rw[e];simp
theorem jH{s:ByteArray}(h:aP s st=true):(ar s st).rest.length+1=st.rest.length:=by
 have:=Fz h;unfold ar;rw[a8 h];simp;omega
theorem om{one:RS->α × RS}{out:List α}{x:α}(h:aP sep st=true)(a:one (ar sep st)=(x,s2)):cq one sep (n+1) out st=cq one sep n (out++[x]) s2:=by
 simp only[cq,h,if_true,a]
theorem pK{one:RS->α × RS}{out:List α}(h:aP sep st=false):cq one sep n out st=(out,st):=by
 cases n with
 | zero=>rfl
 | succ n=>simp only[cq,h];rfl
structure PL(W0:World)(b G:Nat)(st:RS)(T:TypeId)(k:Nat)(v:Value)(n:Nat)(xs:List Value)(w:World):Prop where
 p:PI b G st w
 row:w.ownsRow W0.heap.size T k v n xs
 grown:W0.grownBy w (some b)
 gw:G<W0.heap.size
 bw:b<W0.heap.size
theorem PL.call{c:World}{a:RS}(h:PL W0 b G st T k v n xs w)(h1:PI b G a c)(g1:w.grownBy c (some b)):PL W0 b G a T k v n xs c:=by
 refine⟨h1,h.row.kept g1 (a6 ?_),ay h.grown g1,h.gw,h.bw⟩;intro e;have:=(h.row.lt b e).1;have:=h.bw;omega
theorem PL.quiet{W0 w a:World}{b G:Nat}{st:RS}{T:TypeId}{k n:Nat}{v:Value}{xs:List Value}(h:PL W0 b G st T k v n xs w)(g:w.grownBy a none):PL W0 b G st T k v n xs a:=h.call (h.p.quiet g) (vd g _)
theorem PL.more{c:World}{d:Nat}{v2:Value}{a:List Value}(h:PL W0 b G st T k v n xs w)(g:w.grownBy c v.ownBlock)(f:c.ownsRow W0.heap.size T k v2 d a):PL W0 b G st T k v2 d a c:=by
 have i:=h.grown.size;have l:=h.bw;have m:=h.gw;refine⟨h.p.kept g ?_ ?_,f,⟨g.os.trans h.grown.os,g.tape.trans h.grown.tape,g.output.trans h.grown.output,r8 i g.size,fun j hj hne=>(g.block j (by omega) ?_).trans (h.grown.block j hj hne)⟩,h.gw,h.bw⟩
 ·intro e;have:=(h.row.lt b e.symm).1;omega
 ·intro e;have:=(h.row.lt G e.symm).1;omega
 ·intro e;have:=(h.row.lt j e.symm).1;omega
theorem NY{l:List bm}(h:PI b G st W)(hl:st.rest.length<=2000)(hn:gE gW sep 6 st=(l,s1)):
  Calls prog 164 #[.pointer (some ⟨b,0,none⟩),.string sep,.int .i64 6,.func (.func 165) #[.pointer (some ⟨b,0,none⟩)] #[]] W fun e W'=>∃v,e=.returned v/\W'.ownsRow W.heap.size 120 2 v l.length (fu l)/\PI b G s1 W'/\W.grownBy W' (some b):=by
 obtain⟨i1,hj,Q,R,S⟩:=info_parts Tryz.tL;obtain⟨x0,r,C⟩:∃x0 az,gW st=(x0,az):=⟨_,_,rfl⟩;obtain⟨L,a2,H⟩:∃L az,cq gW sep r.rest.length [x0] r=(L,az):=⟨_,_,rfl⟩;have e:(L,if 6<L.length then eh else a2)=(l,s1):=by rw[<-hn];unfold gE;simp only[C,H]
 injection e with E B
 subst E;have K:=Pure.rV st;rw[C] at K;have HA:=p9 C;have Z:=p9 H;have X:=p9 B;have Y:=p9 h;have J:=h.EA.2;have I:b<W.heap.size:=by obtain⟨_,_,hb,_⟩:=h.box;exact hb.lt
 clear h hn C H B;go_enter func164,ntmps164
 go_wp2_with fail;refine(Qp Y.o HA.o).mono ?_;rintro e k ⟨rfl,h1,g1⟩;have z:=g1.size;have H1:qv (PL W b G r 120 2 (.slice (some ⟨k.heap.size,0,none⟩) 1 1) 1 (fu [x0]) (k.alloc (.cells #[.string x0.key,.int .i64 x0.val] 120))):=
  ⟨h1.quiet (aD k _ none),World.ownsRow_lit (size:=2) k #[.string x0.key,.int .i64 x0.val] 1 z (by unfold maxLen;omega) rfl,ay g1 (aD k _ _),J,I⟩
 clear h1 g1 Y;go_upto_block 0 with fail;obtain⟨V,hV⟩:∃V,V=Value.slice (some ⟨k.heap.size,0,none⟩) 1 1:=⟨_,rfl⟩;rw[<-hV] at H1⊢;clear hV;generalize k.alloc (.cells #[.string x0.key,.int .i64 x0.val] 120)=W2 at H1⊢;clear z;go_cut [9] (fun v w=>PL W b G a2 120 2 v L.length (fu L) w/\L.length+a2.rest.length<=2001)
 case first=>
  go_wp2_with fail;go_loopg [9] (r.rest.length+1) (fun m v w=>∃out f n,PL W b G f 120 2 v out.length (fu out) w/\cq gW sep n out f=(L,a2)/\f.rest.length<=n/\f.rest.length+1<=m/\out.length+f.rest.length<=2001)
  case atStart=>exact⟨[x0],r,r.rest.length,H1.o,Z.o,rm _,by omega,by simp;omega⟩
  case round=>
   obtain⟨out,f,n,s,u,A2,A1,y⟩:=hrel;have c:=p9 s;have t:=p9 u;clear s u H1 Z;cases hm:aP sep f with
   | false=>
    have q:=p9 hm;clear hm;go_wp2_with fail;refine(bg c.o.p sep false q.o).mono ?_;rintro e W3 ⟨rfl,i,g3⟩;rw[show ar sep f=f by unfold ar;rw[q.o];rfl] at i;have g:=p9 (c.o.call i g3);clear i g3 c;go_wp2_with fail;go_meet
    case rel=>
     have e:=t.o;rw[pK q.o] at e;injection e with E B
     subst E;subst B;exact⟨g.o,y⟩
   | true=>
    have q:=p9 hm;have M:=jH hm;obtain⟨x,s2,O⟩:∃x az,gW (ar sep f)=(x,az):=⟨_,_,rfl⟩;have P:=Pure.rV (ar sep f);rw[O] at P;have HX:=p9 O;obtain⟨T,N⟩:∃T,n=T+1:=⟨n - 1,by omega⟩;subst N;clear hm O;go_wp2_with fail;refine(bg c.o.p sep true q.o).mono ?_;rintro e W3 ⟨rfl,i,g3⟩;have g:=p9 (c.o.call i g3);clear i g3 c;go_wp2_with fail;refine(Qp g.o.p HX.o).mono ?_;rintro e W4 ⟨rfl,h4,g4⟩;have U:=p9 (g.o.call h4 g4);clear h4 g4 g;have A:=p9 (U.o.quiet (aD W4 (.cells #[.string x.key,.int .i64 x.val] 120) none));obtain⟨pa,pc,a⟩:∃ao cap,u9=.slice ao out.length cap:=by
     obtain⟨ao,cap,e,_⟩:=aQ (l:=out) A.o.row;exact⟨ao,cap,e⟩
    subst a;clear U;go_wp2_with (at_builtin;go_must (refine wpList_append_lies _ rfl _ _ 47 rfl W.heap.size 120 i1 (.agg #[.string ⟨#[]⟩,.int .i64 0]) 2 24 underlying47 hj Q R S rfl (by decide) (.slice pa out.length pc) _ _ rfl A.o.row _ 1 1 [.string x.key,.int .i64 x.val] rfl rfl (World.news_of_block (heap_alloc_new W4 _)) CZ (by omega) (by unfold maxLen;omega) (by omega) A.o.grown.size _ rfl ?_;intro g2 A0 w5 j d _ _;have H5:=p9 (A.o.more d j);clear j d))
    go_roundg (gk - 1)
    case measure=>omega
    case rel=>
     refine⟨out++[x],s2,T,?_,?_,by omega,by omega,by rw[r7];simp;omega⟩
     ·rw[qH,r7];exact H5.o
     ·rw[<-t.o,om q.o HX.o]
 case rest=>
  obtain⟨s,y⟩:=hcut;have c:=p9 s;obtain⟨pa,pc,a⟩:∃ao cap,u9=.slice ao L.length cap:=by
   obtain⟨ao,cap,e,_⟩:=aQ (l:=L) s.row;exact⟨ao,cap,e⟩
  subst a;clear s H1;by_cases h6:6<L.length
  ·have D:qv (s1=eh):=by show _=_;rw[<-X.o,a8 h6]
   have F:(6:Int)<(L.length:Int):=by omega
   go_wp2_with fail;refine(qj c.o.p).mono ?_;rintro e W3 ⟨rfl,i,g3⟩;have g:=p9 (c.o.call i g3);clear i g3;go_wp2_with fail;refine bodyPost_ret (v:=.slice pa L.length pc) ?_ rfl ⟨_,rfl,g.o.row,by rw[D.o];exact g.o.p,g.o.grown⟩;simp[results,results164,go_sem]
  ·have D:qv (s1=a2):=by show _=_;rw[<-X.o,bk h6]
   have F:¬(6:Int)<(L.length:Int):=by omega
   go_wp2_with fail;refine bodyPost_ret (v:=.slice pa L.length pc) ?_ rfl ⟨_,rfl,c.o.row,by rw[D.o];exact c.o.p,c.o.grown⟩;simp[results,results164,go_sem]
theorem Nn{l:List aZ}(h:PI b G st W)(hl:st.rest.length<=2000)(hn:gE ja sep 6 st=(l,s1)):
  Calls prog 225 #[.pointer (some ⟨b,0,none⟩),.string sep,.int .i64 6,.func (.func 226) #[.pointer (some ⟨b,0,none⟩)] #[]] W fun e W'=>∃v,e=.returned v/\W'.ownsRow W.heap.size 129 2 v l.length (eJ l)/\PI b G s1 W'/\W.grownBy W' (some b):=by
 obtain⟨i1,hj,Q,R,S⟩:=info_parts Tryz.DW;obtain⟨x0,r,C⟩:∃x0 az,ja st=(x0,az):=⟨_,_,rfl⟩;obtain⟨L,a2,H⟩:∃L az,cq ja sep r.rest.length [x0] r=(L,az):=⟨_,_,rfl⟩;have e:(L,if 6<L.length then eh else a2)=(l,s1):=by rw[<-hn];unfold gE;simp only[C,H]
 injection e with E B
 subst E;have K:=Pure.uX st;rw[C] at K;have HA:=p9 C;have Z:=p9 H;have X:=p9 B;have Y:=p9 h;have J:=h.EA.2;have I:b<W.heap.size:=by obtain⟨_,_,hb,_⟩:=h.box;exact hb.lt
 clear h hn C H B;go_enter func225,ntmps225
 go_wp2_with fail;refine(Qc Y.o HA.o).mono ?_;rintro e k ⟨rfl,h1,g1⟩;have z:=g1.size;have H1:qv (PL W b G r 129 2 (.slice (some ⟨k.heap.size,0,none⟩) 1 1) 1 (eJ [x0]) (k.alloc (.cells #[.string x0.name,.string x0.key] 129))):=
  ⟨h1.quiet (aD k _ none),World.ownsRow_lit (size:=2) k #[.string x0.name,.string x0.key] 1 z (by unfold maxLen;omega) rfl,ay g1 (aD k _ _),J,I⟩
 clear h1 g1 Y;go_upto_block 0 with fail;obtain⟨V,hV⟩:∃V,V=Value.slice (some ⟨k.heap.size,0,none⟩) 1 1:=⟨_,rfl⟩;rw[<-hV] at H1⊢;clear hV;generalize k.alloc (.cells #[.string x0.name,.string x0.key] 129)=W2 at H1⊢;clear z;go_cut [9] (fun v w=>PL W b G a2 129 2 v L.length (eJ L) w/\L.length+a2.rest.length<=2001)
 case first=>
  go_wp2_with fail;go_loopg [9] (r.rest.length+1) (fun m v w=>∃out f n,PL W b G f 129 2 v out.length (eJ out) w/\cq ja sep n out f=(L,a2)/\f.rest.length<=n/\f.rest.length+1<=m/\out.length+f.rest.length<=2001)
  case atStart=>exact⟨[x0],r,r.rest.length,H1.o,Z.o,rm _,by omega,by simp;omega⟩
  case round=>
   obtain⟨out,f,n,s,u,A2,A1,y⟩:=hrel;have c:=p9 s;have t:=p9 u;clear s u H1 Z;cases hm:aP sep f with
   | false=>
    have q:=p9 hm;clear hm;go_wp2_with fail;refine(bg c.o.p sep false q.o).mono ?_;rintro e W3 ⟨rfl,i,g3⟩;rw[show ar sep f=f by unfold ar;rw[q.o];rfl] at i;have g:=p9 (c.o.call i g3);clear i g3 c;go_wp2_with fail;go_meet
    case rel=>
     have e:=t.o;rw[pK q.o] at e;injection e with E B
     subst E;subst B;exact⟨g.o,y⟩
   | true=>
    have q:=p9 hm;have M:=jH hm;obtain⟨x,s2,O⟩:∃x az,ja (ar sep f)=(x,az):=⟨_,_,rfl⟩;have P:=Pure.uX (ar sep f);rw[O] at P;have HX:=p9 O;obtain⟨T,N⟩:∃T,n=T+1:=⟨n - 1,by omega⟩;subst N;clear hm O;go_wp2_with fail;refine(bg c.o.p sep true q.o).mono ?_;rintro e W3 ⟨rfl,i,g3⟩;have g:=p9 (c.o.call i g3);clear i g3 c;go_wp2_with fail;refine(Qc g.o.p HX.o).mono ?_;rintro e W4 ⟨rfl,h4,g4⟩;have U:=p9 (g.o.call h4 g4);clear h4 g4 g;have A:=p9 (U.o.quiet (aD W4 (.cells #[.string x.name,.string x.key] 129) none));obtain⟨pa,pc,a⟩:∃ao cap,u9=.slice ao out.length cap:=by
     obtain⟨ao,cap,e,_⟩:=aQ (l:=out) A.o.row;exact⟨ao,cap,e⟩
    subst a;clear U;go_wp2_with (at_builtin;go_must (refine wpList_append_lies _ rfl _ _ 44 rfl W.heap.size 129 i1 (.agg #[.string ⟨#[]⟩,.string ⟨#[]⟩]) 2 32 underlying44 hj Q R S rfl (by decide) (.slice pa out.length pc) _ _ rfl A.o.row _ 1 1 [.string x.name,.string x.key] rfl rfl (World.news_of_block (heap_alloc_new W4 _)) uv (by omega) (by unfold maxLen;omega) (by omega) A.o.grown.size _ rfl ?_;intro g2 A0 w5 j d _ _;have H5:=p9 (A.o.more d j);clear j d))
    go_roundg (gk - 1)
    case measure=>omega
    case rel=>
     refine⟨out++[x],s2,T,?_,?_,by omega,by omega,by rw[r7];simp;omega⟩
     ·rw[qY,r7];exact H5.o
     ·rw[<-t.o,om q.o HX.o]
 case rest=>
  obtain⟨s,y⟩:=hcut;have c:=p9 s;obtain⟨pa,pc,a⟩:∃ao cap,u9=.slice ao L.length cap:=by
   obtain⟨ao,cap,e,_⟩:=aQ (l:=L) s.row;exact⟨ao,cap,e⟩
  subst a;clear s H1;by_cases h6:6<L.length
  ·have D:qv (s1=eh):=by show _=_;rw[<-X.o,a8 h6]
   have F:(6:Int)<(L.length:Int):=by omega
   go_wp2_with fail;refine(qj c.o.p).mono ?_;rintro e W3 ⟨rfl,i,g3⟩;have g:=p9 (c.o.call i g3);clear i g3;go_wp2_with fail;refine bodyPost_ret (v:=.slice pa L.length pc) ?_ rfl ⟨_,rfl,g.o.row,by rw[D.o];exact g.o.p,g.o.grown⟩;simp[results,results225,go_sem]
  ·have D:qv (s1=a2):=by show _=_;rw[<-X.o,bk h6]
   have F:¬(6:Int)<(L.length:Int):=by omega
   go_wp2_with fail;refine bodyPost_ret (v:=.slice pa L.length pc) ?_ rfl ⟨_,rfl,c.o.row,by rw[D.o];exact c.o.p,c.o.grown⟩;simp[results,results225,go_sem]
theorem N3{l:List bW}(h:PI b G st W)(hl:st.rest.length<=2000)(hn:gE jW sep 6 st=(l,s1)):
  Calls prog 122 #[.pointer (some ⟨b,0,none⟩),.string sep,.int .i64 6,.func (.func 123) #[.pointer (some ⟨b,0,none⟩)] #[]] W fun e W'=>∃v,e=.returned v/\W'.ownsRow W.heap.size 125 7 v l.length (eK l)/\PI b G s1 W'/\W.grownBy W' (some b):=by
 obtain⟨i1,hj,R,S,T⟩:=info_parts Tryz.Dd;obtain⟨x0,s,D⟩:∃x0 az,jW st=(x0,az):=⟨_,_,rfl⟩;obtain⟨L,a2,I⟩:∃L az,cq jW sep s.rest.length [x0] s=(L,az):=⟨_,_,rfl⟩;have e:(L,if 6<L.length then eh else a2)=(l,s1):=by rw[<-hn];unfold gE;simp only[D,I]
 injection e with F C
 subst F;have M:=Pure.oG st;rw[D] at M;have HA:=p9 D;have HL:=p9 I;have Y:=p9 C;have Z:=p9 h;have K:=h.EA.2;have J:b<W.heap.size:=by obtain⟨_,_,hb,_⟩:=h.box;exact hb.lt
 clear h hn D I C;go_enter func122,ntmps122
 go_wp2_with fail;refine(Qg Z.o HA.o).mono ?_;rintro e q ⟨rfl,h1,g1⟩;have A:=g1.size;have H1:qv (PL W b G s 125 7 (.slice (some ⟨q.heap.size,0,none⟩) 1 1) 1 (eK [x0]) (q.alloc (.cells #[.int .i64 x0.op,.string x0.a.name,.string x0.a.key,.int .i64 x0.a.val,.string x0.b.name,.string x0.b.key,.int .i64 x0.b.val] 125))):=
  ⟨h1.quiet (aD q _ none),World.ownsRow_lit (size:=7) q #[.int .i64 x0.op,.string x0.a.name,.string x0.a.key,.int .i64 x0.a.val,.string x0.b.name,.string x0.b.key,.int .i64 x0.b.val] 1 A (by unfold maxLen;omega) rfl,ay g1 (aD q _ _),K,J⟩
 clear h1 g1 Z;go_upto_block 0 with fail;obtain⟨V,hV⟩:∃V,V=Value.slice (some ⟨q.heap.size,0,none⟩) 1 1:=⟨_,rfl⟩;rw[<-hV] at H1⊢;clear hV;generalize q.alloc (.cells #[.int .i64 x0.op,.string x0.a.name,.string x0.a.key,.int .i64 x0.a.val,.string x0.b.name,.string x0.b.key,.int .i64 x0.b.val] 125)=W2 at H1⊢;clear A;go_cut [9] (fun v w=>PL W b G a2 125 7 v L.length (eK L) w/\L.length+a2.rest.length<=2001)
 case first=>
  go_wp2_with fail;go_loopg [9] (s.rest.length+1) (fun m v w=>∃out g n,PL W b G g 125 7 v out.length (eK out) w/\cq jW sep n out g=(L,a2)/\g.rest.length<=n/\g.rest.length+1<=m/\out.length+g.rest.length<=2001)
  case atStart=>exact⟨[x0],s,s.rest.length,H1.o,HL.o,rm _,by omega,by simp;omega⟩
  case round=>
   obtain⟨out,g,n,t,y,A2,A1,z⟩:=hrel;have d:=p9 t;have u:=p9 y;clear t y H1 HL;cases hm:aP sep g with
   | false=>
    have r:=p9 hm;clear hm;go_wp2_with fail;refine(bg d.o.p sep false r.o).mono ?_;rintro e W3 ⟨rfl,j,g3⟩;rw[show ar sep g=g by unfold ar;rw[r.o];rfl] at j;have i:=p9 (d.o.call j g3);clear j g3 d;go_wp2_with fail;go_meet
    case rel=>
     have e:=u.o;rw[pK r.o] at e;injection e with F C
     subst F;subst C;exact⟨i.o,z⟩
   | true=>
    have r:=p9 hm;have N:=jH hm;obtain⟨x,s2,P⟩:∃x az,jW (ar sep g)=(x,az):=⟨_,_,rfl⟩;have Q:=Pure.oG (ar sep g);rw[P] at Q;have HX:=p9 P;obtain⟨U,O⟩:∃U,n=U+1:=⟨n - 1,by omega⟩;subst O;clear hm P;go_wp2_with fail;refine(bg d.o.p sep true r.o).mono ?_;rintro e W3 ⟨rfl,j,g3⟩;have i:=p9 (d.o.call j g3);clear j g3 d;go_wp2_with fail;refine(Qg i.o.p HX.o).mono ?_;rintro e W4 ⟨rfl,h4,g4⟩;have X:=p9 (i.o.call h4 g4);clear h4 g4 i;have B:=p9 (X.o.quiet (aD W4 (.cells #[.int .i64 x.op,.string x.a.name,.string x.a.key,.int .i64 x.a.val,.string x.b.name,.string x.b.key,.int .i64 x.b.val] 125) none));obtain⟨pa,pc,c⟩:∃ao cap,u9=.slice ao out.length cap:=by
     obtain⟨ao,cap,e,_⟩:=aQ (l:=out) B.o.row;exact⟨ao,cap,e⟩
    subst c;clear X;go_wp2_with (at_builtin;go_must (refine wpList_append_lies _ rfl _ _ 43 rfl W.heap.size 125 i1 (.agg #[.int .i64 0,.string ⟨#[]⟩,.string ⟨#[]⟩,.int .i64 0,.string ⟨#[]⟩,.string ⟨#[]⟩,.int .i64 0]) 7 88 underlying43 hj R S T rfl (by decide) (.slice pa out.length pc) _ _ rfl B.o.row _ 1 1 [.int .i64 x.op,.string x.a.name,.string x.a.key,.int .i64 x.a.val,.string x.b.name,.string x.b.key,.int .i64 x.b.val] rfl rfl (World.news_of_block (heap_alloc_new W4 _)) Bb (by omega) (by unfold maxLen;omega) (by omega) B.o.grown.size _ rfl ?_;intro g2 A0 w5 k f _ _;have H5:=p9 (B.o.more f k);clear k f))
    go_roundg (gk - 1)
    case measure=>omega
    case rel=>
     refine⟨out++[x],s2,U,?_,?_,by omega,by omega,by rw[r7];simp;omega⟩
     ·rw[qL,r7];exact H5.o
     ·rw[<-u.o,om r.o HX.o]
 case rest=>
  obtain⟨t,z⟩:=hcut;have d:=p9 t;obtain⟨pa,pc,c⟩:∃ao cap,u9=.slice ao L.length cap:=by
   obtain⟨ao,cap,e,_⟩:=aQ (l:=L) t.row;exact⟨ao,cap,e⟩
  subst c;clear t H1;by_cases h6:6<L.length
  ·have E:qv (s1=eh):=by show _=_;rw[<-Y.o,a8 h6]
   have H:(6:Int)<(L.length:Int):=by omega
   go_wp2_with fail;refine(qj d.o.p).mono ?_;rintro e W3 ⟨rfl,j,g3⟩;have i:=p9 (d.o.call j g3);clear j g3;go_wp2_with fail;refine bodyPost_ret (v:=.slice pa L.length pc) ?_ rfl ⟨_,rfl,i.o.row,by rw[E.o];exact i.o.p,i.o.grown⟩;simp[results,results122,go_sem]
  ·have E:qv (s1=a2):=by show _=_;rw[<-Y.o,bk h6]
   have H:¬(6:Int)<(L.length:Int):=by omega
   go_wp2_with fail;refine bodyPost_ret (v:=.slice pa L.length pc) ?_ rfl ⟨_,rfl,d.o.row,by rw[E.o];exact d.o.p,d.o.grown⟩;simp[results,results122,go_sem]
theorem Av(st:RS):(jr st).2.rest.length<=st.rest.length:=by
 unfold jr my;have h1:=Pure.sM st;simp only;split
 ·have b:=Pure.dH eP (dJ st).2;have c:=Pure.nP 0 4 (ar eP (dJ st).2);have d:=Pure.fV lW (cW 0 4 (ar eP (dJ st).2)).2;have f:=Pure.nP (cW 0 4 (ar eP (dJ st).2)).1 4 (aM lW (cW 0 4 (ar eP (dJ st).2)).2);have a:=Pure.fV dy (cW (cW 0 4 (ar eP (dJ st).2)).1 4 (aM lW (cW 0 4 (ar eP (dJ st).2)).2)).2;simp only;omega
 ·have a:=Pure.fV dy (dJ st).2;simp only;omega
theorem wJ{out:List aK}{x:aK}(h:aP aN st=true)(a:dA cV (ar aN st)=(x,s2)):bE (n+1) out st=bE n (out++[x]) s2:=by
 simp only[bE,h,if_true,a]
theorem Cx{out:List aK}{a:RS}{x y:aK}(h:aP aN st=false)(b:aP jI st=true)(d:jr (ar jI st)=(y,a))(c:dA y a=(x,s2)):bE (n+1) out st=bE n (out++[x]) s2:=by
 simp only[bE,h,b,if_true,th,if_false,rW,d,c]
theorem zI{out:List aK}(h:aP aN st=false)(a:aP jI st=false):bE n out st=(out,st):=by
 cases n with
 | zero=>rfl
 | succ n=>simp only[bE,h,a];rfl
theorem Rm{l:List aK}(h:PI b G st W)(hl:st.rest.length<=2000)(hn:gd st=(l,s1)):
  Calls prog 121 #[.pointer (some ⟨b,0,none⟩)] W fun e W'=>∃v,e=.returned v/\W'.ownsRow W.heap.size 191 5 v l.length (bL l)/\PI b G s1 W'/\W.grownBy W' (some b):=by
 obtain⟨i1,hj,U,X,Y⟩:=info_parts Tryz.zj;obtain⟨x0,O,ha⟩:∃x0 az,dA cV st=(x0,az):=⟨_,_,rfl⟩;obtain⟨L,a2,hL⟩:∃L az,bE O.rest.length [x0] O=(L,az):=⟨_,_,rfl⟩;have e:(L,if 6<L.length then eh else a2)=(l,s1):=by rw[<-hn];unfold gd;simp only[ha,hL]
 injection e with e1 Z
 subst e1;have A3:=Pure.kq cV st;rw[ha] at A3;have HA:=p9 ha;have HL:=p9 hL;have HE:=p9 Z;have HH:=p9 h;have A2:=h.EA.2;have A1:b<W.heap.size:=by obtain⟨_,_,hb,_⟩:=h.box;exact hb.lt
 clear h hn ha hL Z;go_enter func121,ntmps121
 go_wp2_with fail;refine(MY (q:=cV) HH.o HA.o).mono ?_;rintro e F ⟨rfl,h1,g1⟩;have T:=g1.size;have H1:qv (PL W b G O 191 5 (.slice (some ⟨F.heap.size,0,none⟩) 1 1) 1 (bL [x0]) (F.alloc (.cells #[.string x0.name,.string x0.ai,.string x0.type,.int .i64 x0.least,.int .i64 x0.bq] 191))):=
  ⟨h1.quiet (aD F _ none),World.ownsRow_lit (size:=5) F #[.string x0.name,.string x0.ai,.string x0.type,.int .i64 x0.least,.int .i64 x0.bq] 1 T (by unfold maxLen;omega) rfl,ay g1 (aD F _ _),A2,A1⟩
 clear h1 g1 HH;go_upto_block 0 with fail;obtain⟨V,hV⟩:∃V,V=Value.slice (some ⟨F.heap.size,0,none⟩) 1 1:=⟨_,rfl⟩;rw[<-hV] at H1⊢;clear hV;generalize F.alloc (.cells #[.string x0.name,.string x0.ai,.string x0.type,.int .i64 x0.least,.int .i64 x0.bq] 191)=W2 at H1⊢;clear T;go_wp2_with fail;go_loopg [3] (O.rest.length+1) (fun m v w=>∃out d n,PL W b G d 191 5 v out.length (bL out) w/\bE n out d=(L,a2)/\d.rest.length<=n/\d.rest.length+1<=m/\out.length+d.rest.length<=2001)
 case atStart=>exact⟨[x0],O,O.rest.length,H1.o,HL.o,rm _,by omega,by simp;omega⟩
 case round=>
  obtain⟨out,d,n,hq,S,A7,A6,A5⟩:=hrel;have k:=p9 hq;have E:=p9 S;clear hq S H1 HL;cases hm:aP aN d with
  | true=>
   have s:=p9 hm;have H:=jH hm;obtain⟨x,s2,J⟩:∃x az,dA cV (ar aN d)=(x,az):=⟨_,_,rfl⟩;have K:=Pure.kq cV (ar aN d);rw[J] at K;have P:=p9 J;obtain⟨M,I⟩:∃M,n=M+1:=⟨n - 1,by omega⟩;subst I;clear hm J;go_wp2_with fail;refine(bg k.o.p aN true s.o).mono ?_;rintro e W3 ⟨rfl,j,g3⟩;have g:=p9 (k.o.call j g3);clear j g3 k;go_wp2_with fail;refine(MY (q:=cV) g.o.p P.o).mono ?_;rintro e N ⟨rfl,B,g5⟩;have u:=p9 (g.o.call B g5);clear B g5 g;have z:=p9 (u.o.quiet (aD N (.cells #[.string x.name,.string x.ai,.string x.type,.int .i64 x.least,.int .i64 x.bq] 191) none));obtain⟨pa,pc,a⟩:∃ao cap,u3=.slice ao out.length cap:=by
    obtain⟨ao,cap,e,_⟩:=aQ (l:=out) z.o.row;exact⟨ao,cap,e⟩
   subst a;clear u;go_wp2_with (at_builtin;go_must (refine wpList_append_lies _ rfl _ _ 42 rfl W.heap.size 191 i1 (.agg #[.string ⟨#[]⟩,.string ⟨#[]⟩,.string ⟨#[]⟩,.int .i64 0,.int .i64 0]) 5 64 underlying42 hj U X Y rfl (by decide) (.slice pa out.length pc) _ _ rfl z.o.row _ 1 1 [.string x.name,.string x.ai,.string x.type,.int .i64 x.least,.int .i64 x.bq] rfl rfl (World.news_of_block (heap_alloc_new N _)) oV (by omega) (by unfold maxLen;omega) (by omega) z.o.grown.size _ rfl ?_;intro g2 Q w5 f c _ _;have D:=p9 (z.o.more c f);clear f c))
   go_roundg (gk - 1)
   case measure=>omega
   case rel=>
    refine⟨out++[x],s2,M,?_,?_,by omega,by omega,by rw[r7];simp;omega⟩
    ·rw[k7,r7];exact D.o
    ·rw[<-E.o];rw[wJ s.o P.o]
  | false=>
   have s:=p9 hm;clear hm;cases t:aP jI d with
   | true=>
    have i:=p9 t;have H:=jH t;obtain⟨y,s3,hy⟩:∃x az,jr (ar jI d)=(x,az):=⟨_,_,rfl⟩;have A4:=Av (ar jI d);rw[hy] at A4;obtain⟨x,s2,J⟩:∃x az,dA y s3=(x,az):=⟨_,_,rfl⟩;have K:=Pure.kq y s3;rw[J] at K;have P:=p9 J;have HY:=p9 hy;obtain⟨M,I⟩:∃M,n=M+1:=⟨n - 1,by omega⟩;subst I;clear t J hy;go_wp2_with fail;refine(bg k.o.p aN false s.o).mono ?_;rintro e W3 ⟨rfl,j,g3⟩;rw[show ar aN d=d by unfold ar;rw[s.o];rfl] at j;have g:=p9 (k.o.call j g3);clear j g3 k;go_wp2_with fail;refine(bg g.o.p jI true i.o).mono ?_;rintro e W4 ⟨rfl,A,g4⟩;have r:=p9 (g.o.call A g4);clear A g4 g;go_wp2_with fail;refine(S3 r.o.p HY.o).mono ?_;rintro e W6 ⟨rfl,R,g6⟩;have D:=p9 (r.o.call R g6);clear R g6 r;go_wp2_with fail;refine(MY (q:=y) D.o.p P.o).mono ?_;rintro e N ⟨rfl,B,g5⟩;have u:=p9 (D.o.call B g5);clear B g5 D;have z:=p9 (u.o.quiet (aD N (.cells #[.string x.name,.string x.ai,.string x.type,.int .i64 x.least,.int .i64 x.bq] 191) none));obtain⟨pa,pc,a⟩:∃ao cap,u3=.slice ao out.length cap:=by
     obtain⟨ao,cap,e,_⟩:=aQ (l:=out) z.o.row;exact⟨ao,cap,e⟩
    subst a;clear u;go_wp2_with (at_builtin;go_must (refine wpList_append_lies _ rfl _ _ 42 rfl W.heap.size 191 i1 (.agg #[.string ⟨#[]⟩,.string ⟨#[]⟩,.string ⟨#[]⟩,.int .i64 0,.int .i64 0]) 5 64 underlying42 hj U X Y rfl (by decide) (.slice pa out.length pc) _ _ rfl z.o.row _ 1 1 [.string x.name,.string x.ai,.string x.type,.int .i64 x.least,.int .i64 x.bq] rfl rfl (World.news_of_block (heap_alloc_new N _)) oV (by omega) (by unfold maxLen;omega) (by omega) z.o.grown.size _ rfl ?_;intro g2 Q w5 f c _ _;have D:=p9 (z.o.more c f);clear f c))
    go_roundg (gk - 1)
    case measure=>omega
    case rel=>
     refine⟨out++[x],s2,M,?_,?_,by omega,by omega,by rw[r7];simp;omega⟩
     ·rw[k7,r7];exact D.o
     ·rw[<-E.o];rw[Cx s.o i.o HY.o P.o]
   | false=>
    have i:=p9 t;clear t;have C:=E.o;rw[zI s.o i.o] at C;injection C with e1 Z
    subst e1;subst Z;obtain⟨pa,pc,a⟩:∃ao cap,u3=.slice ao out.length cap:=by
     obtain⟨ao,cap,e,_⟩:=aQ (l:=out) k.o.row;exact⟨ao,cap,e⟩
    subst a;by_cases R:6<out.length
    ·have HS:qv (s1=eh):=by show _=_;rw[<-HE.o,a8 R]
     have A0:(6:Int)<(out.length:Int):=by omega
     go_wp2_with fail;refine(bg k.o.p aN false s.o).mono ?_;rintro e W3 ⟨rfl,j,g3⟩;rw[show ar aN d=d by unfold ar;rw[s.o];rfl] at j;have g:=p9 (k.o.call j g3);clear j g3 k;go_wp2_with fail;refine(bg g.o.p jI false i.o).mono ?_;rintro e W4 ⟨rfl,A,g4⟩;have r:=p9 (g.o.call A g4);clear A g4 g;go_wp2_with fail;refine(qj r.o.p).mono ?_;rintro e N ⟨rfl,B,g5⟩;have u:=p9 (r.o.call B g5);clear B g5 r;go_wp2_with fail;refine bodyPost_ret (v:=.slice pa out.length pc) ?_ rfl ⟨_,rfl,u.o.row,by rw[HS.o];exact u.o.p,u.o.grown⟩;simp[results,results121,go_sem]
    ·have HS:qv (s1=d):=by show _=_;rw[<-HE.o,bk R]
     have A0:¬(6:Int)<(out.length:Int):=by omega
     go_wp2_with fail;refine(bg k.o.p aN false s.o).mono ?_;rintro e W3 ⟨rfl,j,g3⟩;rw[show ar aN d=d by unfold ar;rw[s.o];rfl] at j;have g:=p9 (k.o.call j g3);clear j g3 k;go_wp2_with fail;refine(bg g.o.p jI false i.o).mono ?_;rintro e W4 ⟨rfl,A,g4⟩;rw[show ar jI d=d by unfold ar;rw[i.o];rfl] at A;have r:=p9 (g.o.call A g4);clear A g4 g;go_wp2_with fail;refine bodyPost_ret (v:=.slice pa out.length pc) ?_ rfl ⟨_,rfl,r.o.row,by rw[HS.o];exact r.o.p,r.o.grown⟩;simp[results,results121,go_sem]
theorem N7(st:RS):(rW st).2.rest.length<=st.rest.length:=
 r8 (Pure.kq _ _) (Av st)
theorem zN(n:Nat):∀(out:List aK) (st:RS),(bE n out st).2.rest.length<=st.rest.length:=by
 induction n with
 | zero=>intro out st;exact rm _
 | succ n ih=>
  intro out st;simp only[bE];split
  ·exact r8 (ih _ _) (r8 (Pure.kq _ _) (Pure.dH _ _))
  ·split
   ·exact r8 (ih _ _) (r8 (N7 _) (Pure.dH _ _))
   ·exact rm _
theorem Hr(st:RS):(gd st).2.rest.length<=st.rest.length:=by
 unfold gd;simp only;split
 ·exact tJ _
 ·exact r8 (zN _ _ _) (Pure.kq _ _)
theorem Ck{one:RS->α × RS}(h:∀st,(one st).2.rest.length<=st.rest.length)(n:Nat):∀(out:List α) (st:RS),(cq one sep n out st).2.rest.length<=st.rest.length:=by
 induction n with
 | zero=>intro out st;exact rm _
 | succ n ih=>
  intro out st;simp only[cq];split
  ·exact r8 (ih _ _) (r8 (h _) (Pure.dH _ _))
  ·exact rm _
theorem FE(st:RS):(fm st).2.rest.length<=st.rest.length:=by
 unfold fm;split
 ·unfold gE;simp only;split
  ·exact tJ _
  ·exact r8 (Ck Pure.oG _ _ _) (r8 (Pure.oG _) (Pure.dH _ _))
 ·exact rm _
theorem GU{l:List bm}(h:k<l.length):eF (l.take k) (l.drop k)=(((l.take k).any fun y=>jb y.key l[k].key) || eF (l.take (k+1)) (l.drop (k+1))):=by
 have e:l.take (k+1)=l.take k++[l[k]]:=by rw[tt,r6 h];rfl
 rw[xi h,e]
 rfl
theorem CB{l:List bm}{c:Nat}(h:W.ownsRow B 120 2 (.slice ao l.length c) l.length (fu l))(hn:l.length<=3000)(hc:l.length<=c):
  Calls prog 166 #[.slice ao l.length c] W fun e W'=>e=.returned (.bool (eF [] l))/\Below W.heap.size W W':=by
 have X:=p9 h;clear h;go_enter func166,ntmps166
 go_wp2_with fail;go_loopg [9] l.length (fun m iv w=>∃k:Nat,iv=.int .i64 (k:Int)/\k+m=l.length/\Below W.heap.size W w/\eF [] l=eF (l.take k) (l.drop k))
 case atStart=>exact⟨0,rfl,by omega,r5 _ _,rfl⟩
 case round=>
  obtain⟨k,rfl,hk,C,M⟩:=hrel;have O:=p9 C;have A:=p9 M;have p:=bD X.o (ag C none);have A0:=p9 p;clear C M;by_cases L:k<l.length
  ·obtain⟨g,rfl,a⟩:=nC (l:=l) dG (fun _=>rfl) p L;have E:wr.cell? ⟨g,k*2,none⟩=some (.string l[k].key):=a 0 (by decide);have F:wr.cell? ⟨g,k*2+1,none⟩=some (.int .i64 l[k].val):=a 1 (by decide);have U:(k:Int)<(l.length:Int):=by omega
   have u:=p9 (GU L);obtain⟨x,hx⟩:∃x,l[k]=x:=⟨_,rfl⟩;rw[hx] at E F u;clear a hx p;go_upto_block 1 with fail;go_cut [] (fun w=>Below W.heap.size W w/\((l.take k).any fun y=>jb y.key x.key)=false)
   case first=>
    have I:Below W.heap.size W (wr.alloc (.cells #[.string x.key,.int .i64 x.val] 120)):=FD O.o O.o.size _;have t:=p9 I;have N:=p9 (Loc.new wr #[.string x.key,.int .i64 x.val] 120);clear I;go_upto_block 2 with fail;obtain⟨Y,hY⟩:∃Y,Y=wr.heap.size:=⟨_,rfl⟩;rw[<-hY] at N⊢;clear hY;generalize wr.alloc (.cells #[.string x.key,.int .i64 x.val] 120)=W1 at t N⊢;clear E F;go_wp2_with fail;go_loopg [18] k (fun m iv w=>∃j:Nat,iv=.int .i64 (j:Int)/\j+m=k/\Below W.heap.size W w/\Loc w Y #[.string x.key,.int .i64 x.val] 120/\((l.take j).any fun y=>jb y.key x.key)=false)
    case atStart=>exact⟨0,rfl,by omega,t.o,N.o,rfl⟩
    case round=>
     obtain⟨j,rfl,hj,C,V,n⟩:=hrel;have d:=p9 C;have Q:=p9 V;have r:=p9 n;have b:=bD X.o (ag C none);clear C n t N;by_cases A1:j<k
     ·obtain⟨g',i,a⟩:=nC (l:=l) dG (fun _=>rfl) b (show j<l.length by omega);injection i with i
      injection i with i
      subst i;have E:wr.cell? ⟨g,j*2,none⟩=some (.string (l[j]'(by omega)).key):=a 0 (by decide);have F:wr.cell? ⟨g,j*2+1,none⟩=some (.int .i64 (l[j]'(by omega)).val):=a 1 (by decide);have S:(j:Int)<(k:Int):=by omega
      obtain⟨y,s⟩:∃y,l[j]'(by omega)=y:=⟨_,rfl⟩;have P:qv (((l.take (j+1)).any fun z=>jb z.key x.key)=jb y.key x.key):=by
       show _=_;have e:l.take (j+1)=l.take j++[y]:=by rw[tt,r6 (by omega),s];rfl
       rw[e,List.any_append,r.o];simp
      have G:qv (jb y.key x.key=true->((l.take k).any fun z=>jb z.key x.key)=true):=by
       intro e;refine List.any_eq_true.2 ⟨y,?_,e⟩;rw[<-s];exact List.mem_take_iff_getElem.2 ⟨j,by omega,rfl⟩
      rw[s] at E F;have K:Below W.heap.size W (wr.alloc (.cells #[.string y.key,.int .i64 y.val] 120)):=FD d.o d.o.size _;have q:=p9 K;have f:=p9 (Q.o.alloc (.cells #[.string y.key,.int .i64 y.val] 120));have D:=p9 (Loc.new wr #[.string y.key,.int .i64 y.val] 120);clear a b K s V;cases he:(y.key.toList==x.key.toList) with
      | true=>
       have HT:qv (eF [] l=true):=by show _=_;rw[A.o,u.o,G.o he];rfl
       go_upto_region 7 with fail;obtain⟨Z,H⟩:∃Z,Z=wr.heap.size:=⟨_,rfl⟩;rw[<-H] at D⊢;clear H;generalize wr.alloc (.cells #[.string y.key,.int .i64 y.val] 120)=W3 at q f D⊢;have z0:=D.o.at_ 0 (.string y.key) rfl;have y0:=f.o.at_ 0 (.string x.key) rfl;clear E F;go_wp2_with fail;refine bodyPost_ret (v:=.bool true) ?_ rfl ⟨by rw[HT.o],q.o⟩;simp[results,results166,go_sem]
      | false=>
       go_upto_region 7 with fail;obtain⟨Z,H⟩:∃Z,Z=wr.heap.size:=⟨_,rfl⟩;rw[<-H] at D⊢;clear H;generalize wr.alloc (.cells #[.string y.key,.int .i64 y.val] 120)=W3 at q f D⊢;have z0:=D.o.at_ 0 (.string y.key) rfl;have y0:=f.o.at_ 0 (.string x.key) rfl;clear E F;go_wp2_with fail;go_roundg (gk - 1)
       case measure=>omega
       case rel=>exact⟨j+1,by simp,by omega,q.o,f.o,by rw[P.o];exact he⟩
     ·have S:¬(j:Int)<(k:Int):=by omega
      have R:j=k:=by omega
      clear b V;go_wp2_with fail;go_meet
      case rel=>exact⟨d.o,by have:=r.o;rw[R] at this;exact this⟩
   case rest=>
    obtain⟨J,n⟩:=hcut;have d:=p9 J;have r:=p9 n;clear J n;go_wp2_with fail;go_roundg (gk - 1)
    case measure=>omega
    case rel=>exact⟨k+1,by simp,by omega,d.o,by rw[A.o,u.o,r.o];rfl⟩
  ·have U:¬(k:Int)<(l.length:Int):=by omega
   have T:k=l.length:=by omega
   have HF:qv (eF [] l=false):=by show _=_;rw[A.o,T,List.drop_length];rfl
   go_wp2_with fail;refine bodyPost_ret (v:=.bool false) ?_ rfl ⟨by rw[HF.o],O.o⟩;simp[results,results166,go_sem]
theorem NV{l:List aK}{c:Nat}{n:ByteArray}(h:W.ownsRow B 191 5 (.slice ao l.length c) l.length (bL l))(L:l.length<=3000):
  Calls prog 126 #[.slice ao l.length c,.string n] W fun e W'=>e=.returned (.bool (dQ l n))/\Below W.heap.size W W':=by
 have J:=p9 h;clear h;go_enter func126,ntmps126
 go_wp2_with fail;go_loopg [9] l.length (fun m iv w=>∃k:Nat,iv=.int .i64 (k:Int)/\k+m=l.length/\Below W.heap.size W w/\dQ (l.take k) n=false)
 case atStart=>exact⟨0,rfl,by omega,r5 _ _,rfl⟩
 case round=>
  obtain⟨k,rfl,hk,u,r⟩:=hrel;have s:=p9 u;have p:=p9 r;have d:=bD J.o (ag u none);clear u r;by_cases f:k<l.length
  ·obtain⟨g,rfl,a⟩:=nC (l:=l) nG (fun _=>rfl) d f;have C:wr.cell? ⟨g,k*5,none⟩=some (.string l[k].name):=a 0 (by decide);have D:wr.cell? ⟨g,k*5+1,none⟩=some (.string l[k].ai):=a 1 (by decide);have E:wr.cell? ⟨g,k*5+2,none⟩=some (.string l[k].type):=a 2 (by decide);have F:wr.cell? ⟨g,k*5+3,none⟩=some (.int .i64 l[k].least):=a 3 (by decide);have G:wr.cell? ⟨g,k*5+4,none⟩=some (.int .i64 l[k].bq):=a 4 (by decide);have z:(k:Int)<(l.length:Int):=by omega
   have i:=xP (n:=n) f;obtain⟨x,A⟩:∃x,l[k]=x:=⟨_,rfl⟩;have I:qv (jb x.name n=true->dQ l n=true):=by intro e;exact zk f (by rw[A];exact e)
   rw[A] at C D E F G i;have t:=p9 i;have b:qv (Below W.heap.size W (wr.alloc (.cells #[.string x.name,.string x.ai,.string x.type,.int .i64 x.least,.int .i64 x.bq] 191))):=FD s.o s.o.size _;have j:=p9 (Loc.new wr #[.string x.name,.string x.ai,.string x.type,.int .i64 x.least,.int .i64 x.bq] 191);clear a A d i;cases he:(x.name.toList==n.toList) with
   | true=>
    go_upto_region 4 with fail;obtain⟨Z,q⟩:∃Z,Z=wr.heap.size:=⟨_,rfl⟩;rw[<-q] at j⊢;clear q;generalize wr.alloc (.cells #[.string x.name,.string x.ai,.string x.type,.int .i64 x.least,.int .i64 x.bq] 191)=K at b j⊢;have z0:=j.o.at_ 0 (.string x.name) rfl;clear C D E F G;go_wp2_with fail;refine bodyPost_ret (v:=.bool true) ?_ rfl ⟨by rw[I.o he],b.o⟩;simp[results,results126,go_sem]
   | false=>
    go_upto_region 4 with fail;obtain⟨Z,q⟩:∃Z,Z=wr.heap.size:=⟨_,rfl⟩;rw[<-q] at j⊢;clear q;generalize wr.alloc (.cells #[.string x.name,.string x.ai,.string x.type,.int .i64 x.least,.int .i64 x.bq] 191)=K at b j⊢;have z0:=j.o.at_ 0 (.string x.name) rfl;clear C D E F G;go_wp2_with fail;go_roundg (gk - 1)
    case measure=>omega
    case rel=>exact⟨k+1,by simp,by omega,b.o,by rw[t.o,p.o];exact he⟩
  ·have z:¬(k:Int)<(l.length:Int):=by omega
   have y:k=l.length:=by omega
   have H:qv (dQ l n=false):=by have:=p.o;rw[y,yt] at this;exact this
   go_wp2_with fail;refine bodyPost_ret (v:=.bool false) ?_ rfl ⟨by rw[H.o],s.o⟩;simp[results,results126,go_sem]
theorem RU{cs:Array Value}{cp:Nat}{f:List Value}(X:Loc W B cs 33)(U:cs[4]?=some (.slice ao f.length cp))(Y:dj W 1 (.slice ao f.length cp) f.length f)(hn:f.length<=8000000)(Z:∀(i:Nat) (h:i<f.length),∃n,n<=1000000/\dj W 1 f[i] n (strs (List.replicate n (uA (i / 4*4))))):
  Calls prog 10 #[.pointer (some ⟨B,0,none⟩)] W fun e W'=>e=.returned (.bool true)/\Below W.heap.size W W':=by
 have u:W.cell? ⟨B,4,none⟩=some (.slice ao f.length cp):=(X.cell 4).trans U;have y:=p9 u;have HS:=p9 Y;have HV:=p9 Z;clear X U Y Z;go_enter func10,ntmps10
 go_wp2_with fail;go_loopg [3] f.length (fun c iv z=>∃k:Nat,iv=.int .i64 (k:Int)/\k+c=f.length/\Below W.heap.size W z)
 case atStart=>exact⟨0,rfl,by omega,r5 _ _⟩
 case round=>
  obtain⟨k,rfl,hk,V⟩:=hrel;have E:=p9 V;clear V;have u:wr.cell? ⟨B,4,none⟩=some (.slice ao f.length cp):=(E.o.cell (block_lt_of_cell u)).trans u;by_cases D:k<f.length
  ·have N:(k:Int)<(f.length:Int):=by omega
   have A0:0<=(k:Int):=by omega
   have A1:(k:Int)<=8000000:=by omega
   obtain⟨n,A2,s⟩:=HV.o k D;obtain⟨F,G,v,-⟩:∃F G,f[k]=.slice F n G/\n<=G:=by
    obtain⟨_,a2,c2,l,C,_⟩:=s;exact⟨a2,c2,l,C⟩
   rw[v] at s;have P:=p9 s;obtain⟨T,ol,J,q⟩:∃g o,ao=some ⟨g,o,none⟩/\W.cell? ⟨g,o+k,none⟩=some f[k]:=by
    obtain⟨_,a2,c2,l,_,O⟩:=HS.o;injection l with l _ _
    obtain⟨g,o,h1,C⟩:=O (by omega);exact⟨g,o,by rw[l,h1],C k _ (r6 D)⟩
   subst J;have x:=y;rw[v] at q;have r:=AN wr (a:=(k / 4*4) % 256) (b:=(k / 4*4) / 256 % 256) (c:=(k / 4*4) / 65536 % 256) (d:=(k / 4*4) / 16777216 % 256) (by omega) (by omega) (by omega) (by omega);have Q:(((k / 4*4) % 256:Nat):Int)=(k:Int) / 4*4 % 256:=by omega
   have l:(((k / 4*4) / 256 % 256:Nat):Int)=(k:Int) / 4*4 / 256 % 256:=by omega
   have R:(((k / 4*4) / 65536 % 256:Nat):Int)=(k:Int) / 4*4 / 65536:=by omega
   have S:(((k / 4*4) / 16777216 % 256:Nat):Int)=(k:Int) / 4*4 / 16777216:=by omega
   rw[Q,l,R,S] at r;change _=Result.ok (Value.string (uA (k / 4*4))) _ at r;clear Q l R S v s;generalize uA (k / 4*4)=m at r P;go_upto_region 6 with fail;have t:=p9 (E.o.alloc E.o.size (.cells #[.int .u8 ((k:Int) / 4*4 % 256),.int .u8 ((k:Int) / 4*4 / 256 % 256),.int .u8 ((k:Int) / 4*4 / 65536),.int .u8 ((k:Int) / 4*4 / 16777216)] 5));clear r;generalize wr.alloc (.cells #[.int .u8 ((k:Int) / 4*4 % 256),.int .u8 ((k:Int) / 4*4 / 256 % 256),.int .u8 ((k:Int) / 4*4 / 65536),.int .u8 ((k:Int) / 4*4 / 16777216)] 5)=W2 at t⊢;have A:qv (∀z,Below W.heap.size W z->z.cell? ⟨B,4,none⟩=some (.slice (some ⟨T,ol,none⟩) f.length cp)/\z.cell? ⟨T,ol+k,none⟩=some (.slice F n G)):=p9 (fun z hz=>⟨(hz.cell (block_lt_of_cell x.o)).trans x.o,(hz.cell (block_lt_of_cell q)).trans q⟩);clear u q;obtain⟨u,cl⟩:=A.o W2 t.o;obtain⟨I,K⟩:∃I,I=gk:=⟨_,rfl⟩;subst K;go_wp2_with fail;go_loopg [6] n (fun c jv z=>∃j:Nat,jv=.int .i64 (j:Int)/\j+c=n/\Below W.heap.size W z)
   case atStart=>exact⟨0,rfl,by omega,t.o⟩
   case round=>
    obtain⟨j,rfl,hj,p⟩:=hrel;obtain⟨u,cl⟩:=A.o wr p;have w:=p9 p;have H:=p9 (P.o.below p);clear p;by_cases M:j<n
    ·have L:(j:Int)<(n:Int):=by omega
     obtain⟨lg,lo,rfl,cj⟩:∃g o,F=some ⟨g,o,none⟩/\wr.cell? ⟨g,o+j,none⟩=some (.string m):=by
      obtain⟨_,a2,c2,l,_,O⟩:=H.o;injection l with l _ _
      obtain⟨g,o,h1,C⟩:=O (by omega);exact⟨g,o,by rw[l,h1],C j _ (by unfold strs;rw[F0,List.getElem?_replicate,a8 M];rfl)⟩
     go_wp2_with fail;go_roundg (gk - 1)
     case measure=>omega
     case rel=>exact⟨j+1,by simp,by omega,w.o⟩
    ·have L:¬(j:Int)<(n:Int):=by omega
     go_wp2_with fail;go_roundg (I - 1)
     case measure=>omega
     case rel=>exact⟨k+1,by simp,by omega,w.o⟩
  ·have N:¬(k:Int)<(f.length:Int):=by omega
   go_wp2_with fail;go_ret;exact⟨rfl,E.o⟩
open Go
section
variable {H:Type} {enc:TypeId × Value->H} {w:World} {base:Nat} {spare:Nat->Bool} {held:Bool}
theorem MQ(d:DataW H):1<=Rows.uptoBulk d:=by
 cases d with
 | lit l=>cases l<;>simp[Rows.uptoBulk]
 | nil=>simp[Rows.uptoBulk]
 | ptr d=>simp[Rows.uptoBulk]
 | slice a b=>simp[Rows.uptoBulk]
 | agg a=>simp[Rows.uptoBulk]
 | iface t d=>simp[Rows.uptoBulk]
 | map a=>simp[Rows.uptoBulk]
 | held h=>simp[Rows.uptoBulk]
theorem yR{d:DataW H}:∀{l:List (DataW H)},d∈l->Rows.uptoBulk d<=Rows.uptoBulkAll l
 | [],h=>by cases h
 | x::r,h=>by
  have e:Rows.uptoBulkAll (x::r)=Rows.uptoBulk x+Rows.uptoBulkAll r:=by simp[Rows.uptoBulkAll]
  rw[e];rcases List.mem_cons.1 h with rfl|h
  ·omega
  ·have:=yR h;omega
theorem AR:∀(l:List (DataW H)),l.length<=Rows.uptoBulkAll l
 | []=>by simp
 | x::r=>by
  have e:Rows.uptoBulkAll (x::r)=Rows.uptoBulk x+Rows.uptoBulkAll r:=by simp[Rows.uptoBulkAll]
  have:=AR r;have:=MQ x;rw[e,vw];omega
theorem Tryz.Lv:prog.cellsOf 9=1:=by kernel_rfl
theorem Tryz.LC:prog.cellsOf 3=1:=by kernel_rfl
theorem Tryz.JJ:prog.cellsOf 4=1:=by kernel_rfl
theorem Gf(h:(cs.drop o).take 1=[v]):cs[o]?=some v:=by
 have a:=congrArg (fun l:List Value=>l[0]?) h
 simpa [List.getElem?_take,List.getElem?_drop] using a
theorem TA{y:DataW H × List MemPlace}(h:DataW.trod enc prog w base spare held n 9 ((cs.drop o).take (prog.cellsOf 9))=some y):∃s:ByteArray,cs[o]?=some (.string s)/\s.size+1<=Rows.uptoBulk y.1:=by
 rw[Tryz.Lv] at h;obtain⟨s,a,rfl,_⟩:=DataW.trod_string underlying9 h;refine⟨s,Gf a,?_⟩;have e:Rows.uptoBulk (DataW.lit (H:=H) (.string s.data.toList))=s.data.toList.length+1:=by simp only[Rows.uptoBulk]
 rw[e,A4];exact rm _
theorem zy{α:Type}(f:α->List Value){k:Nat}(hk:∀a,(f a).length=k):∀l:List α,(l.flatMap f).length=l.length*k
 | []=>by simp
 | a::l=>by rw[vz,r7,hk,zy f hk l,vw,Nat.succ_mul];omega
theorem Tr{y:DataW H × List MemPlace}(h:DataW.trod enc prog w base spare held n 3 ((cs.drop o).take (prog.cellsOf 3))=some y):∃k:Int,cs[o]?=some (.int .i64 k)/\nY k:=by
 rw[Tryz.LC] at h;obtain⟨k,a,rfl,hw⟩:=DataW.trod_int underlying3 h;rw[Lit.wf,wa,decide_eq_true_eq,decide_eq_true_eq] at hw;exact⟨k,Gf a,hw.1,hw.2⟩
theorem Tf{y:DataW H × List MemPlace}(h:DataW.trod enc prog w base spare held n 4 ((cs.drop o).take (prog.cellsOf 4))=some y):∃b:Bool,cs[o]?=some (.bool b):=by
 rw[Tryz.JJ] at h;obtain⟨b,a,rfl⟩:=DataW.trod_bool underlying4 h;exact⟨b,Gf a⟩
theorem Tj{xs:List (DataW H × List MemPlace)}{y:DataW H × List MemPlace}{i N:Nat}(hi:xs[i]?=some y)(a:Rows.uptoBulk (.agg (xs.map (·.1)))<=N):Rows.uptoBulk y.1+1<=N:=by
 have e:Rows.uptoBulk (.agg (xs.map (·.1)))=Rows.uptoBulkAll (xs.map (·.1))+1:=by simp[Rows.uptoBulk]
 have:=yR (d:=y.1) (l:=xs.map (·.1)) (List.mem_map.2 ⟨y,zs hi,rfl⟩);omega
theorem Tw{xs:List (DataW H × List MemPlace)}{i:Nat}(a:xs.length=n)(hi:i<n):∃y,xs[i]?=some y:=⟨_,r6 (by omega)⟩
theorem R8(f:α->List Value)(hk:∀a,(f a).length=k)(g:0<k)(Good:α->Prop){t e:TypeId}(U:prog.underlying t=some (.slice e))(S:prog.cellsOf e=k)
  (E:∀(n:Nat) (cs:List Value) (y:DataW H × List MemPlace),DataW.trod enc prog w base spare held n e cs=some y->∃a,cs=f a/\(Rows.uptoBulk y.1<=1048576->Good a))
  {n:Nat} {cs:List Value} {x:DataW H × List MemPlace} (h:DataW.trod enc prog w base spare held n t cs=some x):
  ∃(l:List α) (v:Value),cs=[v]/\dj w k v l.length (l.flatMap f)/\(Rows.uptoBulk x.1<=1048576->(∀a∈l,Good a)/\l.length<=1048576):=by
 rcases DataW.trod_slice U h with ⟨rfl,rfl⟩|⟨I,len,cap,c,rest,m,rfl,rfl,rfl,_,F,_,hlen,s,_,_⟩
 ·exact⟨[],_,rfl,⟨by simp,none,0,rfl,rm _,fun h0=>(by simp at h0)⟩,fun _=>⟨fun a ha=>(by cases ha),by simp⟩⟩
 have M:∀i,i<len->∃a,(∀j,j<k->w.cell? ((I.add (i*k)).add j)=(f a)[j]?)/\(∀N,Rows.uptoBulk (.slice (c.map (·.1)) (rest.map (·.1)))<=N->N<=1048576->Good a):=by
  intro i hi;have J:=s i hi;rw[r6 (by omega),S] at J;obtain⟨O,h1,B⟩:=Option.bind_eq_some_iff.1 J;obtain⟨a,rfl,z⟩:=E _ _ _ B;obtain⟨_,_,Q⟩:=World.cells?_some h1;refine⟨a,Q,fun N hN hN2=>z ?_⟩;have hm:(c[i]'(by omega)).1∈c.map (·.1):=List.mem_map.2 ⟨_,sT _,rfl⟩;have V:=yR hm;have P:Rows.uptoBulk (.slice (c.map (·.1)) (rest.map (·.1)))=Rows.uptoBulkAll (c.map (·.1))+Rows.uptoBulkAll (rest.map (·.1))+1:=by simp[Rows.uptoBulk]
  omega
 let A:Fin len->α:=fun i=>Classical.choose (M i.1 i.2)
 have C:∀i:Fin len,_:=fun i=>Classical.choose_spec (M i.1 i.2);have d:(List.ofFn A).length=len:=by simp
 refine⟨List.ofFn A,_,rfl,?_,fun z=>⟨fun a ha=>?_,?_⟩⟩
 ·rw[d];refine⟨?_,_,_,rfl,F,fun h0=>?_⟩
  ·rw[zy f hk,d]
  obtain⟨b,o,sp⟩:=I;have G:sp=none:=by
   have h1:=(C ⟨0,h0⟩).1 0 g;have B:(f (A ⟨0,h0⟩))[0]?=some ((f (A ⟨0,h0⟩))[0]'(by rw[hk];exact g)):=r6 _
   simpa [Addr.add] using World.cell?_spot (h1.trans B)
  subst G;refine⟨b,o,rfl,fun j u hu=>?_⟩;have K:j<((List.ofFn A).flatMap f).length:=by
   by_cases K:j<((List.ofFn A).flatMap f).length
   ·exact K
   ·rw[x7 (by omega)] at hu;cases hu
  have T:((List.ofFn A).flatMap f).length=len*k:=by
   rw[zy f hk,d]
  have hi:j / k<len:=by rw[Nat.div_lt_iff_lt_mul g];omega
  have L:j % k<k:=Nat.mod_lt _ g;have D:j / k*k+j % k=j:=by rw[Nat.mul_comm];exact Nat.div_add_mod j k
  have r:=lF f hk (List.ofFn A) (j / k) (by rw[d];exact hi) (j % k) L;rw[D,hu] at r;have q:=(C ⟨j / k,hi⟩).1 (j % k) L;have p:((⟨b,o,none⟩:Addr).add (j / k*k)).add (j % k)=⟨b,o+j,none⟩:=by
   unfold Addr.add;split<;>split<;>simp_all<;>omega
  rw[p] at q;rw[q,r,List.getElem_ofFn]
 ·obtain⟨i,rfl⟩:=(List.mem_ofFn).1 ha;exact(C i).2 _ (rm _) z
 ·rw[d];have P:Rows.uptoBulk (.slice (c.map (·.1)) (rest.map (·.1)))=Rows.uptoBulkAll (c.map (·.1))+Rows.uptoBulkAll (rest.map (·.1))+1:=by simp[Rows.uptoBulk]
  have R:=AR (c.map (·.1));rw[tB] at R;simp only at z;omega
end
end
end Go.Proofs.YtbfmmmjkjhjleaaGreatDoor
