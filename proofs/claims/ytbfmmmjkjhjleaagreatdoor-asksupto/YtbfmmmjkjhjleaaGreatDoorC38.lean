/- Mine. -/
import Derived.Test.YtbfmmmjkjhjleaaGreatDoorC32
import Derived.Test.YtbfmmmjkjhjleaaGreatDoorC15
import Derived.Test.YtbfmmmjkjhjleaaGreatDoorC34
set_option maxRecDepth 100000
set_option maxHeartbeats 0
namespace Go.Proofs.YtbfmmmjkjhjleaaGreatDoor
open Go.Proofs.Tryz
variable {w:World} {ops:Array Oper} {rest:List Oper} {op:Oper} {a:Act} {Q:Exit->Act->World->Prop} {s:ByteArray}
section
open Go.RowKit
theorem uY{t:Nat}{n0:ByteArray}(b:op.guard=none)(c:op.op=.build 49 #[(0,.const (.int .i64 6)),(8,.tmp t)])(f:a.tmps[t]?=some (.string n0))(h:wpList prog ops Q rest (a.put op.dst (.agg #[.int .i64 6,.slice none 0 0,.slice none 0 0,.slice none 0 0,.int .i64 0,.bool false,.int .i64 0,.int .i64 0,.string n0,.string ⟨#[]⟩,.string ⟨#[]⟩,.string ⟨#[]⟩,.int .i64 0,.string ⟨#[]⟩,.string ⟨#[]⟩,.string ⟨#[]⟩,.slice none 0 0])) w):wpList prog ops Q (op::rest) a w:=
 wpList_plain b fun _ hK=>by
  unfold Oper.wp execOp;simp only[c];obtain⟨g,d⟩:=a;go_simp;exact hK _ _ h
theorem Kh{b G:Nat}{st:RS}{W:World}(h:PI b G st W)(A:aP fl st=true):
  Calls prog 75 #[.pointer (some ⟨b,0,none⟩)] W (rE b G W (gK st)):=by
 have g0:=aD W (.cells zq 49) none;have m:=p9 (h.quiet g0);have a:=p9 (Loc.new W zq 49);have d:=p9 (aD W (.cells zq 49) (some b));have u:=size_alloc W (.cells zq 49);have H:b<W.heap.size:=by obtain⟨_,_,F,_⟩:=h.box;exact F.lt
 have I:=h.EA.2;clear g0 h;go_enter func75,ntmps75
 go_wp2_with fail;obtain⟨X0,l⟩:∃X0,X0=W.heap.size:=⟨_,rfl⟩;rw[<-l] at a⊢;have r:W.heap.size<=X0:=by omega
 have c:qv (X0≠b/\X0≠G):=by show _/\_;omega
 have s:X0<(W.alloc (.cells zq 49)).heap.size:=by omega
 clear l;generalize W.alloc (.cells zq 49)=L at m a d u s⊢;obtain⟨n0,s2,t⟩:∃n az,ed (ar fl st)=(n,az):=⟨_,_,rfl⟩;have E:=p9 t;have D:qv (gK st=({aB with kind:=6,name:=n0},s2)):=by show _=_;unfold gK;rw[A];simp only[t];rfl
 clear t;refine(bg m.o fl true A).mono ?_;rintro e K ⟨rfl,h1,g1⟩;have H1:=p9 h1;have w:=p9 (ay d.o g1);have f:=p9 (a.o.grown g1 (by intro e;injection e with e;exact c.o.1 e));clear h1 g1 m d a;go_wp2_with fail;refine(qi H1.o E.o).mono ?_;rintro e i ⟨rfl,x,g2⟩;have C:=p9 x;have B:=p9 (ay w.o g2);have g:=p9 (f.o.grown g2 (by intro e;injection e with e;exact c.o.1 e));clear x g2 H1 w f;rename_i J q;refine q _ _ ?_;refine uY (n0:=n0) rfl rfl rfl ?_;refine wpList_store_mid rfl 49 _ _ rfl X0 0 (qC {aB with kind:=6,name:=n0} (.slice none 0 0) (.slice none 0 0) (.slice none 0 0) (.slice none 0 0)) rfl rfl g.o.there Tryz.bp (mW _) ?_;have y:Loc (i.setCells X0 0 (qC {aB with kind:=6,name:=n0} (.slice none 0 0) (.slice none 0 0) (.slice none 0 0) (.slice none 0 0)).toList) X0 (qC {aB with kind:=6,name:=n0} (.slice none 0 0) (.slice none 0 0) (.slice none 0 0) (.slice none 0 0)) 49:=g.o.fC rfl;have p:=aU X0 (qC {aB with kind:=6,name:=n0} (.slice none 0 0) (.slice none 0 0) (.slice none 0 0) (.slice none 0 0)).toList 0 i;have z:PI b G s2 (i.setCells X0 0 (qC {aB with kind:=6,name:=n0} (.slice none 0 0) (.slice none 0 0) (.slice none 0 0) (.slice none 0 0)).toList):=C.o.kept p (by intro e;injection e with e;exact c.o.1 e.symm) (by intro e;injection e with e;exact c.o.2 e.symm);have j:W.grownBy (i.setCells X0 0 (qC {aB with kind:=6,name:=n0} (.slice none 0 0) (.slice none 0 0) (.slice none 0 0) (.slice none 0 0)).toList) (some b):=oP B.o p r;obtain⟨WF,k⟩:∃WF,i.setCells X0 0 (qC {aB with kind:=6,name:=n0} (.slice none 0 0) (.slice none 0 0) (.slice none 0 0) (.slice none 0 0)).toList=WF:=⟨_,rfl⟩;rw[k] at y z j⊢;clear k p;go_wp2_with fail;refine bodyPost_ret (v:=.agg (qC {aB with kind:=6,name:=n0} (.slice none 0 0) (.slice none 0 0) (.slice none 0 0) (.slice none 0 0))) ?_ rfl ?_
 ·exact xW results75 rfl y rfl
 ·rw[D.o];exact⟨_,_,_,_,rfl,⟨tj _ _ _ _,tj _ _ _ _,tj _ _ _ _,tj _ _ _ _⟩,z,j⟩
theorem Rk{b G:Nat}{st:RS}{W:World}(h:PI b G st W)(c:st.rest.length<=2000):
  Calls prog 75 #[.pointer (some ⟨b,0,none⟩)] W (rE b G W (gK st)):=by
 cases a:aP fl st with
 | true=>exact Kh h a
 | false=>
  cases hm:aP aW st with
  | true=>exact J5 h c a hm
  | false=>exact FW h c a hm
theorem uG{a:List Tok}(h:dN s=some a):parseText (dN s)=iE a:=by
 rw[h];unfold dN at h;split at h
 ·cases h
 ·exact(Pure.Ls (Pure.KL s s.size 0 a (by omega) h)).symm
theorem PI.start{a:World}{B X0:Nat}{k:Value}{c:List Tok}(r:a.ownsRow B 115 3 k c.length (dO c))(q:X0<a.heap.size):
  ∃G,G<a.heap.size/\PI a.heap.size G ⟨c,false⟩ (a.alloc (.cells #[k,.bool false] 156)):=by
 obtain⟨ao,cap,rfl,h,i⟩:=Dy r;have b:∀{x o:Nat} {v:Value},x<a.heap.size->a.cell? ⟨x,o,none⟩=some v->(a.alloc (.cells #[.slice ao c.length cap,.bool false] 156)).cell? ⟨x,o,none⟩=some v:=by
  intro x o v t s;rw[<-s];simp only[World.cell?,Below.heap_alloc a _ x t]
 have w:=size_alloc a (.cells #[.slice ao c.length cap,.bool false] 156);by_cases p:0<c.length
 ·obtain⟨g,rfl,m,_,_⟩:=i 0 p;have d:g<a.heap.size:=Lib.lt_of_cell m;refine⟨g,d,⟨_,cap,Loc.new a _ _,h,?_⟩,⟨by omega,by omega⟩⟩;intro j f;obtain⟨u,e,a0,l,a2⟩:=i j f;injection e with e
  injection e with n _
  subst n;refine⟨0,rfl,?_,?_,?_⟩
  ·rw[tH];exact b d a0
  ·rw[tH];exact b d l
  ·rw[tH];exact b d a2
 ·exact⟨X0,q,⟨_,cap,Loc.new a _ _,h,fun j f=>absurd f (by simp only;omega)⟩,⟨by omega,by omega⟩⟩
theorem jl(b:op.guard=none)(c:op.op=.alloc 49)(h:wpList prog ops Q rest (a.put op.dst (.pointer (some ⟨w.heap.size,0,none⟩))) (w.alloc (.cells zq 49))):wpList prog ops Q (op::rest) a w:=
 wpList_plain b fun _ hK=>by
  unfold Oper.wp execOp;simp only[c];go_simp;exact hK _ _ h
theorem xj{q:aI}(h:pW q):q.ah.length<=6/\q.aq.length<=6/\q.af.length<=6/\q.aj.length<=6:=by
 rcases h with h|h|h|h|h|h
 ·obtain⟨hm,_,_,a,_,_,_,_,_,_,e⟩:=h;refine⟨hm.wo,hm.wi,a,?_⟩;rw[e];simp
 ·obtain⟨hm,_,_,_,e⟩:=h;refine⟨hm.wo,hm.wi,?_,?_⟩<;>rw[e]<;>simp
 ·obtain⟨hm,_,e⟩:=h;refine⟨hm.wo,hm.wi,?_,?_⟩<;>rw[e]<;>simp
 ·obtain⟨hm,_,_,_,e⟩:=h;refine⟨hm.wo,hm.wi,?_,?_⟩<;>rw[e]<;>simp
 ·obtain⟨_,_,b,_,e⟩:=h;refine⟨?_,?_,?_,b⟩<;>rw[e]<;>simp
 ·obtain⟨_,e⟩:=h;refine⟨?_,?_,?_,?_⟩<;>rw[e]<;>simp
theorem Jw(s:ByteArray)(W:World){ev:Value}(hg:W.cell? ⟨7,0,none⟩=some ev)(Ad:ev=.nilIface\/∃te pe,ev=.iface te pe)(hs:s.size<=maxLen):Calls prog 35 #[.string s] W (rF (parseText (dN s)) W):=by
 have A0:Below W.heap.size W (W.alloc (.cells zq 49)):=FD (r5 _ _) (rm _) _;have L0:=Loc.new W zq 49;have HZ:=size_alloc W (.cells zq 49);have Ae:(⟨7,0,none⟩:Addr).block<W.heap.size:=Lib.lt_of_cell hg;have HG:=p9 ((A0.cell Ae).trans hg);have A5:=p9 Ad;have T:=p9 A0;have K:=p9 L0;clear A0 L0 hg Ad Ae;go_enter func35,ntmps35
 go_wp2_with fail;obtain⟨X0,A3⟩:∃X0,X0=W.heap.size:=⟨_,rfl⟩;rw[<-A3] at K⊢;have N:W.heap.size<=X0:=by omega
 have Aj:X0+1=(W.alloc (.cells zq 49)).heap.size:=by rw[HZ,A3]
 clear A3;generalize W.alloc (.cells zq 49)=Wz at T K HZ HG Aj⊢;refine(tokens s Wz HG.o A5.o hs).mono ?_;rintro e F ⟨O,hr⟩;have Am:=O.size;have L:qv (Loc F X0 zq 49):=K.o.grown (ag O none) (by simp);have HW:qv (Below W.heap.size W F):=eI (b:=W.heap.size) T.o (ag O _) (rm _);clear O K T HG A5;rcases hr with ⟨Af,rfl⟩|⟨S,lv,A4,rfl,I⟩
 ·have t:qv (parseText (dN s)=(aB,3)):=by show _=_;rw[Af];rfl
  clear Af;go_upto_region 3 with fail;refine wp_region_lit ?_;refine fc rfl rfl ?_;refine ej rfl rfl ?_;refine wpList_store_mid rfl 49 _ _ rfl X0 0 zq rfl rfl L.o.there Tryz.bp yG ?_;have w:Loc (F.setCells X0 0 zq.toList) X0 zq 49:=L.o.fC rfl;have d:=aU X0 zq.toList 0 F;obtain⟨WF,f⟩:∃WF,F.setCells X0 0 zq.toList=WF:=⟨_,rfl⟩;rw[f] at w d⊢;clear f;go_wp2_with fail;refine bodyPost_ret (v:=.tuple #[.agg zq,.int .i64 3]) (kC results35 rfl rfl w rfl) rfl ⟨?_,.slice none 0 0,.slice none 0 0,.slice none 0 0,.slice none 0 0,?_,?_⟩
  ·exact eI (b:=X0) HW.o d N
  ·rw[t.o];rfl
  ·rw[t.o];exact iJ.none _ _
 ·obtain⟨q0,s0,Ag⟩:∃q0 s0,gK ⟨S,false⟩=(q0,s0):=⟨_,_,rfl⟩;have u:=p9 Ag;clear Ag;have hl:=DL A4;have HT:=p9 (uG A4);obtain⟨ao,ca,rfl,Ar⟩:=aQ (l:=S) I;obtain⟨G,Ah,z⟩:=PI.start (X0:=X0) I (by omega);have HP:=p9 z;have U:qv (Loc (F.alloc (.cells #[.slice ao S.length ca,.bool false] 156)) X0 zq 49):=L.o.alloc _;have Y:qv (Below W.heap.size W (F.alloc (.cells #[.slice ao S.length ca,.bool false] 156))):=HW.o.alloc (by have:=HW.o.size;omega) _;have Ao:=size_alloc F (.cells #[.slice ao S.length ca,.bool false] 156);clear z I L A4;go_upto_region 5 with fail;obtain⟨b,hb⟩:∃b,b=F.heap.size:=⟨_,rfl⟩;rw[<-hb] at HP⊢;have Aq:X0<b:=by omega
  have Ak:W.heap.size<=b:=by have:=HW.o.size;omega
  have Al:b<(F.alloc (.cells #[.slice ao S.length ca,.bool false] 156)).heap.size:=by omega
  clear hb Am Ah HW;generalize F.alloc (.cells #[.slice ao S.length ca,.bool false] 156)=W2 at HP U Y Ao Al⊢;go_wp2_with fail;refine(Rk HP.o hl).mono ?_;rintro e C ⟨vs,vc,vi,vp,rfl,a,z,Q⟩;rw[u.o] at a z⊢;simp only at a z⊢;obtain⟨k,m,rfl,m1⟩:=aQ (l:=q0.ah) a.rs;obtain⟨a2,n,rfl,m2⟩:=aQ (l:=q0.aq) a.rc;obtain⟨a3,p,rfl,m3⟩:=aQ (l:=q0.af) a.rt;obtain⟨a4,r,rfl,m4⟩:=aQ (l:=q0.aj) a.rp;have A6:=p9 (U.o.grown Q (by intro e;injection e with e;omega));have A9:qv (Below W.heap.size W C):=eI (b:=b) Y.o Q Ak;have As:=Q.size;have A8:=p9 a;have V:=p9 z;clear a z Q U Y HP m1 m2 m3 m4;rename_i KK Ab;refine Ab _ _ ?_;clear Ab KK;refine jl rfl rfl ?_;have n4:=Loc.new C zq 49;refine wpList_store_mid rfl 49 _ _ rfl C.heap.size 0 (qC q0 (.slice k q0.ah.length m) (.slice a2 q0.aq.length n) (.slice a3 q0.af.length p) (.slice a4 q0.aj.length r)) rfl rfl n4.there Tryz.bp (mW _) ?_;have w:Loc ((C.alloc (.cells zq 49)).setCells C.heap.size 0 (qC q0 (.slice k q0.ah.length m) (.slice a2 q0.aq.length n) (.slice a3 q0.af.length p) (.slice a4 q0.aj.length r)).toList) C.heap.size (qC q0 (.slice k q0.ah.length m) (.slice a2 q0.aq.length n) (.slice a3 q0.af.length p) (.slice a4 q0.aj.length r)) 49:=n4.fC rfl;have A1:=aD C (.cells zq 49) (some C.heap.size);have A2:=aU C.heap.size (qC q0 (.slice k q0.ah.length m) (.slice a2 q0.aq.length n) (.slice a3 q0.af.length p) (.slice a4 q0.aj.length r)).toList 0 (C.alloc (.cells zq 49));have d:=ay A1 A2;obtain⟨x,hx⟩:∃x,x=C.heap.size:=⟨_,rfl⟩;rw[<-hx] at w d⊢;obtain⟨W4,Ac⟩:∃WF,(C.alloc (.cells zq 49)).setCells x 0 (qC q0 (.slice k q0.ah.length m) (.slice a2 q0.aq.length n) (.slice a3 q0.af.length p) (.slice a4 q0.aj.length r)).toList=WF:=⟨_,rfl⟩;rw[<-hx] at A1 A2 n4;rw[Ac] at w d⊢;have Au:b<x:=by omega
  have Ai:G≠x:=by have:=V.o.EA.2;omega
  have B:=p9 w;have X:=p9 (V.o.kept d (by intro e;injection e with e;omega) (by intro e;injection e with e;exact Ai e));have A:=p9 (A6.o.grown d (by intro e;injection e with e;omega));have D:qv (Below W.heap.size W W4):=eI (b:=x) A9.o d (by omega);have c:qv (iJ W2.heap.size q0 (.slice k q0.ah.length m) (.slice a2 q0.aq.length n) (.slice a3 q0.af.length p) (.slice a4 q0.aj.length r) W4):=by
   have h:=A8.o;exact⟨h.rs.kept d (a6 fun e=>by have:=(h.rs.lt x e).2;omega),h.rc.kept d (a6 fun e=>by have:=(h.rc.lt x e).2;omega),h.rt.kept d (a6 fun e=>by have:=(h.rt.lt x e).2;omega),h.rp.kept d (a6 fun e=>by have:=(h.rp.lt x e).2;omega)⟩
  have At:X0≠x:=by omega
  clear Ac d A1 A2 n4 w A8 V A6 A9 hx;go_wp2_with fail;refine(Sm X.o).mono ?_;rintro e Ap ⟨rfl,An⟩;obtain rfl:=An.symm;cases P:(!s0.bad&&s0.rest.isEmpty) with
  | false=>
   have M:=p9 P;clear P;have J:(s0.bad || !s0.rest.isEmpty)=true:=by have:=M.o;revert this;cases s0.bad<;>cases s0.rest.isEmpty<;>simp
   have t:qv (parseText (dN s)=(aB,3)):=by show _=_;rw[HT.o];unfold iE;simp only[u.o,J,if_true]
   clear J;go_upto_region 7 with fail;refine wp_region_lit ?_;refine fc rfl rfl ?_;refine wpList_store_mid rfl 49 _ _ rfl X0 0 zq rfl rfl A.o.there Tryz.bp yG ?_;have w:Loc (W4.setCells X0 0 zq.toList) X0 zq 49:=A.o.fC rfl;have d:=aU X0 zq.toList 0 W4;obtain⟨WF,f⟩:∃WF,W4.setCells X0 0 zq.toList=WF:=⟨_,rfl⟩;rw[f] at w d⊢;clear f;go_wp2_with fail;refine bodyPost_ret (v:=.tuple #[.agg zq,.int .i64 3]) (kC results35 rfl rfl w rfl) rfl ⟨?_,.slice none 0 0,.slice none 0 0,.slice none 0 0,.slice none 0 0,?_,?_⟩
   ·exact eI (b:=X0) D.o d N
   ·rw[t.o];rfl
   ·rw[t.o];exact iJ.none _ _
  | true=>
   have M:=p9 P;clear P;cases R:fF q0 with
   | false=>
    have E:=p9 R;clear R;have J:(s0.bad || !s0.rest.isEmpty)=false:=by have:=M.o;revert this;cases s0.bad<;>cases s0.rest.isEmpty<;>simp
    have g:pW q0:=by
     have h:=Pure.pP (st:=⟨S,false⟩) (by rw[u.o];revert J;cases s0.bad<;>simp);rw[u.o] at h;exact h
    obtain⟨l1,l2,l3,l4⟩:=xj g;clear g;go_upto_region 8 with fail;refine wp_region_lit ?_;refine wpList_load_mid rfl 49 _ rfl x 0 rfl (qC q0 (.slice k q0.ah.length m) (.slice a2 q0.aq.length n) (.slice a3 q0.af.length p) (.slice a4 q0.aj.length r)).toList _ B.o.range underlying49 rfl (by rw[Tryz.bp];rfl) ?_;go_wp2_with fail;refine(E5 (q:=q0) c.o.rs c.o.rc c.o.rt (by omega) (by omega) (by omega)).mono ?_;rintro e H ⟨rfl,y⟩;rw[E.o];have g5:=ag y none;have i:=p9 (A.o.grown g5 (by simp));have Aa:=p9 (B.o.grown g5 (by simp));have Z:qv (Below W.heap.size W H):=eI (b:=W.heap.size) D.o (ag y _) (rm _);have j:qv (iJ W2.heap.size q0 (.slice k q0.ah.length m) (.slice a2 q0.aq.length n) (.slice a3 q0.af.length p) (.slice a4 q0.aj.length r) H):=⟨bD c.o.rs g5,bD c.o.rc g5,bD c.o.rt g5,bD c.o.rp g5⟩;clear y g5 A B D c X;have t:qv (parseText (dN s)=(aB,4)):=by show _=_;rw[HT.o];unfold iE;simp only[u.o,J,E.o];rfl
    clear J;go_upto_region 9 with fail;refine wp_region_lit ?_;refine fc rfl rfl ?_;refine wpList_store_mid rfl 49 _ _ rfl X0 0 zq rfl rfl i.o.there Tryz.bp yG ?_;have w:Loc (H.setCells X0 0 zq.toList) X0 zq 49:=i.o.fC rfl;have d:=aU X0 zq.toList 0 H;obtain⟨WF,f⟩:∃WF,H.setCells X0 0 zq.toList=WF:=⟨_,rfl⟩;rw[f] at w d⊢;clear f;go_wp2_with fail;refine bodyPost_ret (v:=.tuple #[.agg zq,.int .i64 4]) (kC results35 rfl rfl w rfl) rfl ⟨?_,.slice none 0 0,.slice none 0 0,.slice none 0 0,.slice none 0 0,?_,?_⟩
    ·exact eI (b:=X0) Z.o d N
    ·rw[t.o];rfl
    ·rw[t.o];exact iJ.none _ _
   | true=>
    have E:=p9 R;clear R;have J:(s0.bad || !s0.rest.isEmpty)=false:=by have:=M.o;revert this;cases s0.bad<;>cases s0.rest.isEmpty<;>simp
    have g:pW q0:=by
     have h:=Pure.pP (st:=⟨S,false⟩) (by rw[u.o];revert J;cases s0.bad<;>simp);rw[u.o] at h;exact h
    obtain⟨l1,l2,l3,l4⟩:=xj g;clear g;go_upto_region 8 with fail;refine wp_region_lit ?_;refine wpList_load_mid rfl 49 _ rfl x 0 rfl (qC q0 (.slice k q0.ah.length m) (.slice a2 q0.aq.length n) (.slice a3 q0.af.length p) (.slice a4 q0.aj.length r)).toList _ B.o.range underlying49 rfl (by rw[Tryz.bp];rfl) ?_;go_wp2_with fail;refine(E5 (q:=q0) c.o.rs c.o.rc c.o.rt (by omega) (by omega) (by omega)).mono ?_;rintro e H ⟨rfl,y⟩;rw[E.o];have g5:=ag y none;have i:=p9 (A.o.grown g5 (by simp));have Aa:=p9 (B.o.grown g5 (by simp));have Z:qv (Below W.heap.size W H):=eI (b:=W.heap.size) D.o (ag y _) (rm _);have j:qv (iJ W2.heap.size q0 (.slice k q0.ah.length m) (.slice a2 q0.aq.length n) (.slice a3 q0.af.length p) (.slice a4 q0.aj.length r) H):=⟨bD c.o.rs g5,bD c.o.rc g5,bD c.o.rt g5,bD c.o.rp g5⟩;clear y g5 A B D c X;have A7:qv (parseText (dN s)=(q0,0)):=by show _=_;rw[HT.o];unfold iE;simp only[u.o,J,E.o];rfl
    clear J;go_upto_region 10 with fail;refine wp_region_lit ?_;refine wpList_load_mid rfl 49 _ rfl x 0 rfl (qC q0 (.slice k q0.ah.length m) (.slice a2 q0.aq.length n) (.slice a3 q0.af.length p) (.slice a4 q0.aj.length r)).toList _ Aa.o.range underlying49 rfl (by rw[Tryz.bp];rfl) ?_;refine wpList_store_mid rfl 49 _ _ rfl X0 0 (qC q0 (.slice k q0.ah.length m) (.slice a2 q0.aq.length n) (.slice a3 q0.af.length p) (.slice a4 q0.aj.length r)) rfl rfl i.o.there Tryz.bp (mW q0) ?_;have w:Loc (H.setCells X0 0 (qC q0 (.slice k q0.ah.length m) (.slice a2 q0.aq.length n) (.slice a3 q0.af.length p) (.slice a4 q0.aj.length r)).toList) X0 (qC q0 (.slice k q0.ah.length m) (.slice a2 q0.aq.length n) (.slice a3 q0.af.length p) (.slice a4 q0.aj.length r)) 49:=i.o.fC rfl;have d:=aU X0 (qC q0 (.slice k q0.ah.length m) (.slice a2 q0.aq.length n) (.slice a3 q0.af.length p) (.slice a4 q0.aj.length r)).toList 0 H;obtain⟨WF,f⟩:∃WF,H.setCells X0 0 (qC q0 (.slice k q0.ah.length m) (.slice a2 q0.aq.length n) (.slice a3 q0.af.length p) (.slice a4 q0.aj.length r)).toList=WF:=⟨_,rfl⟩;rw[f] at w d⊢;clear f;go_wp2_with fail;refine bodyPost_ret (v:=.tuple #[.agg (qC q0 (.slice k q0.ah.length m) (.slice a2 q0.aq.length n) (.slice a3 q0.af.length p) (.slice a4 q0.aj.length r)),.int .i64 0]) (kC results35 rfl rfl w rfl) rfl ⟨?_,(.slice k q0.ah.length m),(.slice a2 q0.aq.length n),(.slice a3 q0.af.length p),(.slice a4 q0.aj.length r),?_,?_⟩
    ·exact eI (b:=X0) Z.o d N
    ·rw[A7.o]
    ·rw[A7.o];have hw:W.heap.size<=W2.heap.size:=by omega
     exact⟨cP (j.o.rs.kept d (a6 (aR j.o.rs i.o (by decide)))) hw,cP (j.o.rc.kept d (a6 (aR j.o.rc i.o (by decide)))) hw,cP (j.o.rt.kept d (a6 (aR j.o.rt i.o (by decide)))) hw,cP (j.o.rp.kept d (a6 (aR j.o.rp i.o (by decide)))) hw⟩
theorem JM{t:gP}(h:mf t):nY t.val:=by
 rcases h with ⟨_,_,h⟩|⟨_,_,h⟩
 ·exact⟨by have:=h.1;omega,by have:=h.2;omega⟩
 ·rw[h];exact⟨by omega,by omega⟩
theorem qO(s:ByteArray):((parseText (dN s)).2=0/\pW (parseText (dN s)).1/\fF (parseText (dN s)).1=true)\/(parseText (dN s)).2=3\/(parseText (dN s)).2=4:=by
 cases a:dN s with
 | none=>right;left;rfl
 | some ts=>
  have h:=uG a;rw[a] at h;rw[h];by_cases he:(iE ts).2=0
  ·left
   refine⟨he,(Pure.GC he).2,?_⟩
   revert he
   unfold iE;simp only;split
   ·simp
   ·split
    ·intro _;assumption
    ·simp
  ·right
   revert he
   unfold iE;simp only;split
   ·simp
   ·split<;>simp
open Go.Maps Go.Sort
theorem l9:e0.size<=maxLen:=by unfold maxLen;decide
theorem eY(h:bB s=true):s.size<=maxLen:=by have h1:=(Pure.Pw h).2;unfold maxLen;omega
theorem qX(h:bI s=true):s.size<=maxLen:=by have h1:=(Pure.MP h).2;unfold maxLen;omega
theorem sR{t:gP}(h:mf t):t.name.size<=maxLen/\t.key.size<=maxLen:=by
 rcases h with ⟨a,b,_⟩|⟨a,b,_⟩
 ·rw[a,b];exact⟨l9,l9⟩
 ·exact⟨eY a,eY b⟩
theorem wV{q:aI}(h:kf q):yT q:=by
 refine⟨h.wo,fun s f=>?_,fun s f=>?_,by have:=h.wi;omega,fun c hc=>?_⟩
 ·have d:=h.ah s f;have j:s.ai.size<=maxLen:=by
   rcases d.Si with e|e
   ·rw[e];exact l9
   ·exact qX e
  rcases d.TF with ⟨_,a,b⟩|⟨_,a,b,c⟩
  ·exact⟨eY d.Rl,j,by omega,by omega,by omega,by omega⟩
  ·exact⟨eY d.Rl,j,by omega,by omega,by omega,by omega⟩
 ·obtain⟨x,r,e,k⟩:=h.first;rw[e] at f;injection f with f
  rw[<-f,k];exact Pure.j8
 ·have d:=h.aq c hc;have h1:=sR d.TP;have i:c.b.name.size<=maxLen/\c.b.key.size<=maxLen:=by
   rcases d.TR with ⟨_,g⟩|⟨_,g⟩
   ·exact sR g
   ·rw[g];exact⟨l9,l9⟩
  exact⟨h1.1,h1.2,i.1,i.2⟩
theorem Cc{q:aI}(h:qN q):Ql q/\yT q/\q.kind=1:=by
 obtain⟨hm,hi,c,d,g,j,_,s0,s1,i,e⟩:=h;refine⟨⟨⟨?_,d⟩,fun x hx=>?_,⟨g,by omega⟩,⟨s0,s1⟩,by omega⟩,wV hm,by rw[e]⟩
 ·cases f:q.af with
  | nil=>exact absurd f c
  | cons a r=>simp
 ·rcases hi x hx with ⟨a,b⟩|⟨a,b⟩
  ·rw[a,b];exact⟨l9,l9⟩
  ·refine⟨eY a,?_⟩;rcases b with b|b
   ·rw[b];exact l9
   ·exact eY b
theorem xM{q:aI}(h:IW q):yT q/\q.kind=2/\q.name.size<=maxLen/\q.key.size<=maxLen/\q.value.key.size<=maxLen/\(Lit.int .i64 q.value.val).wf=true:=by
 obtain⟨hm,b,hk,a,e⟩:=h;exact⟨wV hm,by rw[e],eY b,eY hk,(sR a).2,WalkArith.wf_i64 (JM a)⟩
theorem uh{q:aI}(h:Eu q):yT q/\q.kind=3/\q.name.size<=maxLen:=by
 obtain⟨hm,a,e⟩:=h;exact⟨wV hm,by rw[e],eY a⟩
theorem tP{q:aI}(h:EX q):yT q/\q.kind=4/\q.name.size<=maxLen/\q.dest.size<=maxLen/\q.type.size<=maxLen:=by
 obtain⟨hm,a,b,hk,e⟩:=h;exact⟨wV hm,by rw[e],eY a,eY hk,qX b⟩
theorem pL{q:aI}(h:kG q):q.kind=5/\q.ai.size<=maxLen/\q.aj.length<=6/\∀p∈q.aj,p.key.size<=maxLen/\(Lit.int .i64 p.val).wf=true:=by
 obtain⟨f,hp,d,_,e⟩:=h;refine⟨by rw[e],qX f,d,fun p hpp=>?_⟩;obtain⟨a,b,c⟩:=hp p hpp;exact⟨eY a,WalkArith.wf_i64 ⟨by omega,by omega⟩⟩
theorem BW{q:aI}(h:EZ q):q.kind=6/\q.name.size<=maxLen:=by
 obtain⟨a,e⟩:=h;exact⟨by rw[e],eY a⟩
end
section
open Go.RowKit
theorem iu{P:Program}{x:Operand}{i:Nat}{c:Array Value}{v:Value}(b:op.guard=none)(d:op.op=.extract x i)(g:a.eval x=.tuple c)(f:c[i]?=some v)(h:wpList P ops Q rest (a.put op.dst v) w):wpList P ops Q (op::rest) a w:=
 wpList_plain b fun _ hK=>by
  unfold Oper.wp execOp;simp only[d,g,Instr.extract,f];exact hK _ _ h
theorem tu{cs:Array Value}{T:TypeId}(z:Array Value):Below w.heap.size w ((w.alloc (.cells z T)).setCells w.heap.size 0 cs.toList):=
 eI (b:=w.heap.size) (FD (r5 _ _) (rm _) _) (aU w.heap.size cs.toList 0 _) (rm _)
end
end Go.Proofs.YtbfmmmjkjhjleaaGreatDoor
