/- Mine. -/
import Derived.Test.YtbfmmmjkjhjleaaGreatDoorC07
set_option maxRecDepth 100000
set_option maxHeartbeats 0
namespace Go.Proofs.YtbfmmmjkjhjleaaGreatDoor
open Go.Proofs.Tryz
variable {w W:World} {k n B b:Nat} {st s2:RS} {v lv:Value} {T:TypeId} {α:Type} {xs:List Value} {ts:List Tok} {s:ByteArray}
section
open Go.RowKit
theorem Cu{a b c d e:Value}(f:w.heap.size=B):∀(j:Nat) (u:Value),[a,b,c,d,e][j]?=some u->(w.alloc (.cells #[a,b,c,d,e] T)).cell? ((⟨B,0,none⟩:Addr).add j)=some u:=by
 subst f;exact FC
theorem path(h:RI b lv ts st W):
  Calls prog 55 #[.pointer (some ⟨b,0,none⟩)] W fun e W'=>∃v,e=.returned v/\W'.ownsRow W.heap.size 191 5 v (ie st).1.length (bL (ie st).1)/\RI b lv ts (ie st).2 W'/\W.grownBy W' (some b):=by
 obtain⟨i0,hi,A3,A4,A5⟩:=info_parts Tryz.zj;have HI:=p9 h;have Ah:=h.box.lt;have hlen:=h.len;have Ak:st.rest.length<=ts.length:=by obtain⟨_,_,_,_,_,_,_,e,_⟩:=h.seen;exact e
 obtain⟨f,s1,I⟩:∃p s,iz cV st=(p,s):=⟨_,_,rfl⟩;have Ae:=p9 I;have Ai:s1.rest.length<=st.rest.length:=by have:=rJ cV st;rw[I] at this;exact this
 have Af:qv (ie st=da s1.rest.length [f] s1):=by show _=_;unfold ie;rw[I]
 clear h I;go_enter func55,ntmps55
 go_wp2_with fail;refine(Gh HI.o cV f Ae.o).mono ?_;rintro e W1 ⟨rfl,h1,g1⟩;have Ag:=g1.size;have H1:qv (iR W b lv ts s1 W1.heap.size #[.string f.name,.string f.ai,.string f.type,.int .i64 f.least,.int .i64 f.bq] (.slice none 0 0) [] (W1.alloc (.cells #[.string f.name,.string f.ai,.string f.type,.int .i64 f.least,.int .i64 f.bq] 191))):=by
  have O:=One.start h1 #[.string f.name,.string f.ai,.string f.type,.int .i64 f.least,.int .i64 f.bq] 191;exact⟨⟨O.ri,O.lx,ay g1 O.grown,by omega,O.xb,O.xl⟩,tj _ _ _ _,by simp[Value.ownBlock]⟩
 clear h1 g1;have Aa:=H1.o.one.grown.size;go_wp2_with (at_builtin;go_must (refine wpList_append_lies _ rfl _ _ 42 rfl W.heap.size 191 i0 (.agg #[.string ⟨#[]⟩,.string ⟨#[]⟩,.string ⟨#[]⟩,.int .i64 0,.int .i64 0]) 5 64 underlying42 hi A3 A4 A5 rfl (by decide) (.slice none 0 0) _ _ rfl (H1.o.row.alloc _) _ 1 1 [.string f.name,.string f.ai,.string f.type,.int .i64 f.least,.int .i64 f.bq] rfl rfl (Cu (by simp)) oV (by omega) (by unfold maxLen;simp only[yd];omega) (by simp only[yd];omega) (by simp;omega) _ rfl ?_;intro g cap w2 j d m _))
 have H2:qv (iR W b lv ts s1 W1.heap.size #[.string f.name,.string f.ai,.string f.type,.int .i64 f.least,.int .i64 f.bq] (.slice (some ⟨g,0,none⟩) 1 cap) [f] w2):=H1.o.E9 (p:=f) j d (by simpa using m);clear j d m H1 Aa
 go_wp2
 obtain⟨X,hX⟩:∃X,X=W1.heap.size:=⟨_,rfl⟩;rw[<-hX] at H2⊢;clear hX Ag;go_loopg [3] s1.rest.length (fun n v wr=>∃(out:List aK) (l:RS) (c:aK),iR W b lv ts l X #[.string c.name,.string c.ai,.string c.type,.int .i64 c.least,.int .i64 c.bq] v out wr/\l.rest.length<=n/\out.length+n<=2001/\ie st=da n out l)
 case atStart=>exact⟨[f],s1,f,H2.o,rm _,by simp;omega,Af.o⟩
 case round=>
  obtain⟨out,l,c,A1,Al,Aj,A9⟩:=hrel;have P:=p9 A1;have F:=p9 A9;have A7:=A1.one.ri.box;have a:=A7.at_ 2 (.bool l.bad) rfl;clear A1 A9 A7 H2;cases hb:l.bad with
  | true=>
   have HN:qv (ie st=(out,l)):=by
    show _=_;rw[F.o];cases gk with
    | zero=>rfl
    | succ n=>simp only[da];rw[hb];rfl
   rw[hb] at a;clear hb;go_wp2_with fail;refine bodyPost_ret (v:=u3) ?_ rfl ⟨_,rfl,by rw[HN.o];exact P.o.row,by rw[HN.o];exact P.o.one.ri,P.o.one.grown⟩;simp[results,results55,go_sem]
  | false=>
   rw[hb] at a;have HB:=p9 hb;clear hb;cases k:aO jI l with
   | false=>
    have y:=p9 k;have HN:qv (ie st=(out,l)):=by
     show _=_;rw[F.o];cases gk with
     | zero=>rfl
     | succ n=>simp only[da];rw[k];simp
    have hh:qv (bz jI l=l):=by show _=_;unfold bz;rw[k];rfl
    clear k;go_wp2_with fail;refine(has P.o.one.ri jI false y.o).mono ?_;rintro e W3 ⟨rfl,h3,g3⟩;rw[hh.o] at h3;have J:=p9 (P.o.call h3 g3);clear h3 g3 hh a;go_wp2_with fail;refine bodyPost_ret (v:=u3) ?_ rfl ⟨_,rfl,by rw[HN.o];exact J.o.row,by rw[HN.o];exact J.o.one.ri,J.o.one.grown⟩;simp[results,results55,go_sem]
   | true=>
    have y:=p9 k;obtain⟨n,hn⟩:∃n,gk=n+1:=by
     cases gk with
     | succ n=>exact⟨n,rfl⟩
     | zero=>
      exfalso;have h0:l.rest=[]:=List.length_eq_zero_iff.1 (by omega);unfold aO at k;rw[h0] at k;simp at k
    subst hn;have A8:(bz jI l).rest.length<=n:=by
     unfold bz;rw[k];simp only[if_true,List.length_tail];omega
    clear k;obtain⟨D,L,Ab⟩:∃D L,fA (bz jI l)=(D,L):=⟨_,_,rfl⟩;have U:=p9 Ab;clear Ab;go_wp2_with fail;refine(has P.o.one.ri jI true y.o).mono ?_;rintro e W3 ⟨rfl,h3,g3⟩;have J:=p9 ((P.o.call h3 g3).more #[.string ⟨#[]⟩,.string ⟨#[]⟩,.string ⟨#[]⟩,.int .i64 1,.int .i64 1]);clear h3 g3 a;go_wp2_with fail;obtain⟨Y,hY⟩:∃Y,Y=W3.heap.size:=⟨_,rfl⟩;rw[<-hY] at J⊢;clear hY;generalize W3.alloc (.cells #[.string ⟨#[]⟩,.string ⟨#[]⟩,.string ⟨#[]⟩,.int .i64 1,.int .i64 1] 191)=W4 at J⊢;refine(Cs J.o.two.ri U.o).mono ?_;rintro e W5 ⟨rfl,h5,g5⟩;have E:=J.o.call h5 g5;have f2:W5.frozen? ⟨Y,2,none⟩=false:=E.two.ly.free 2;have c2:=E.two.ly.at_ 2 (.string ⟨#[]⟩) rfl;have H5:=p9 (E.fS 2 (.string D));clear h5 g5 E;go_wp2_with fail;generalize W5.setCell ⟨Y,2,none⟩ (.string D)=W6 at H5⊢;clear f2 c2;cases w:aO eP L with
    | false=>
     have S:=p9 w;obtain⟨M,A2⟩:∃M,M=L:=⟨_,rfl⟩;have T:qv (pU L=((1,1),M)):=by show _=_;unfold pU;rw[w,A2];rfl
     have hh:bz eP L=M:=by unfold bz;rw[w,A2];rfl
     clear w A2;have HH:=p9 hh;clear hh;refine(has H5.o.two.ri eP false S.o).mono ?_;rintro e W7 ⟨rfl,t,g7⟩;rw[HH.o] at t;have H7:=p9 (H5.o.call t g7);clear t g7;go_wp2_with fail;obtain⟨a,x,u⟩:∃q s,iz ⟨e0,e0,D,1,1⟩ (bG dy M)=(q,s):=⟨_,_,rfl⟩;have Q:=p9 u;have A:qv (lV (bz jI l)=(a,x)):=by show _=_;unfold lV;simp only[U.o,T.o];exact u
     have z:qv (ie st=da n (out++[a]) x):=by
      show _=_;rw[F.o];simp only[da];rw[HB.o,y.o,A.o];rfl
     have V:x.rest.length<=n:=by
      have:=oL (bz jI l);rw[A.o] at this;exact r8 this A8
     clear u;refine(mI H7.o.two.ri dy).mono ?_;rintro e W8 ⟨rfl,h8,g8⟩;have r:=p9 (H7.o.call h8 g8);clear h8 g8;have y0:=r.o.two.ly.at_ 0 (.string ⟨#[]⟩) rfl;have y1:=r.o.two.ly.at_ 1 (.string ⟨#[]⟩) rfl;have y2:=r.o.two.ly.at_ 2 (.string D) rfl;have y3:=r.o.two.ly.at_ 3 (.int .i64 1) rfl;have y4:=r.o.two.ly.at_ 4 (.int .i64 1) rfl;go_wp2_with fail;refine(Gh r.o.two.ri ⟨e0,e0,D,1,1⟩ a Q.o).mono ?_;rintro e W9 ⟨rfl,h9,g9⟩;have i:=p9 ((r.o.call h9 g9).less);clear h9 g9 y0 y1 y2 y3 y4;have x0:=i.o.one.lx.at_ 0 (.string c.name) rfl;have x1:=i.o.one.lx.at_ 1 (.string c.ai) rfl;have x2:=i.o.one.lx.at_ 2 (.string c.type) rfl;have x3:=i.o.one.lx.at_ 3 (.int .i64 c.least) rfl;have x4:=i.o.one.lx.at_ 4 (.int .i64 c.bq) rfl;have f0:=i.o.one.lx.free 0;have f1:=i.o.one.lx.free 1;have f2:=i.o.one.lx.free 2;have f3:=i.o.one.lx.free 3;have f4:=i.o.one.lx.free 4;have C:=i.o.one.grown.size;have R:qv (iR W b lv ts x X #[.string a.name,.string a.ai,.string a.type,.int .i64 a.least,.int .i64 a.bq] u3 out (((((W9.setCell ⟨X,0,none⟩ (.string a.name)).setCell ⟨X,1,none⟩ (.string a.ai)).setCell ⟨X,2,none⟩ (.string a.type)).setCell ⟨X,3,none⟩ (.int .i64 a.least)).setCell ⟨X,4,none⟩ (.int .i64 a.bq))):=(((((i.o.eX 0 (.string a.name)).eX 1 (.string a.ai)).eX 2 (.string a.type)).eX 3 (.int .i64 a.least)).eX 4 (.int .i64 a.bq));go_wp2_with (at_builtin;go_must (refine wpList_append_lies _ rfl _ _ 42 rfl W.heap.size 191 i0 (.agg #[.string ⟨#[]⟩,.string ⟨#[]⟩,.string ⟨#[]⟩,.int .i64 0,.int .i64 0]) 5 64 underlying42 hi A3 A4 A5 rfl (by decide) u3 _ _ rfl (R.o.row.alloc _) _ 1 1 [.string a.name,.string a.ai,.string a.type,.int .i64 a.least,.int .i64 a.bq] rfl rfl (Cu (by simp[World.setCell])) oV (by omega) (by unfold maxLen;omega) (by omega) (by simp[World.setCell];omega) _ rfl ?_;intro g2 B A6 j d m _))
     have N:qv (iR W b lv ts x X #[.string a.name,.string a.ai,.string a.type,.int .i64 a.least,.int .i64 a.bq] (.slice (some ⟨g2,0,none⟩) (out.length+1) B) (out++[a]) A6):=R.o.E9 (p:=a) j d (by simpa using m);clear j d m R i C x0 x1 x2 x3 x4 f0 f1 f2 f3 f4
     go_wp2
     go_roundg n
     case measure=>omega
     case rel=>exact⟨out++[a],x,a,N.o,V,by simp;omega,z.o⟩
    | true=>
     have S:=p9 w;obtain⟨lo,sa,Z⟩:∃lo sa,fq 0 4 (bz eP L)=(lo,sa):=⟨_,_,rfl⟩;obtain⟨K,M,A0⟩:∃K sb,fq lo 4 (bG lW sa)=(K,sb):=⟨_,_,rfl⟩;have T:qv (pU L=((lo,K),M)):=by show _=_;unfold pU;rw[w];simp only[if_true,Z,A0]
     have Ac:=p9 Z;have Ad:=p9 A0;clear w Z A0;refine(has H5.o.two.ri eP true S.o).mono ?_;rintro e Wa ⟨rfl,t,g7⟩;have Ha:=p9 (H5.o.call t g7);clear t g7;go_wp2_with fail;refine(rG Ha.o.two.ri Ac.o).mono ?_;rintro e Wb ⟨rfl,t,g7⟩;have G:=Ha.o.call t g7;have f3:Wb.frozen? ⟨Y,3,none⟩=false:=G.two.ly.free 3;have c3:=G.two.ly.at_ 3 (.int .i64 1) rfl;have Hb:=p9 (G.fS 3 (.int .i64 lo));clear t g7 G;go_wp2_with fail;generalize Wb.setCell ⟨Y,3,none⟩ (.int .i64 lo)=Wc at Hb⊢;clear f3 c3;refine(mI Hb.o.two.ri lW).mono ?_;rintro e Wd ⟨rfl,t,g7⟩;have Hd:=p9 (Hb.o.call t g7);clear t g7;have c3:=Hd.o.two.ly.at_ 3 (.int .i64 lo) rfl;go_wp2_with fail;refine(rG Hd.o.two.ri Ad.o).mono ?_;rintro e We ⟨rfl,t,g7⟩;have H:=Hd.o.call t g7;have f4:We.frozen? ⟨Y,4,none⟩=false:=H.two.ly.free 4;have c4:=H.two.ly.at_ 4 (.int .i64 1) rfl;have H7:=p9 (H.fS 4 (.int .i64 K));clear t g7 H c3;go_wp2_with fail;generalize We.setCell ⟨Y,4,none⟩ (.int .i64 K)=W7 at H7⊢;clear f4 c4;obtain⟨a,x,u⟩:∃q s,iz ⟨e0,e0,D,lo,K⟩ (bG dy M)=(q,s):=⟨_,_,rfl⟩;have Q:=p9 u;have A:qv (lV (bz jI l)=(a,x)):=by show _=_;unfold lV;simp only[U.o,T.o];exact u
     have z:qv (ie st=da n (out++[a]) x):=by
      show _=_;rw[F.o];simp only[da];rw[HB.o,y.o,A.o];rfl
     have V:x.rest.length<=n:=by
      have:=oL (bz jI l);rw[A.o] at this;exact r8 this A8
     clear u;refine(mI H7.o.two.ri dy).mono ?_;rintro e W8 ⟨rfl,h8,g8⟩;have r:=p9 (H7.o.call h8 g8);clear h8 g8;have y0:=r.o.two.ly.at_ 0 (.string ⟨#[]⟩) rfl;have y1:=r.o.two.ly.at_ 1 (.string ⟨#[]⟩) rfl;have y2:=r.o.two.ly.at_ 2 (.string D) rfl;have y3:=r.o.two.ly.at_ 3 (.int .i64 lo) rfl;have y4:=r.o.two.ly.at_ 4 (.int .i64 K) rfl;go_wp2_with fail;refine(Gh r.o.two.ri ⟨e0,e0,D,lo,K⟩ a Q.o).mono ?_;rintro e W9 ⟨rfl,h9,g9⟩;have i:=p9 ((r.o.call h9 g9).less);clear h9 g9 y0 y1 y2 y3 y4;have x0:=i.o.one.lx.at_ 0 (.string c.name) rfl;have x1:=i.o.one.lx.at_ 1 (.string c.ai) rfl;have x2:=i.o.one.lx.at_ 2 (.string c.type) rfl;have x3:=i.o.one.lx.at_ 3 (.int .i64 c.least) rfl;have x4:=i.o.one.lx.at_ 4 (.int .i64 c.bq) rfl;have f0:=i.o.one.lx.free 0;have f1:=i.o.one.lx.free 1;have f2:=i.o.one.lx.free 2;have f3:=i.o.one.lx.free 3;have f4:=i.o.one.lx.free 4;have C:=i.o.one.grown.size;have R:qv (iR W b lv ts x X #[.string a.name,.string a.ai,.string a.type,.int .i64 a.least,.int .i64 a.bq] u3 out (((((W9.setCell ⟨X,0,none⟩ (.string a.name)).setCell ⟨X,1,none⟩ (.string a.ai)).setCell ⟨X,2,none⟩ (.string a.type)).setCell ⟨X,3,none⟩ (.int .i64 a.least)).setCell ⟨X,4,none⟩ (.int .i64 a.bq))):=(((((i.o.eX 0 (.string a.name)).eX 1 (.string a.ai)).eX 2 (.string a.type)).eX 3 (.int .i64 a.least)).eX 4 (.int .i64 a.bq));go_wp2_with (at_builtin;go_must (refine wpList_append_lies _ rfl _ _ 42 rfl W.heap.size 191 i0 (.agg #[.string ⟨#[]⟩,.string ⟨#[]⟩,.string ⟨#[]⟩,.int .i64 0,.int .i64 0]) 5 64 underlying42 hi A3 A4 A5 rfl (by decide) u3 _ _ rfl (R.o.row.alloc _) _ 1 1 [.string a.name,.string a.ai,.string a.type,.int .i64 a.least,.int .i64 a.bq] rfl rfl (Cu (by simp[World.setCell])) oV (by omega) (by unfold maxLen;omega) (by omega) (by simp[World.setCell];omega) _ rfl ?_;intro g2 B A6 j d m _))
     have N:qv (iR W b lv ts x X #[.string a.name,.string a.ai,.string a.type,.int .i64 a.least,.int .i64 a.bq] (.slice (some ⟨g2,0,none⟩) (out.length+1) B) (out++[a]) A6):=R.o.E9 (p:=a) j d (by simpa using m);clear j d m R i C x0 x1 x2 x3 x4 f0 f1 f2 f3 f4
     go_wp2
     go_roundg n
     case measure=>omega
     case rel=>exact⟨out++[a],x,a,N.o,V,by simp;omega,z.o⟩
theorem nh(h:aO s st=true):0<st.rest.length:=by
 cases a:st.rest with
 | nil=>unfold aO at h;rw[a] at h;simp at h
 | cons t r=>simp
theorem M0(h:aO s st=true):(bz s st).rest.length+1=st.rest.length:=by
 have:=nh h;unfold bz;rw[h];simp only[if_true,List.length_tail];omega
theorem eG(h:aO s st=false):bz s st=st:=by unfold bz;rw[h];rfl
theorem xI(n:Nat):∀(out:List aK) (st:RS),(da n out st).1.length+(da n out st).2.rest.length<=out.length+st.rest.length/\out.length<=(da n out st).1.length:=by
 induction n with
 | zero=>intro out st;exact⟨rm _,rm _⟩
 | succ n ih=>
  intro out st;simp only[da];split
  ·rename_i a;have hp:aO jI st=true:=by
    cases h:aO jI st with
    | true=>rfl
    | false=>rw[h] at a;simp at a
   obtain⟨h1,b⟩:=ih (out++[(lV (bz jI st)).1]) (lV (bz jI st)).2;have c:=oL (bz jI st);have d:=M0 hp;simp only[r7,vw,yd] at h1 b;exact⟨by omega,by omega⟩
  ·exact⟨rm _,rm _⟩
theorem Df(st:RS):(ie st).1.length+(ie st).2.rest.length<=st.rest.length+1/\0<(ie st).1.length:=by
 unfold ie;obtain⟨h1,a⟩:=xI (iz cV st).2.rest.length [(iz cV st).1] (iz cV st).2;have b:=rJ cV st;simp only[vw,yd] at h1 a;exact⟨by omega,by omega⟩
theorem zQ{out:List aK}(h:st.bad=true):dw n out st=(out,st):=by
 cases n with
 | zero=>rfl
 | succ n=>simp only[dw];rw[h];rfl
theorem xf{out l:List aK}(h:st.bad=false)(hp:ie st=(l,s2))(a:s2.bad=false)(b:aO aN s2=true):dw (n+1) out st=dw n (out++l) (bz aN s2):=by
 simp only[dw];rw[h,hp];simp only[a,b];rfl
theorem qQ{out l:List aK}(h:st.bad=false)(hp:ie st=(l,s2))(a:s2.bad=true\/aO aN s2=false):dw (n+1) out st=(out++l,s2):=by
 simp only[dw];rw[h,hp];rcases a with a|a
 ·simp[a]
 ·simp[a]
theorem LB{l:List aK}(h:w.ownsRow B 191 5 v l.length (bL l))(f:0<l.length):
  ∃g cap,v=.slice (some ⟨g,0,none⟩) l.length cap/\∀j u,(bL l)[j]?=some u->w.cell? ((⟨g,0,none⟩:Addr).add j)=some u:=by
 rcases h.2 with ⟨_,d⟩|⟨g,cap,c,rfl,_⟩
 ·omega
 ·refine⟨g,cap,rfl,fun j u hu=>?_⟩;have b:j<(bL l).length:=(List.getElem?_eq_some_iff.1 hu).1;rw[oB] at b;have a:(⟨g,0,none⟩:Addr).add j=⟨g,j,none⟩:=by unfold Addr.add;split<;>simp_all
  rw[a];exact(h.cellAt _ (by omega)).trans hu
theorem oz(n:Nat):∀(out:List aK) (st:RS),(dw n out st).2.rest.length<=st.rest.length:=by
 induction n with
 | zero=>intro out st;exact rm _
 | succ n ih=>
  intro out st;simp only[dw];have h1:=Ao st;split
  ·exact rm _
  ·split
   ·have a:=ih (out++(ie st).1) (bz aN (ie st).2);have b:=gz aN (ie st).2;omega
   ·exact h1
theorem KD(st:RS):(mF st).2.rest.length<=st.rest.length:=by
 have h1:=AF st;have c:∀(l:List ByteArray) (i:Int) (s:RS),(ef l i s).2.rest.length<=s.rest.length:=by
  intro l
  induction l with
  | nil=>intro i s;exact rm _
  | cons m r ih=>
   intro i s;simp only[ef];split
   ·exact gz m s
   ·exact ih _ s
 unfold mF;simp only;split
 ·have b:=iC jM (bz ku (bz oZ (gD st).2));have a:=gz ku (bz oZ (gD st).2);have d:=gz oZ (gD st).2;simp only;omega
 ·have b:=c jD 1 (gD st).2;have a:=AF ((ef jD 1 (gD st).2).2.bA (decide ((ef jD 1 (gD st).2).1=0)));rw[pq] at a;simp only;omega
theorem z8{cd:List bW}{c:bW}(hp:mF st=(c,s2))(a:s2.bad=false)(b:aO oF s2=true):jt (n+1) cd st=jt n (cd++[c]) (bz oF s2):=by
 simp only[jt];rw[hp];simp only[a,b];rfl
theorem sw{cd:List bW}{c:bW}(hp:mF st=(c,s2))(a:s2.bad=true\/aO oF s2=false):jt (n+1) cd st=(cd++[c],s2):=by
 simp only[jt];rw[hp];rcases a with a|a
 ·simp[a]
 ·simp[a]
theorem R6{st1:RS}{c:bW}(h:RI b lv ts st W)(d:mF st=(c,st1)):
  Calls prog 56 #[.pointer (some ⟨b,0,none⟩)] W fun e W'=>e=.returned (.agg #[.int .i64 c.op,.string c.a.name,.string c.a.key,.int .i64 c.a.val,.string c.b.name,.string c.b.key,.int .i64 c.b.val])/\RI b lv ts st1 W'/\W.grownBy W' (some b):=by
 have:=cond h;rw[d] at this;exact this
theorem Tryz.Dd:(prog.info? 125).map (fun i=>(i.zero,i.size,i.bytes))=some (some (.agg #[.int .i64 0,.string ⟨#[]⟩,.string ⟨#[]⟩,.int .i64 0,.string ⟨#[]⟩,.string ⟨#[]⟩,.int .i64 0]),7,88):=by kernel_rfl
theorem Bb{a b c d:ByteArray}{i j k:Int}:∀u∈[Value.int .i64 i,.string a,.string b,.int .i64 j,.string c,.string d,.int .i64 k],u.oneCell'=true:=by
 intro u hu;simp at hu;rcases hu with rfl|rfl|rfl|rfl|rfl|rfl|rfl<;>rfl
abbrev zq:Array Value:=#[.int .i64 0,.slice none 0 0,.slice none 0 0,.slice none 0 0,.int .i64 0,.bool false,.int .i64 0,.int .i64 0,.string ⟨#[]⟩,.string ⟨#[]⟩,.string ⟨#[]⟩,.string ⟨#[]⟩,.int .i64 0,.string ⟨#[]⟩,.string ⟨#[]⟩,.string ⟨#[]⟩,.slice none 0 0]
def qC(q:aI)(vs vc vi vp:Value):Array Value:=#[.int .i64 q.kind,vs,vc,vi,.int .i64 q.order,.bool q.down,.int .i64 q.skip,.int .i64 q.aX,.string q.name,.string q.key,.string q.value.name,.string q.value.key,.int .i64 q.value.val,.string q.type,.string q.dest,.string q.ai,vp]
theorem RL{x:Nat}{W0:World}(h:fN W0 b lv ts st x (qC aB (.slice none 0 0) (.slice none 0 0) (.slice none 0 0) (.slice none 0 0)) ⟨(.slice none 0 0),[],(.slice none 0 0),[],(.slice none 0 0),[],(.slice none 0 0),[]⟩ W):
  Calls prog 22 #[.pointer (some ⟨b,0,none⟩),.pointer (some ⟨x,0,none⟩)] W fun e W'=>e=.returned (.tuple #[])/\∃vs vc,fN W0 b lv ts (fE st).2 x (qC aB vs vc (.slice none 0 0) (.slice none 0 0)) ⟨vs,(fE st).1.1,vc,(fE st).1.2,.slice none 0 0,[],.slice none 0 0,[]⟩ W':=by
 obtain⟨i0,hi,Ah,Ai,Aj⟩:=info_parts Tryz.zj;obtain⟨i1,hj,Ae,Af,Ag⟩:=info_parts Tryz.Dd;have HI:=p9 h;have hlen:=h.ri.len;have Aq:st.rest.length<=ts.length:=by obtain⟨_,_,_,_,_,_,_,e,_⟩:=h.ri.seen;exact e
 have Ac:=iC dK st;clear h;go_enter func22,ntmps22
 go_wp2_with fail;refine(mI HI.o.ri dK).mono ?_;rintro e W1 ⟨rfl,h1,g1⟩;have H1:=p9 (HI.o.call h1 g1);clear h1 g1 HI;go_upto_block 0 with fail;go_cut [4,5] (fun _ _ w=>∃vs out d,fN W0 b lv ts d x (qC aB vs (.slice none 0 0) (.slice none 0 0) (.slice none 0 0)) ⟨vs,out,(.slice none 0 0),[],(.slice none 0 0),[],(.slice none 0 0),[]⟩ w/\dw (st.rest.length+1) [] (bG dK st)=(out,d)/\out.length+d.rest.length<=2002)
 case first=>
  go_wp2_with fail;go_loopg [4] (st.rest.length+1) (fun n more w=>∃vs out d m,more=.bool m/\fN W0 b lv ts d x (qC aB vs (.slice none 0 0) (.slice none 0 0) (.slice none 0 0)) ⟨vs,out,(.slice none 0 0),[],(.slice none 0 0),[],(.slice none 0 0),[]⟩ w/\(m=true->dw (st.rest.length+1) [] (bG dK st)=dw n out d/\d.rest.length+1<=n/\out.length+d.rest.length<=2001)/\(m=false->dw (st.rest.length+1) [] (bG dK st)=(out,d)/\out.length+d.rest.length<=2002))
  case atStart=>exact⟨_,[],_,true,rfl,H1.o,fun _=>⟨rfl,by omega,by simp;omega⟩,fun h=>by cases h⟩
  case round=>
   obtain⟨vs,out,d,m,rfl,M,hT,hF⟩:=hrel;have q:=p9 M;have U:=M.ri.box.at_ 2 (.bool d.bad) rfl;clear M H1;cases m with
   | false=>
    obtain⟨r,Z⟩:=hF rfl;have D:=p9 r;clear r hT hF;go_wp2_with fail;go_meet
    case rel=>exact⟨vs,out,d,q.o,D.o,Z⟩
   | true=>
    obtain⟨r,Z,e3⟩:=hT rfl;have D:=p9 r;clear r hT hF;cases j:d.bad with
    | true=>
     have Q:=p9 j;rw[j] at U;clear j;go_wp2_with fail;go_meet
     case rel=>exact⟨vs,out,d,q.o,by rw[D.o];exact zQ Q.o,by omega⟩
    | false=>
     have Q:=p9 j;rw[j] at U;clear j;obtain⟨n,hn⟩:∃n,gk=n+1:=⟨gk - 1,by omega⟩;subst hn;obtain⟨l,s2,hp⟩:∃l s2,ie d=(l,s2):=⟨_,_,rfl⟩;have HP:=p9 hp;have A2:=Df d;rw[hp] at A2;obtain⟨A2,A7⟩:=A2;clear hp;go_wp2_with fail;have A:=path q.o.ri;rw[HP.o] at A;refine A.mono ?_;clear A;rintro e W3 ⟨v,rfl,hv,h3,g3⟩;have N:=q.o.call h3 g3;obtain⟨gp,cp,rfl,K⟩:=LB hv A7;have HN:=p9 K;have c1:=N.lq.at_ 1 vs rfl;have Ad:=N.grown.size;have H3:=p9 N;clear h3 g3 N K hv U;go_upto_region 3 with (at_builtin;go_must (refine wpList_append_lies _ rfl _ _ 42 rfl W0.heap.size 191 i0 (.agg #[.string ⟨#[]⟩,.string ⟨#[]⟩,.string ⟨#[]⟩,.int .i64 0,.int .i64 0]) 5 64 underlying42 hi Ah Ai Aj rfl (by decide) vs _ _ rfl H3.o.rs _ l.length cp (bL l) rfl (oB l) HN.o (zS l) A7 (by unfold maxLen;simp only;omega) (by simp only;omega) Ad _ rfl ?_;intro g2 f w4 s k _ _;have O:=H3.o.ah (l:=l) k (by rw[k7,r7];exact s);have c4:w4.cell? ⟨x,1,none⟩=some vs:=(O.lq.cell 1).trans rfl;have f4:=O.lq.free 1;have F:=p9 (O.set 1 (.slice (some ⟨g2,0,none⟩) (out.length+l.length) f));clear O s k c1))
     generalize w4.setCell ⟨x,1,none⟩ (.slice (some ⟨g2,0,none⟩) (out.length+l.length) f)=W5 at F⊢;clear c4 f4;have q5:=F.o.ri.box.at_ 2 (.bool s2.bad) rfl;have L:qv (fN W0 b lv ts s2 x (qC aB (.slice (some ⟨g2,0,none⟩) (out.length+l.length) f) (.slice none 0 0) (.slice none 0 0) (.slice none 0 0)) ⟨.slice (some ⟨g2,0,none⟩) (out.length+l.length) f,out++l,.slice none 0 0,[],.slice none 0 0,[],.slice none 0 0,[]⟩ W5):=F.o;clear F H3 HN q;have Ab:(out++l).length=out.length+l.length:=r7;cases i:s2.bad with
     | true=>
      have y:=p9 i;rw[i] at q5;clear i;go_wp2_with fail;go_roundg n
      case measure=>omega
      case rel=>exact⟨_,out++l,s2,false,rfl,L.o,fun h=>(by cases h),fun _=>⟨by rw[D.o];exact qQ Q.o HP.o (ad y.o),by omega⟩⟩
     | false=>
      have y:=p9 i;rw[i] at q5;clear i;cases V:aO aN s2 with
      | false=>
       have E:=p9 V;clear V;go_wp2_with fail;refine(has L.o.ri aN false E.o).mono ?_;rintro e W6 ⟨rfl,u,g6⟩;rw[eG E.o] at u;have B:=p9 (L.o.call u g6);clear u g6 q5;go_wp2_with fail;go_roundg n
       case measure=>omega
       case rel=>exact⟨_,out++l,s2,false,rfl,B.o,fun h=>(by cases h),fun _=>⟨by rw[D.o];exact qQ Q.o HP.o (a6 E.o),by omega⟩⟩
      | true=>
       have E:=p9 V;have A0:=lh V;clear V;go_wp2_with fail;refine(has L.o.ri aN true E.o).mono ?_;rintro e W6 ⟨rfl,u,g6⟩;have B:=p9 (L.o.call u g6);clear u g6 q5;go_wp2_with fail;go_roundg n
       case measure=>omega
       case rel=>exact⟨_,out++l,bz aN s2,true,rfl,B.o,fun _=>⟨by rw[D.o];exact xf Q.o HP.o y.o E.o,by omega,by omega⟩,fun h=>(by cases h)⟩
 case rest=>
  obtain⟨vs,out,s1,M,A1,Ap⟩:=hcut;have q:=p9 M;have A3:=p9 A1;have Al:s1.rest.length<=st.rest.length:=by
   have:=oz (st.rest.length+1) [] (bG dK st);rw[A1] at this;exact r8 this Ac
  have U:=M.ri.box.at_ 2 (.bool s1.bad) rfl;clear M A1 H1;go_upto_region 6 with fail;go_cut [6] (fun v w=>∃m s2,v=.bool m/\fN W0 b lv ts s2 x (qC aB vs (.slice none 0 0) (.slice none 0 0) (.slice none 0 0)) ⟨vs,out,(.slice none 0 0),[],(.slice none 0 0),[],(.slice none 0 0),[]⟩ w/\s2.rest.length<=s1.rest.length/\((m=true/\s1.bad=false/\aO eD s1=true/\s2=bz eD s1)\/(m=false/\s2=s1/\(s1.bad=true\/aO eD s1=false))))
  case first=>
   cases j:s1.bad with
   | true=>
    have Q:=p9 j;rw[j] at U;clear j;go_wp2_with fail;go_meet
    case rel=>exact⟨false,s1,rfl,q.o,rm _,a6 ⟨rfl,rfl,ad Q.o⟩⟩
   | false=>
    have Q:=p9 j;rw[j] at U;clear j;cases hw:aO eD s1 with
    | false=>
     have HW:=p9 hw;clear hw;go_wp2_with fail;refine(has q.o.ri eD false HW.o).mono ?_;rintro e W6 ⟨rfl,u,g6⟩;rw[eG HW.o] at u;have B:=p9 (q.o.call u g6);clear u g6 U;go_wp2_with fail;go_meet
     case rel=>exact⟨false,s1,rfl,B.o,rm _,a6 ⟨rfl,rfl,a6 HW.o⟩⟩
    | true=>
     have HW:=p9 hw;clear hw;go_wp2_with fail;refine(has q.o.ri eD true HW.o).mono ?_;rintro e W6 ⟨rfl,u,g6⟩;have B:=p9 (q.o.call u g6);clear u g6 U;go_wp2_with fail;go_meet
     case rel=>exact⟨true,bz eD s1,rfl,B.o,gz _ _,ad ⟨rfl,Q.o,HW.o,rfl⟩⟩
  case rest=>
   clear q U;obtain⟨m,s2,rfl,A8,Ao,I⟩:=hcut;have H2:=p9 A8;clear A8;obtain⟨cl,J⟩:∃cl,(if m then jt (st.rest.length+1) [] s2 else ([],s2))=cl:=⟨_,rfl⟩;have S:qv (fE st=((out,cl.1),cl.2.bA (decide (6<out.length) || decide (6<cl.1.length)))):=by
    show _=_;unfold fE;simp only[A3.o];rcases I with ⟨rfl,r,Z,rfl⟩|⟨rfl,rfl,r|r⟩
    ·rw[<-J];simp[r,Z]
    ·rw[<-J];simp[r]
    ·rw[<-J];simp[r]
   have X:=p9 J;clear J I A3;go_upto_block 2 with fail;go_cut [7,8] (fun _ _ w=>∃vc cd d,fN W0 b lv ts d x (qC aB vs vc (.slice none 0 0) (.slice none 0 0)) ⟨vs,out,vc,cd,(.slice none 0 0),[],(.slice none 0 0),[]⟩ w/\cl=(cd,d)/\cd.length+d.rest.length<=2002)
   case first=>
    go_wp2_with fail;go_loopg [7] (st.rest.length+1) (fun n more w=>∃vc cd d m,more=.bool m/\fN W0 b lv ts d x (qC aB vs vc (.slice none 0 0) (.slice none 0 0)) ⟨vs,out,vc,cd,(.slice none 0 0),[],(.slice none 0 0),[]⟩ w/\(m=true->cl=jt n cd d/\d.rest.length+1<=n/\cd.length+d.rest.length<=2001)/\(m=false->cl=(cd,d)/\cd.length+d.rest.length<=2002))
    case atStart=>exact⟨_,[],s2,m,rfl,H2.o,fun h=>⟨by rw[<-X.o,h];rfl,by omega,by simp;omega⟩,fun h=>⟨by rw[<-X.o,h];rfl,by simp;omega⟩⟩
    case round=>
     obtain⟨vc,cd,d,m',rfl,M,hT,hF⟩:=hrel;have q:=p9 M;clear M H2;cases m' with
     | false=>
      obtain⟨r,Z⟩:=hF rfl;have D:=p9 r;clear r hT hF;go_wp2_with fail;go_meet
      case rel=>exact⟨vc,cd,d,q.o,D.o,Z⟩
     | true=>
      obtain⟨r,Z,e3⟩:=hT rfl;have D:=p9 r;clear r hT hF;obtain⟨n,hn⟩:∃n,gk=n+1:=⟨gk - 1,by omega⟩;subst hn;obtain⟨c,p,V⟩:∃c p,mF d=(c,p):=⟨_,_,rfl⟩;have E:=p9 V;clear V;go_wp2_with fail;refine(R6 q.o.ri E.o).mono ?_;rintro e W3 ⟨rfl,h3,g3⟩;have H3:=p9 (q.o.call h3 g3);clear h3 g3;have F:qv (fN W0 b lv ts p x (qC aB vs vc (.slice none 0 0) (.slice none 0 0)) ⟨vs,out,vc,cd,(.slice none 0 0),[],(.slice none 0 0),[]⟩ (W3.alloc (.cells #[.int .i64 c.op,.string c.a.name,.string c.a.key,.int .i64 c.a.val,.string c.b.name,.string c.b.key,.int .i64 c.b.val] 125))):=H3.o.alloc _;have L4:=p9 (Loc.new W3 #[.int .i64 c.op,.string c.a.name,.string c.a.key,.int .i64 c.a.val,.string c.b.name,.string c.b.key,.int .i64 c.b.val] 125);go_upto_region 11 with fail;obtain⟨Y,hY⟩:∃Y,Y=W3.heap.size:=⟨_,rfl⟩;rw[<-hY] at L4⊢;clear hY H3;generalize W3.alloc (.cells #[.int .i64 c.op,.string c.a.name,.string c.a.key,.int .i64 c.a.val,.string c.b.name,.string c.b.key,.int .i64 c.b.val] 125)=W4 at F L4⊢;have y0:=L4.o.at_ 0 (.int .i64 c.op) rfl;have y1:=L4.o.at_ 1 (.string c.a.name) rfl;have y2:=L4.o.at_ 2 (.string c.a.key) rfl;have y3:=L4.o.at_ 3 (.int .i64 c.a.val) rfl;have y4:=L4.o.at_ 4 (.string c.b.name) rfl;have y5:=L4.o.at_ 5 (.string c.b.key) rfl;have y6:=L4.o.at_ 6 (.int .i64 c.b.val) rfl;have x2:=F.o.lq.at_ 2 vc rfl;have A9:W4.frozen? ⟨x,2,none⟩=false:=F.o.lq.free 2;have Ar:=F.o.grown.size;clear L4;have HD:qv (fN W0 b lv ts p x (qC aB vs vc (.slice none 0 0) (.slice none 0 0)) ⟨vs,out,vc,cd,(.slice none 0 0),[],(.slice none 0 0),[]⟩ (W4.alloc (.cells #[.int .i64 c.op,.string c.a.name,.string c.a.key,.int .i64 c.a.val,.string c.b.name,.string c.b.key,.int .i64 c.b.val] 125)).drew):=(F.o.alloc _).drew 1;have Ak:(W4.alloc (.cells #[.int .i64 c.op,.string c.a.name,.string c.a.key,.int .i64 c.a.val,.string c.b.name,.string c.b.key,.int .i64 c.b.val] 125)).cell? ⟨x,2,none⟩=some vc:=(HD.o.lq.cell 2).trans rfl;have A6:=KD d;rw[E.o] at A6;go_region_law (refine step_append_lies _ rfl (.tmp 65) (.tmp 67) 43 rfl W0.heap.size 125 i1 (.agg #[.int .i64 0,.string ⟨#[]⟩,.string ⟨#[]⟩,.int .i64 0,.string ⟨#[]⟩,.string ⟨#[]⟩,.int .i64 0]) 7 88 underlying43 hj Ae Af Ag rfl (by decide) vc _ _ (by simp[Act.eval]) HD.o.rc ⟨W4.heap.size,0,none⟩ 1 1 [.int .i64 c.op,.string c.a.name,.string c.a.key,.int .i64 c.a.val,.string c.b.name,.string c.b.key,.int .i64 c.b.val] (by simp[Act.eval]) rfl (World.news_of_block (heap_alloc_new W4 _)) Bb (by omega) (by unfold maxLen;simp only;omega) (by simp only;omega) HD.o.grown.size _ rfl ?_;intro g2 f w5 s k _ _;have P:=HD.o.aq (l:=[c]) k (by rw[qL,r7];exact s);have c5:w5.cell? ⟨x,2,none⟩=some vc:=(P.lq.cell 2).trans rfl;have f5:w5.frozen? ⟨x,2,none⟩=false:=P.lq.free 2;have L:=p9 (P.set 2 (.slice (some ⟨g2,0,none⟩) (cd.length+1) f));clear P s k)
      all_goals
       generalize w5.setCell ⟨x,2,none⟩ (.slice (some ⟨g2,0,none⟩) (cd.length+1) f)=W6 at L⊢;have q6:=L.o.ri.box.at_ 2 (.bool p.bad) rfl;have B:qv (fN W0 b lv ts p x (qC aB vs (.slice (some ⟨g2,0,none⟩) (cd.length+1) f) (.slice none 0 0) (.slice none 0 0)) ⟨vs,out,(.slice (some ⟨g2,0,none⟩) (cd.length+1) f),(cd++[c]),(.slice none 0 0),[],(.slice none 0 0),[]⟩ W6):=L.o;clear L HD F q c5 f5 Ak y0 y1 y2 y3 y4 y5 y6 x2 A9;have Ab:(cd++[c]).length=cd.length+1:=by simp
       cases i:p.bad with
       | true=>
        have y:=p9 i;rw[i] at q6;clear i;go_wp2_with fail;go_roundg n
        case measure=>omega
        case rel=>exact⟨_,cd++[c],p,false,rfl,B.o,fun h=>(by cases h),fun _=>⟨by rw[D.o];exact sw E.o (ad y.o),by omega⟩⟩
       | false=>
        have y:=p9 i;rw[i] at q6;clear i;cases ha:aO oF p with
        | false=>
         have C:=p9 ha;clear ha;go_wp2_with fail;refine(has B.o.ri oF false C.o).mono ?_;rintro e W7 ⟨rfl,T,g7⟩;rw[eG C.o] at T;have H7:=p9 (B.o.call T g7);clear T g7 q6;go_wp2_with fail;go_roundg n
         case measure=>omega
         case rel=>exact⟨_,cd++[c],p,false,rfl,H7.o,fun h=>(by cases h),fun _=>⟨by rw[D.o];exact sw E.o (a6 C.o),by omega⟩⟩
        | true=>
         have C:=p9 ha;have A0:=lh ha;clear ha;go_wp2_with fail;refine(has B.o.ri oF true C.o).mono ?_;rintro e W7 ⟨rfl,T,g7⟩;have H7:=p9 (B.o.call T g7);clear T g7 q6;go_wp2_with fail;go_roundg n
         case measure=>omega
         case rel=>exact⟨_,cd++[c],bz oF p,true,rfl,H7.o,fun _=>⟨by rw[D.o];exact z8 E.o y.o C.o,by omega,by omega⟩,fun h=>(by cases h)⟩
   case rest=>
    obtain⟨vc,cd,p,t,A5,An⟩:=hcut;have H9:=p9 t;have R:=p9 A5;clear H2 X;obtain⟨ao,ca,rfl⟩:∃ao ca,vs=.slice ao out.length ca:=by
     rcases t.rs.2 with ⟨e,e0⟩|⟨g,cap,fL,e,_⟩
     ·exact⟨none,0,(show vs=.slice none 0 0 from e).trans (by rw[show out.length=0 from e0])⟩
     ·exact⟨_,_,e⟩
    obtain⟨G,H,rfl⟩:∃ao ca,vc=.slice ao cd.length ca:=by
     rcases t.rc.2 with ⟨e,e0⟩|⟨g,cap,fL,e,_⟩
     ·exact⟨none,0,(show vc=.slice none 0 0 from e).trans (by rw[show cd.length=0 from e0])⟩
     ·exact⟨_,_,e⟩
    have r2:=t.ri.box.at_ 2 (.bool p.bad) rfl;have Am:wc.frozen? ⟨b,2,none⟩=false:=t.ri.box.free 2;have z1:=t.lq.at_ 1 (.slice ao out.length ca) rfl;have z2:=t.lq.at_ 2 (.slice G cd.length H) rfl;clear t A5;cases j:p.bad with
    | true=>
     rw[j] at r2;have z:qv (fE st=((out,cd),⟨p.rest,true⟩)):=by show _=_;rw[S.o,R.o];unfold RS.bA;simp only[j];rfl
     clear j;go_wp2_with fail;go_end0;refine⟨rfl,.slice ao out.length ca,.slice G cd.length H,?_⟩;rw[z.o];exact H9.o.dR true
    | false=>
     rw[j] at r2;by_cases u:6<out.length
     ·have z:qv (fE st=((out,cd),⟨p.rest,true⟩)):=by show _=_;rw[S.o,R.o];unfold RS.bA;simp only[j];simp[u]
      clear j;have A4:(6:Int)<out.length:=by omega
      go_wp2_with fail;go_end0;refine⟨rfl,.slice ao out.length ca,.slice G cd.length H,?_⟩;rw[z.o];exact H9.o.dR true
     ·by_cases T:6<cd.length
      ·have z:qv (fE st=((out,cd),⟨p.rest,true⟩)):=by show _=_;rw[S.o,R.o];unfold RS.bA;simp only[j];simp[T]
       clear j;have A4:¬(6:Int)<out.length:=by omega
       have Aa:(6:Int)<cd.length:=by omega
       go_wp2_with fail;go_end0;refine⟨rfl,.slice ao out.length ca,.slice G cd.length H,?_⟩;rw[z.o];exact H9.o.dR true
      ·have z:qv (fE st=((out,cd),⟨p.rest,false⟩)):=by show _=_;rw[S.o,R.o];unfold RS.bA;simp only[j];simp[u,T]
       clear j;have A4:¬(6:Int)<out.length:=by omega
       have Aa:¬(6:Int)<cd.length:=by omega
       go_wp2_with fail;go_end0;refine⟨rfl,.slice ao out.length ca,.slice G cd.length H,?_⟩;rw[z.o];exact H9.o.dR false
theorem Tryz.bp:(prog.info? 49).map (·.size)=some 17:=by kernel_rfl
theorem mW(q:aI){a a2 a3 a4:Option Addr}{g h i j b c d f:Nat}:(qC q (.slice a g b) (.slice a2 h c) (.slice a3 i d) (.slice a4 j f)).all (·.oneCell')=true:=by
 simp[qC,Value.oneCell']
theorem yG:(zq).all (·.oneCell')=true:=by simp[Value.oneCell']
theorem fc{ops:Array Oper}{rest:List Oper}{op:Oper}{a:Act}{Q:Exit->Act->World->Prop}(b:op.guard=none)(c:op.op=.build 49 #[])(h:wpList prog ops Q rest (a.put op.dst (.agg zq)) w):wpList prog ops Q (op::rest) a w:=
 wpList_plain b fun _ hK=>by
  unfold Oper.wp execOp;simp only[c];go_simp;exact hK _ _ h
theorem kC{fn:Func}{tmps:Array Value}{X c d:Nat}{cs:Array Value}{e:Int}(h:fn.results=#[.cell c 49,.tmp d])(b:tmps[c]?.getD undef=.pointer (some ⟨X,0,none⟩))(f:tmps[d]?.getD undef=.int .i64 e)(a:Loc w X cs 49)(i:cs.size=17):
  (results fn tmps).run prog w=.ok (.tuple #[.agg cs,.int .i64 e]) w:=by
 have g:=run_loadVar_mid (P:=prog) w X 0 49 cs.toList _ a.range underlying49 rfl (by rw[Tryz.bp];simp[i]);unfold results;rw[h];simp[b,f,g,asAddr]
theorem lF{α:Type}(f:α->List Value){k:Nat}(hk:∀a,(f a).length=k):∀(l:List α) (i:Nat) (hi:i<l.length) (j:Nat),j<k->(l.flatMap f)[i*k+j]?=(f l[i])[j]?
 | [],i,hi,_,_=>by simp at hi
 | a::l,0,_,j,hj=>by
  rw[vz,Mc (by rw[hk];omega)];simp
 | a::l,i+1,hi,j,hj=>by
  have ih:=lF f hk l i (by simpa using hi) j hj;rw[vz,F7 (by rw[hk,Nat.succ_mul];omega),hk];rw[show (i+1)*k+j - k=i*k+j by rw[Nat.succ_mul];omega]
  simpa using ih
def TJ{α:Type}(f:α->List Value)(k:Nat)(l:List α)(ao:Option Addr)(w:World):Prop:=
 ∀i,(hi:i<l.length)->∃g,ao=some ⟨g,0,none⟩/\∀j,j<k->w.cell? ⟨g,i*k+j,none⟩=(f l[i])[j]?
theorem Lr{l:List α}(f:α->List Value)(hk:∀a,(f a).length=k)(h:w.ownsRow B T k v l.length (l.flatMap f)):
  ∃ao cap,v=.slice ao l.length cap/\l.length<=cap/\TJ f k l ao w:=by
 rcases h.2 with ⟨b,d⟩|⟨g,cap,m,b,n,o,c,_⟩
 ·exact⟨none,0,by rw[b,d],by omega,fun i hi=>by omega⟩
 ·refine⟨some ⟨g,0,none⟩,cap,b,c,fun i hi=>⟨g,rfl,fun j hj=>?_⟩⟩;rw[b] at h;refine(h.cellAt _ ?_).trans (lF f hk l i hi j hj);have:(i+1)*k<=l.length*k:=Nat.mul_le_mul_right k (by omega);rw[Nat.succ_mul] at this;omega
theorem nC{cap:Nat}{ao:Option Addr}{l:List α}(f:α->List Value)(hk:∀a,(f a).length=k)(h:w.ownsRow B T k (.slice ao n cap) l.length (l.flatMap f)){i:Nat}(hi:i<l.length):
  ∃g,ao=some ⟨g,0,none⟩/\∀j,j<k->w.cell? ⟨g,i*k+j,none⟩=(f l[i])[j]?:=by
 obtain⟨c,b,e,_,m⟩:=Lr f hk h;injection e with d o p
 subst d;exact m i hi
theorem aQ{l:List α}(h:w.ownsRow B T k v l.length xs):∃ao cap,v=.slice ao l.length cap/\l.length<=cap:=by
 rcases h.2 with ⟨b,c⟩|⟨g,cap,d,b,f,i,a,_⟩
 ·exact⟨none,0,by rw[b,c],by omega⟩
 ·exact⟨_,cap,b,a⟩
def nG(c:aK):List Value:=[.string c.name,.string c.ai,.string c.type,.int .i64 c.least,.int .i64 c.bq]
def pX(c:bW):List Value:=[.int .i64 c.op,.string c.a.name,.string c.a.key,.int .i64 c.a.val,.string c.b.name,.string c.b.key,.int .i64 c.b.val]
def kk(c:aZ):List Value:=[.string c.name,.string c.key]
def dG(c:bm):List Value:=[.string c.key,.int .i64 c.val]
theorem xP{sp:List aK}{n:ByteArray}(h:k<sp.length):dQ (sp.take (k+1)) n=(dQ (sp.take k) n || jb sp[k].name n):=by
 have e:sp.take (k+1)=sp.take k++[sp[k]]:=by rw[tt,r6 h];rfl
 unfold dQ;rw[e,List.any_append];simp
theorem zk{sp:List aK}{n:ByteArray}(h:k<sp.length)(he:jb sp[k].name n=true):dQ sp n=true:=by
 unfold dQ;exact List.any_eq_true.2 ⟨sp[k],sT h,he⟩
theorem bD{a:World}(h:W.ownsRow B T k v n xs)(g:W.grownBy a none):a.ownsRow B T k v n xs:=
 h.kept g (by cases b:v.ownBlock<;>simp)
theorem iF{q:aI}{vs vc vi vp:Value}{sp:List aK}{n:ByteArray}(h:W.ownsRow B 191 5 vs sp.length (bL sp))(hlen:sp.length<9223372036854775807):
  Calls prog 59 #[.agg (qC q vs vc vi vp),.string n] W fun e W'=>e=.returned (.bool (dQ sp n))/\Below W.heap.size W W':=by
 obtain⟨ao,ca,rfl,z⟩:=aQ (l:=sp) h;have u:Below W.heap.size W (W.alloc (.cells (qC q (.slice ao sp.length ca) vc vi vp) 49)):=FD (r5 _ _) (rm _) _;have i:=p9 u;have h1:=bD h (aD W (.cells (qC q (.slice ao sp.length ca) vc vi vp) 49) none);have t:Loc (W.alloc (.cells (qC q (.slice ao sp.length ca) vc vi vp) 49)) W.heap.size (qC q (.slice ao sp.length ca) vc vi vp) 49:=Loc.new W _ _;have c1:(W.alloc (.cells (qC q (.slice ao sp.length ca) vc vi vp) 49)).cell? ⟨W.heap.size,1,none⟩=some (.slice ao sp.length ca):=(t.cell 1).trans rfl;have s:=p9 h1;clear h h1 u t;go_enter func59,ntmps59
 go_wp2_with fail;generalize W.alloc (.cells (qC q (.slice ao sp.length ca) vc vi vp) 49)=y at i s c1⊢;go_loopg [5] sp.length (fun m iv w=>∃k:Nat,iv=.int .i64 (k:Int)/\k+m=sp.length/\w=y/\dQ (sp.take k) n=false)
 case atStart=>exact⟨0,rfl,by omega,rfl,rfl⟩
 case round=>
  obtain⟨k,rfl,hk,rfl,f⟩:=hrel;have d:=p9 f;clear f;by_cases c:k<sp.length
  ·obtain⟨g,rfl,b⟩:=nC (l:=sp) nG (fun _=>rfl) s.o c;have A:wr.cell? ⟨g,k*5,none⟩=some (.string sp[k].name):=b 0 (by decide);have r:(k:Int)<(sp.length:Int):=by omega
   obtain⟨key,a⟩:∃key,sp[k].name=key:=⟨_,rfl⟩;have j:qv (dQ (sp.take (k+1)) n=(key.toList==n.toList)):=by show _=_;rw[xP c,a,d.o];rfl
   have x:qv ((key.toList==n.toList)=true->dQ sp n=true):=by intro e;exact zk c (by rw[a];exact e)
   rw[a] at A;clear b a c;cases he:(key.toList==n.toList) with
   | true=>
    go_wp2_with fail;refine bodyPost_ret (v:=.bool true) ?_ rfl ⟨?_,i.o⟩
    ·simp[results,results59,go_sem]
    ·rw[x.o he]
   | false=>
    go_wp2_with fail;go_roundg (gk - 1)
    case measure=>omega
    case rel=>exact⟨k+1,by simp,by omega,rfl,by rw[j.o];exact he⟩
  ·have r:¬(k:Int)<(sp.length:Int):=by omega
   have p:k=sp.length:=by omega
   go_wp2_with fail;refine bodyPost_ret (v:=.bool false) ?_ rfl ⟨?_,i.o⟩
   ·simp[results,results59,go_sem]
   ·have:=d.o;rw[p,yt] at this;rw[this]
def strs(l:List ByteArray):List Value:=l.map .string
theorem iO(a b:List ByteArray):strs (a++b)=strs a++strs b:=by unfold strs;rw[vb]
theorem AD(l:List ByteArray):strs l=l.flatMap fun s=>[.string s]:=by
 induction l with
 | nil=>rfl
 | cons a l ih=>unfold strs at *;rw[xd,ih];rfl
theorem Tryz.gV:(prog.info? 9).map (fun i=>(i.zero,i.size,i.bytes))=some (some (.string ⟨#[]⟩),1,16):=by kernel_rfl
structure qz(W:World)(B X:Nat)(cs:Array Value)(q:aI)(vs vc vi v:Value)(ns:List ByteArray)(w:World):Prop where
 low:Below W.heap.size W w
 lq:Loc w X cs 49
 nx:W.heap.size<=X
 rs:w.ownsRow B 191 5 vs q.ah.length (bL q.ah)
 rc:w.ownsRow B 125 7 vc q.aq.length (eK q.aq)
 rt:w.ownsRow B 129 2 vi q.af.length (eJ q.af)
 rl:w.ownsRow W.heap.size 9 1 v ns.length (strs ns)
variable {W w w2:World} {B X:Nat} {cs:Array Value} {q:aI} {vs vc vi v:Value} {ns:List ByteArray}
theorem qz.quiet(h:qz W B X cs q vs vc vi v ns w)(g:w.grownBy w2 none):qz W B X cs q vs vc vi v ns w2:=
 ⟨⟨g.os.trans h.low.os,g.tape.trans h.low.tape,g.output.trans h.low.output,r8 h.low.size g.size,fun k hk=>(g.block k (vH hk h.low.size) (by simp)).trans (h.low.block k hk)⟩,h.lq.grown g (by simp),h.nx,bD h.rs g,bD h.rc g,bD h.rt g,bD h.rl g⟩
theorem qz.alloc(h:qz W B X cs q vs vc vi v ns w)(o:Obj):qz W B X cs q vs vc vi v ns (w.alloc o):=h.quiet (aD w o none)
theorem qz.drew(h:qz W B X cs q vs vc vi v ns w)(n:Nat):qz W B X cs q vs vc vi v ns (w.drewN n):=h.quiet (fh w n none)
theorem qz.later(h:qz W B X cs q vs vc vi v ns w)(a:Below w.heap.size w w2):qz W B X cs q vs vc vi v ns w2:=h.quiet (ag a none)
theorem qz.more{v2:Value}{l:List ByteArray}(h:qz W B X cs q vs vc vi v ns w)(a:w.grownBy w2 v.ownBlock)(b:w2.ownsRow W.heap.size 9 1 v2 (ns++l).length (strs (ns++l))):qz W B X cs q vs vc vi v2 (ns++l) w2:=
 ⟨⟨a.os.trans h.low.os,a.tape.trans h.low.tape,a.output.trans h.low.output,r8 h.low.size a.size,fun k hk=>(a.block k (vH hk h.low.size) (by
   intro e;have:=(h.rl.lt k e.symm).1;omega)).trans (h.low.block k hk)⟩,
  h.lq.dY h.rl a (by decide),h.nx,h.rs.kept a (bT h.rs h.rl (by decide)),h.rc.kept a (bT h.rc h.rl (by decide)),h.rt.kept a (bT h.rt h.rl (by decide)),b⟩
def dV(l:List bW):List ByteArray:=l.flatMap fun c=>[c.a.name,c.b.name]
def dh(l:List aZ):List ByteArray:=l.map fun x=>x.name
theorem qt{l:List bW}(h:k<l.length):dV (l.take (k+1))=dV (l.take k)++[l[k].a.name,l[k].b.name]:=by
 have e:l.take (k+1)=l.take k++[l[k]]:=by rw[tt,r6 h];rfl
 unfold dV;rw[e,As];simp
theorem qw{l:List aZ}(h:k<l.length):dh (l.take (k+1))=dh (l.take k)++[l[k].name]:=by
 have e:l.take (k+1)=l.take k++[l[k]]:=by rw[tt,r6 h];rfl
 unfold dh;rw[e,vb];simp
theorem lE(l:List bW):(dV l).length=l.length*2:=by
 induction l with
 | nil=>rfl
 | cons c l ih=>unfold dV at *;rw[vz,r7,ih];simp;omega
theorem lH(l:List aZ):(dh l).length=l.length:=by unfold dh;rw[tB]
end
section
open Go.RowKit
def dj(w:World)(k:Nat)(v:Value)(n:Nat)(xs:List Value):Prop:=
 xs.length=n*k/\∃ao cap,v=.slice ao n cap/\n<=cap/\(0<n->∃g o,ao=some ⟨g,o,none⟩/\∀j u,xs[j]?=some u->w.cell? ⟨g,o+j,none⟩=some u)
theorem aJ{w:World}(h:w.ownsRow B T k v n xs)(f:xs.length=n*k):dj w k v n xs:=by
 refine⟨f,?_⟩;rcases h.2 with ⟨a,d⟩|⟨g,cap,i,a,l,m,b,_⟩
 ·exact⟨none,0,by rw[a,d],by omega,fun h=>by omega⟩
 ·refine⟨_,cap,a,b,fun _=>⟨g,0,rfl,fun j u hu=>?_⟩⟩;have c:j<xs.length:=by
   by_cases c:j<xs.length
   ·exact c
   ·rw[x7 (by omega)] at hu;cases hu
  rw[a] at h;rw[tH,<-hu];exact h.cellAt _ (by omega)
theorem dj.below{w a:World}(h:dj w k v n xs)(b:Below w.heap.size w a):dj a k v n xs:=by
 obtain⟨f,ao,cap,rfl,c,i⟩:=h;refine⟨f,ao,cap,rfl,c,fun hn=>?_⟩;obtain⟨g,o,rfl,l⟩:=i hn;refine⟨g,o,rfl,fun j u hu=>?_⟩;have h1:=l j u hu;have d:(⟨g,o+j,none⟩:Addr).block<w.heap.size:=Lib.lt_of_cell h1;rw[b.cell d];exact h1
theorem bC{w:World}{cap:Nat}{ao:Option Addr}{l:List α}(f:α->List Value)(hk:∀a,(f a).length=k)(h:dj w k (.slice ao n cap) l.length (l.flatMap f)){i:Nat}(hi:i<l.length):
  ∃g o,ao=some ⟨g,o,none⟩/\∀j,j<k->w.cell? ⟨g,o+i*k+j,none⟩=(f l[i])[j]?:=by
 obtain⟨v,m,d,e,u,q⟩:=h;injection e with p s t
 subst p;obtain⟨g,o,rfl,r⟩:=q (by omega);refine⟨g,o,rfl,fun j hj=>?_⟩;have c:=lF f hk l i hi j hj;have b:(f l[i])[j]?=some ((f l[i])[j]'(by rw[hk];exact hj)):=r6 _;rw[Nat.add_assoc,r _ _ (by rw[c,b]),b]
theorem bi{w:World}{l:List α}(h:dj w k v l.length xs):∃ao cap,v=.slice ao l.length cap/\l.length<=cap:=by
 obtain⟨_,ao,cap,e,a,_⟩:=h;exact⟨ao,cap,e,a⟩
def nY(n:Int):Prop:=-9223372036854775808<=n/\n<=9223372036854775807
def Fa(w : World) : Prop := Lib.TabIs prog w "internal/strconv.uint64pow10" .u64 Lib.pow10Tab
theorem TI : prog.globalNamed "internal/strconv.uint64pow10" = some 0 := by kernel_rfl
theorem Fa.below{w a:World}(h:Fa w)(b:Below w.heap.size w a):Fa a:=Joins.tab_stays TI h b (rm _)
theorem zt(w:World)(os:Array Obj):Below w.heap.size w (Sort.grow w os):=
 ⟨rfl,rfl,rfl,by simp[Sort.grow],fun k hk=>by simp only[Sort.grow];rw[Array.getElem?_append_left hk]⟩
theorem Ig{n:Int}(a:nY n)(b:Fa W):Calls prog 93 #[.int .i64 n] W fun e W'=>e=.returned (.string (bP n))/\Below W.heap.size W W':=by
 refine(Tryz.strconv_Itoa n a.1 a.2 W b).mono ?_;rintro e W' ⟨rfl,k,os,rfl⟩;exact⟨rfl,(Joins.below_draws _ W k).trans (zt (W.drewN k) os)⟩
section
variable {W0 w w2:World} {b:Nat} {ws:List ByteArray}
end
open Go.RowKit Go.Maps Go.Sort
def Grown(W w:World):Prop:=∃q os,w=grow (W.drewN q) os
theorem Grown.refl(W:World):Grown W W:=⟨0,#[],by simp[World.drewN]⟩
theorem Grown.trans{a b c:World}(h:Grown a b)(k:Grown b c):Grown a c:=by
 obtain⟨q,os,rfl⟩:=h;obtain⟨f,d,rfl⟩:=k;refine⟨q+f,os++d,?_⟩;show grow (grow ((a.drewN q).drewN f) os) d=_;rw[grow_grow,World.drewN_drewN]
theorem Grown.alloc{W w:World}(h:Grown W w)(o:Obj):Grown W (w.alloc o):=h.trans ⟨0,#[o],by rw[alloc_eq_grow];simp[World.drewN]⟩
theorem Grown.below(h:Grown W w):Below W.heap.size W w:=by
 obtain⟨q,os,rfl⟩:=h;exact(Joins.below_draws _ W q).trans (zt (W.drewN q) os)
end
end Go.Proofs.YtbfmmmjkjhjleaaGreatDoor
