/- Mine. -/
import Derived.Test.YtbfmmmjkjhjleaaGreatDoorC03
set_option maxRecDepth 100000
set_option maxHeartbeats 0
namespace Go.Proofs.YtbfmmmjkjhjleaaGreatDoor
open Go.Proofs.Tryz
variable {W w:World} {X Y:Nat} {cx cy:Array Value}
section
open Go.RowKit
abbrev dX:=ByteArray × ByteArray × ByteArray
def IC(r:dX):Array Value:=#[.string r.1,.string r.2.1,.string r.2.2]
def sV(w:ByteArray):Bool:=w.toList==[115,101,101] || w.toList==[119,97,108,107] || w.toList==[109,97,107,101] || w.toList==[100,114,111,112] || w.toList==[108,105,110,107] || w.toList==[99,117,116]
def uS(w:ByteArray):Bool:=w.toList==[114,101,97,100] || w.toList==[115,101,116]
def fg(s:ByteArray):dX × Bool:=
 if sV (cA s 32) then ((cA s 32,cZ s 32,⟨#[]⟩),bI (cZ s 32))
 else if uS (cA s 32) then ((cA s 32,cA (cZ s 32) 46,cZ (cZ s 32) 46),cB (cZ s 32) 46&&bI (cA (cZ s 32) 46)&&bB (cZ (cZ s 32) 46))
 else if (cA s 32).toList==[99,97,108,108] then ((cA s 32,⟨#[]⟩,cZ s 32),bB (cZ s 32))
 else if (cA s 32).toList==[100,101,116,97,99,104] then ((cA s 32,⟨#[]⟩,⟨#[]⟩),!cB s 32)
 else ((cA s 32,⟨#[]⟩,⟨#[]⟩),false)
theorem Oo(s:ByteArray)(c:UInt8):(cZ s c).size<=s.size:=by
 unfold cZ Lib.cut;split
 ·show (List.drop _ s.data.toList).toArray.size<=s.data.size;rw[List.size_toArray,x9,A4];omega
 ·exact tJ _
theorem below_drewN{n:Nat}(h:Below n W w)(d:Nat):Below n W (w.drewN d):=⟨h.os,h.tape,h.output,h.size,fun k hk=>h.block k hk⟩
structure RR(W:World)(X Y:Nat)(cx cy:Array Value)(w:World):Prop where
 lx:Loc w X cx 83
 ly:Loc w Y cy 83
 xy:X≠Y
 nx:W.heap.size<=X
 ny:W.heap.size<=Y
 low:Below W.heap.size W w
theorem RR.eX(h:RR W X Y cx cy w)(j:Nat)(u:Value):RR W X Y (cx.setIfInBounds j u) cy (w.setCell ⟨X,j,none⟩ u):=
 ⟨h.lx.set j u,h.ly.aY (Ne.symm h.xy) j u,h.xy,h.nx,h.ny,h.low.setCell (p:=⟨X,j,none⟩) h.nx u⟩
theorem RR.fS(h:RR W X Y cx cy w)(j:Nat)(u:Value):RR W X Y cx (cy.setIfInBounds j u) (w.setCell ⟨Y,j,none⟩ u):=
 ⟨h.lx.aY h.xy j u,h.ly.set j u,h.xy,h.nx,h.ny,h.low.setCell (p:=⟨Y,j,none⟩) h.ny u⟩
theorem RR.below{b:World}(h:RR W X Y cx cy w)(a:Below w.heap.size w b):RR W X Y cx cy b:=
 ⟨h.lx.grown (ag a none) (by simp),h.ly.grown (ag a none) (by simp),h.xy,h.nx,h.ny,h.low.trans (a.mono h.low.size)⟩
theorem RR.fin(h:RR W X Y cx cy w)(d:cx.size=3)(a b c:ByteArray):Loc (((w.setCell ⟨X,0,none⟩ (.string a)).setCell ⟨X,1,none⟩ (.string b)).setCell ⟨X,2,none⟩ (.string c)) X (IC (a,b,c)) 83/\Below W.heap.size W (((w.setCell ⟨X,0,none⟩ (.string a)).setCell ⟨X,1,none⟩ (.string b)).setCell ⟨X,2,none⟩ (.string c)):=by
 have h1:=((h.eX 0 (.string a)).eX 1 (.string b)).eX 2 (.string c);refine⟨?_,h1.low⟩;have e:((cx.setIfInBounds 0 (.string a)).setIfInBounds 1 (.string b)).setIfInBounds 2 (.string c)=IC (a,b,c):=by
  match cx,d with
  | ⟨[x,y,z]⟩,_=>rfl
 rw[<-e];exact h1.lx
theorem NE{w:ByteArray}(h:sV w=true):(w.toList==[115,101,101])=true\/((w.toList==[115,101,101])=false/\(w.toList==[119,97,108,107])=true)\/((w.toList==[115,101,101])=false/\(w.toList==[119,97,108,107])=false/\(w.toList==[109,97,107,101])=true)\/((w.toList==[115,101,101])=false/\(w.toList==[119,97,108,107])=false/\(w.toList==[109,97,107,101])=false/\(w.toList==[100,114,111,112])=true)\/((w.toList==[115,101,101])=false/\(w.toList==[119,97,108,107])=false/\(w.toList==[109,97,107,101])=false/\(w.toList==[100,114,111,112])=false/\(w.toList==[108,105,110,107])=true)\/((w.toList==[115,101,101])=false/\(w.toList==[119,97,108,107])=false/\(w.toList==[109,97,107,101])=false/\(w.toList==[100,114,111,112])=false/\(w.toList==[108,105,110,107])=false/\(w.toList==[99,117,116])=true):=by
 unfold sV at h
 revert h
 generalize (w.toList==[115,101,101])=a;generalize (w.toList==[119,97,108,107])=b;generalize (w.toList==[109,97,107,101])=c;generalize (w.toList==[100,114,111,112])=d;generalize (w.toList==[108,105,110,107])=e;generalize (w.toList==[99,117,116])=f
 revert a b c d e f
 decide
theorem SP{w:ByteArray}(h:sV w=false):(w.toList==[115,101,101])=false/\(w.toList==[119,97,108,107])=false/\(w.toList==[109,97,107,101])=false/\(w.toList==[100,114,111,112])=false/\(w.toList==[108,105,110,107])=false/\(w.toList==[99,117,116])=false:=by
 unfold sV at h
 revert h
 generalize (w.toList==[115,101,101])=a;generalize (w.toList==[119,97,108,107])=b;generalize (w.toList==[109,97,107,101])=c;generalize (w.toList==[100,114,111,112])=d;generalize (w.toList==[108,105,110,107])=e;generalize (w.toList==[99,117,116])=f
 revert a b c d e f
 decide
theorem Hs(s:ByteArray)(W:World)(hs:s.size<=2000):
  Calls prog 17 #[.string s] W fun e W'=>e=.returned (.tuple #[.agg (IC (fg s).1),.bool (fg s).2])/\Below W.heap.size W W':=by
 have O:=p9 (Loc.new W #[.string ⟨#[]⟩,.string ⟨#[]⟩,.string ⟨#[]⟩] 83);have N:=p9 ((r5 W.heap.size W).alloc (rm _) (.cells #[.string ⟨#[]⟩,.string ⟨#[]⟩,.string ⟨#[]⟩] 83));have HS:=p9 hs;have h:=p9 (show fg s=_ by unfold fg;exact rfl);go_enter func17,ntmps17
 go_wp2_with fail;obtain⟨X,S⟩:∃X,X=W.heap.size:=⟨_,rfl⟩;have U:=p9 (Nat.le_of_eq S.symm);rw[<-S] at O⊢;clear S;generalize W.alloc (.cells #[.string ⟨#[]⟩,.string ⟨#[]⟩,.string ⟨#[]⟩] 83)=W1 at O N⊢;refine(MF s 32 W1 (by unfold maxLen;omega)).mono ?_;rintro e Q ⟨rfl,hw⟩;have F:=p9 (O.o.grown (ag hw none) (by simp));have A:=p9 (N.o.trans (hw.mono N.o.size));clear hw O N;have V:=p9 (r8 (Oo s 32) HS.o);generalize cA s 32=a at h⊢;generalize cZ s 32=z at h V⊢;generalize cB s 32=b at h⊢;go_upto_region 4 with fail;have I:=p9 (F.o.alloc (.cells #[.string a,.string ⟨#[]⟩,.string ⟨#[]⟩] 83));have J:=p9 (Loc.new Q #[.string a,.string ⟨#[]⟩,.string ⟨#[]⟩] 83);have G:=p9 (A.o.alloc A.o.size (.cells #[.string a,.string ⟨#[]⟩,.string ⟨#[]⟩] 83));have H:=p9 (RR.mk I.o J.o (Nat.ne_of_lt F.o.lt) U.o A.o.size G.o);clear F A I J G U;obtain⟨Y,hY⟩:∃Y,Y=Q.heap.size:=⟨_,rfl⟩;rw[<-hY] at H⊢;clear hY;generalize Q.alloc (.cells #[.string a,.string ⟨#[]⟩,.string ⟨#[]⟩] 83)=K at H⊢;have T:=H.o.ly.at_ 0 (.string a) rfl;have L:=H.o.ly.at_ 1 (.string ⟨#[]⟩) rfl;have M:=H.o.ly.at_ 2 (.string ⟨#[]⟩) rfl;have t:=H.o.ly.free 1;have w:=H.o.ly.free 2;by_cases D:sV a=true
 ·rw[a8 D] at h;rcases NE D with t1|⟨t1,t2⟩|⟨t1,t2,t3⟩|⟨t1,t2,t3,t4⟩|⟨t1,t2,t3,t4,t5⟩|⟨t1,t2,t3,t4,t5,t6⟩
  all_goals
   clear D;go_upto_region 11 with fail;have n:=p9 (H.o.fS 1 (.string z));clear H T L M t w;generalize K.setCell ⟨Y,1,none⟩ (.string z)=R at n⊢;have B:=p9 (n.o.below (below_drewN (r5 _ _) 1));have d0:R.drew.cell? ⟨Y,0,none⟩=some (.string a):=(B.o.ly.cell 0).trans rfl;have d1:R.drew.cell? ⟨Y,1,none⟩=some (.string z):=(B.o.ly.cell 1).trans rfl;have d2:R.drew.cell? ⟨Y,2,none⟩=some (.string ⟨#[]⟩):=(B.o.ly.cell 2).trans rfl;clear n;go_region_with (go_at_call 45;refine(yY _ _).mono ?_;rintro e m ⟨rfl,x⟩;have f:=p9 (B.o.below x);have z0:m.cell? ⟨Y,0,none⟩=some (.string a):=(f.o.ly.cell 0).trans rfl;have E:m.cell? ⟨Y,1,none⟩=some (.string z):=(f.o.ly.cell 1).trans rfl;have z2:m.cell? ⟨Y,2,none⟩=some (.string ⟨#[]⟩):=(f.o.ly.cell 2).trans rfl;have x0:m.cell? ⟨X,0,none⟩=some (.string ⟨#[]⟩):=(f.o.lx.cell 0).trans rfl;have x1:m.cell? ⟨X,1,none⟩=some (.string ⟨#[]⟩):=(f.o.lx.cell 1).trans rfl;have x2:m.cell? ⟨X,2,none⟩=some (.string ⟨#[]⟩):=(f.o.lx.cell 2).trans rfl;have i:=f.o.lx.free 0;have j:=f.o.lx.free 1;have l:=f.o.lx.free 2;clear x)
   all_goals
    go_wp2_with fail;obtain⟨r,c⟩:=f.o.fin rfl a z ⟨#[]⟩;have g:=p9 r;have q:=p9 c;clear r c x0 x1 x2 i j l z0 E z2 f;generalize (((m.setCell ⟨X,0,none⟩ (.string a)).setCell ⟨X,1,none⟩ (.string z)).setCell ⟨X,2,none⟩ (.string ⟨#[]⟩))=P at g q⊢;have x0:=g.o.at_ 0 (.string a) rfl;have x1:=g.o.at_ 1 (.string z) rfl;have x2:=g.o.at_ 2 (.string ⟨#[]⟩) rfl;refine bodyPost_ret (v:=.tuple #[.agg (IC (a,z,⟨#[]⟩)),.bool (bI z)]) ?_ rfl ⟨by rw[h.o],q.o⟩;simp[results,results17,go_sem,x0,x1,x2,IC]
 have D:sV a=false:=by simpa using D
 rw[bk (by rw[D];simp)] at h;obtain⟨t1,t2,t3,t4,t5,t6⟩:=SP D;clear D;by_cases C:uS a=true
 ·rw[a8 C] at h;have hc:(a.toList==[114,101,97,100])=true\/((a.toList==[114,101,97,100])=false/\(a.toList==[115,101,116])=true):=by
   unfold uS at C
   revert C
   generalize (a.toList==[114,101,97,100])=u;generalize (a.toList==[115,101,116])=v
   revert u v
   decide
  rcases hc with t7|⟨t7,t8⟩
  all_goals
   clear C;go_wp2_with fail;refine(MF z 46 K (by have:=V.o;unfold maxLen;omega)).mono ?_;rintro e R ⟨rfl,hw⟩;have n:=p9 (H.o.below hw);clear hw H T L M t w;generalize cA z 46=p at h⊢;generalize cZ z 46=k at h⊢;generalize cB z 46=d at h⊢;have L:=n.o.ly.at_ 1 (.string ⟨#[]⟩) rfl;have M:=n.o.ly.at_ 2 (.string ⟨#[]⟩) rfl;have t:=n.o.ly.free 1;have w:=n.o.ly.free 2;go_upto_region 17 with fail;have f:=p9 ((n.o.fS 1 (.string p)).fS 2 (.string k));clear n L M t w;generalize (R.setCell ⟨Y,1,none⟩ (.string p)).setCell ⟨Y,2,none⟩ (.string k)=W6 at f⊢;go_wp2_with fail;refine(yY p W6).mono ?_;rintro e Z ⟨rfl,hw⟩;have y:=p9 (f.o.below hw);clear hw f;go_wp2_with fail;refine(wM k Z).mono ?_;rintro e W9 ⟨rfl,hw⟩;obtain rfl:=hw.symm;have z0:=y.o.ly.at_ 0 (.string a) rfl;have E:=y.o.ly.at_ 1 (.string p) rfl;have z2:=y.o.ly.at_ 2 (.string k) rfl;have x0:=y.o.lx.at_ 0 (.string ⟨#[]⟩) rfl;have x1:=y.o.lx.at_ 1 (.string ⟨#[]⟩) rfl;have x2:=y.o.lx.at_ 2 (.string ⟨#[]⟩) rfl;have i:=y.o.lx.free 0;have j:=y.o.lx.free 1;have l:=y.o.lx.free 2;generalize bI p=b1 at h⊢;generalize bB k=b2 at h⊢;have f:=y;cases d<;>cases b1<;>cases b2
   all_goals
    go_wp2_with fail;obtain⟨r,c⟩:=f.o.fin rfl a p k;have g:=p9 r;have q:=p9 c;clear r c x0 x1 x2 i j l z0 E z2 f;generalize (((Z.setCell ⟨X,0,none⟩ (.string a)).setCell ⟨X,1,none⟩ (.string p)).setCell ⟨X,2,none⟩ (.string k))=P at g q⊢;have x0:=g.o.at_ 0 (.string a) rfl;have x1:=g.o.at_ 1 (.string p) rfl;have x2:=g.o.at_ 2 (.string k) rfl;refine bodyPost_ret (v:=.tuple #[.agg (IC (a,p,k)),.bool _]) ?_ rfl ⟨by rw[h.o],q.o⟩;simp[results,results17,go_sem,x0,x1,x2,IC]
 rw[bk C] at h;have C:uS a=false:=by simpa using C
 have t7:(a.toList==[114,101,97,100])=false/\(a.toList==[115,101,116])=false:=by simpa [uS] using C
 obtain⟨t7,t8⟩:=t7;clear C;cases t9:(a.toList==[99,97,108,108]) with
 | true=>
  rw[a8 t9] at h;go_upto_region 22 with fail;have n:=p9 (H.o.fS 2 (.string z));clear H T L M t w;generalize K.setCell ⟨Y,2,none⟩ (.string z)=R at n⊢;have B:=p9 (n.o.below (below_drewN (r5 _ _) 1));have d0:R.drew.cell? ⟨Y,0,none⟩=some (.string a):=(B.o.ly.cell 0).trans rfl;have d1:R.drew.cell? ⟨Y,1,none⟩=some (.string ⟨#[]⟩):=(B.o.ly.cell 1).trans rfl;have d2:R.drew.cell? ⟨Y,2,none⟩=some (.string z):=(B.o.ly.cell 2).trans rfl;clear n;go_region_with (go_at_call 15;refine(wM _ _).mono ?_;rintro e m ⟨rfl,x⟩;have f:=p9 (show RR W X Y _ _ m by rw[x];exact B.o);have z0:m.cell? ⟨Y,0,none⟩=some (.string a):=(f.o.ly.cell 0).trans rfl;have E:m.cell? ⟨Y,1,none⟩=some (.string ⟨#[]⟩):=(f.o.ly.cell 1).trans rfl;have z2:m.cell? ⟨Y,2,none⟩=some (.string z):=(f.o.ly.cell 2).trans rfl;have x0:m.cell? ⟨X,0,none⟩=some (.string ⟨#[]⟩):=(f.o.lx.cell 0).trans rfl;have x1:m.cell? ⟨X,1,none⟩=some (.string ⟨#[]⟩):=(f.o.lx.cell 1).trans rfl;have x2:m.cell? ⟨X,2,none⟩=some (.string ⟨#[]⟩):=(f.o.lx.cell 2).trans rfl;have i:=f.o.lx.free 0;have j:=f.o.lx.free 1;have l:=f.o.lx.free 2;clear x)
  all_goals
   go_wp2_with fail;obtain⟨r,c⟩:=f.o.fin rfl a ⟨#[]⟩ z;have g:=p9 r;have q:=p9 c;clear r c x0 x1 x2 i j l z0 E z2 f;generalize (((m.setCell ⟨X,0,none⟩ (.string a)).setCell ⟨X,1,none⟩ (.string ⟨#[]⟩)).setCell ⟨X,2,none⟩ (.string z))=P at g q⊢;have x0:=g.o.at_ 0 (.string a) rfl;have x1:=g.o.at_ 1 (.string ⟨#[]⟩) rfl;have x2:=g.o.at_ 2 (.string z) rfl;refine bodyPost_ret (v:=.tuple #[.agg (IC (a,⟨#[]⟩,z)),.bool (bB z)]) ?_ rfl ⟨by rw[h.o],q.o⟩;simp[results,results17,go_sem,x0,x1,x2,IC]
 | false=>
  rw[bk (by rw[t9];simp)] at h;have f:=H;have z0:=H.o.ly.at_ 0 (.string a) rfl;have E:=H.o.ly.at_ 1 (.string ⟨#[]⟩) rfl;have z2:=H.o.ly.at_ 2 (.string ⟨#[]⟩) rfl;have x0:=H.o.lx.at_ 0 (.string ⟨#[]⟩) rfl;have x1:=H.o.lx.at_ 1 (.string ⟨#[]⟩) rfl;have x2:=H.o.lx.at_ 2 (.string ⟨#[]⟩) rfl;have i:=H.o.lx.free 0;have j:=H.o.lx.free 1;have l:=H.o.lx.free 2;cases t10:(a.toList==[100,101,116,97,99,104]) with
  | true=>
   rw[a8 t10] at h;go_wp2_with fail;obtain⟨r,c⟩:=f.o.fin rfl a ⟨#[]⟩ ⟨#[]⟩;have g:=p9 r;have q:=p9 c;clear r c x0 x1 x2 i j l z0 E z2 f;generalize (((K.setCell ⟨X,0,none⟩ (.string a)).setCell ⟨X,1,none⟩ (.string ⟨#[]⟩)).setCell ⟨X,2,none⟩ (.string ⟨#[]⟩))=P at g q⊢;have x0:=g.o.at_ 0 (.string a) rfl;have x1:=g.o.at_ 1 (.string ⟨#[]⟩) rfl;have x2:=g.o.at_ 2 (.string ⟨#[]⟩) rfl;refine bodyPost_ret (v:=.tuple #[.agg (IC (a,⟨#[]⟩,⟨#[]⟩)),.bool (!b)]) ?_ rfl ⟨by rw[h.o],q.o⟩;simp[results,results17,go_sem,x0,x1,x2,IC]
  | false=>
   rw[bk (by rw[t10];simp)] at h;go_wp2_with fail;obtain⟨r,c⟩:=f.o.fin rfl a ⟨#[]⟩ ⟨#[]⟩;have g:=p9 r;have q:=p9 c;clear r c x0 x1 x2 i j l z0 E z2 f;generalize (((K.setCell ⟨X,0,none⟩ (.string a)).setCell ⟨X,1,none⟩ (.string ⟨#[]⟩)).setCell ⟨X,2,none⟩ (.string ⟨#[]⟩))=P at g q⊢;have x0:=g.o.at_ 0 (.string a) rfl;have x1:=g.o.at_ 1 (.string ⟨#[]⟩) rfl;have x2:=g.o.at_ 2 (.string ⟨#[]⟩) rfl;refine bodyPost_ret (v:=.tuple #[.agg (IC (a,⟨#[]⟩,⟨#[]⟩)),.bool false]) ?_ rfl ⟨by rw[h.o],q.o⟩;simp[results,results17,go_sem,x0,x1,x2,IC]
end
end Go.Proofs.YtbfmmmjkjhjleaaGreatDoor
