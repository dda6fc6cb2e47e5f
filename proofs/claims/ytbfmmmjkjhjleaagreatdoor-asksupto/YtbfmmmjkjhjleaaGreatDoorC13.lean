/- Mine. -/
import Derived.Test.YtbfmmmjkjhjleaaGreatDoorC09
set_option maxRecDepth 100000
set_option maxHeartbeats 0
namespace Go.Proofs.YtbfmmmjkjhjleaaGreatDoor
open Go.Proofs.Tryz
variable {W w:World} {s:ByteArray} {m:Int} {X Y:Nat} {cx cy:Array Value}
section
open Go.RowKit Go.Maps
def kX(s:ByteArray)(c:UInt8):ByteArray:=⟨(Lib.cut s.data.toList [c]).1.toArray⟩
def kw(s:ByteArray)(c:UInt8):ByteArray:=⟨(Lib.cut s.data.toList [c]).2.1.toArray⟩
def dP(s:ByteArray):bF × Bool:=
 if s.toList==[100,101,116,97,99,104] then ((10,⟨#[]⟩,⟨#[]⟩),true)
 else if fH (kX s 32)=0 then ((0,⟨#[]⟩,⟨#[]⟩),false)
 else if fH (kX s 32)=9 then ((9,kw s 32,⟨#[]⟩),bM (kw s 32)==1)
 else if fH (kX s 32)=3\/fH (kX s 32)=5 then ((fH (kX s 32),kX (kw s 32) 46,kw (kw s 32) 46),bM (kX (kw s 32) 46)==2&&bM (kw (kw s 32) 46)==1)
 else ((fH (kX s 32),kw s 32,⟨#[]⟩),bM (kw s 32)==2)
theorem C6{n:Nat}(h:Below n W w)(d:Nat):Below n W (w.drewN d):=⟨h.os,h.tape,h.output,h.size,fun k hk=>h.block k hk⟩
theorem Sy(c:UInt8)(a:s.size<4294967281)(hm:w.cell? ⟨1,0,none⟩=some (.int .i64 m)):
  Calls prog 146 #[.string s,.string ⟨#[c]⟩] w fun e w'=>∃b,e=.returned (.tuple #[.string (kX s c),.string (kw s c),.bool b])/\∃n,w'=w.drewN n:=
 (Tryz.strings_Cut s ⟨#[c]⟩ m w a hm).mono fun _ _ h=>⟨_,h.1,h.2⟩
theorem uJ(s:ByteArray)(c:UInt8):(kw s c).size<=s.size:=by
 unfold kw Lib.cut;split
 ·show (List.drop _ s.data.toList).toArray.size<=s.data.size;rw[List.size_toArray,x9,A4];omega
 ·exact tJ _
theorem Kg(s:ByteArray)(c:UInt8):(kX s c).size<=s.size:=by
 unfold kX Lib.cut;split
 ·show (List.take _ s.data.toList).toArray.size<=s.data.size;rw[List.size_toArray,v8,A4];omega
 ·exact rm _
structure RO(W:World)(X Y:Nat)(cx cy:Array Value)(w:World):Prop where
 lx:Loc w X cx 177
 ly:Loc w Y cy 177
 xy:X≠Y
 nx:W.heap.size<=X
 ny:W.heap.size<=Y
 low:Below W.heap.size W w
theorem RO.eX(h:RO W X Y cx cy w)(j:Nat)(u:Value):RO W X Y (cx.setIfInBounds j u) cy (w.setCell ⟨X,j,none⟩ u):=
 ⟨h.lx.set j u,h.ly.aY (Ne.symm h.xy) j u,h.xy,h.nx,h.ny,h.low.setCell (p:=⟨X,j,none⟩) h.nx u⟩
theorem RO.fS(h:RO W X Y cx cy w)(j:Nat)(u:Value):RO W X Y cx (cy.setIfInBounds j u) (w.setCell ⟨Y,j,none⟩ u):=
 ⟨h.lx.aY h.xy j u,h.ly.set j u,h.xy,h.nx,h.ny,h.low.setCell (p:=⟨Y,j,none⟩) h.ny u⟩
theorem RO.drew{W w:World}{X Y:Nat}{a b:Array Value}(h:RO W X Y a b w)(n:Nat):RO W X Y a b (w.drewN n):=
 ⟨h.lx.drew n,h.ly.drew n,h.xy,h.nx,h.ny,C6 h.low n⟩
theorem QO(c:(s.toList==[100,101,116,97,99,104])=true):
  Calls prog 98 #[.string s] W fun e W'=>e=.returned (.tuple #[vN (dP s).1,.bool (dP s).2])/\Below W.heap.size W W':=by
 have a:=p9 (show dP s=((10,⟨#[]⟩,⟨#[]⟩),true) by unfold dP;rw[a8 c]);have b:=p9 (Loc.new W #[.int .i64 0,.string ⟨#[]⟩,.string ⟨#[]⟩] 177);have d:=p9 ((r5 W.heap.size W).alloc (rm _) (.cells #[.int .i64 0,.string ⟨#[]⟩,.string ⟨#[]⟩] 177));go_enter func98,ntmps98
 go_wp2_with fail;clear b;refine bodyPost_ret (v:=.tuple #[.agg #[.int .i64 10,.string ⟨#[]⟩,.string ⟨#[]⟩],.bool true]) ?_ rfl ⟨by rw[a.o];rfl,?_⟩
 ·simp[results,results98,go_sem]
 ·exact(r5 W.heap.size W).alloc (rm _) _
theorem R7(hs:s.size<4294967281)(hm:W.cell? ⟨1,0,none⟩=some (.int .i64 m))(hd:(s.toList==[100,101,116,97,99,104])=false):
  Calls prog 98 #[.string s] W fun e W'=>e=.returned (.tuple #[vN (dP s).1,.bool (dP s).2])/\Below W.heap.size W W':=by
 have h:=p9 (show dP s=_ by unfold dP;rw[bk (by simp[hd])]);have P:=p9 (Loc.new W #[.int .i64 0,.string ⟨#[]⟩,.string ⟨#[]⟩] 177);have N:=p9 ((r5 W.heap.size W).alloc (rm _) (.cells #[.int .i64 0,.string ⟨#[]⟩,.string ⟨#[]⟩] 177));have O:=p9 hm;have U:=p9 hs;clear hm;go_enter func98,ntmps98
 go_wp2_with fail;obtain⟨X,R⟩:∃X,X=W.heap.size:=⟨_,rfl⟩;have T:=p9 (Nat.le_of_eq R.symm);rw[<-R] at P⊢;clear R;generalize W.alloc (.cells #[.int .i64 0,.string ⟨#[]⟩,.string ⟨#[]⟩] 177)=W1 at P N⊢;refine(Sy 32 U.o ((N.o.cell (block_lt_of_cell O.o)).trans O.o)).mono ?_;rintro e K ⟨b,rfl,n,hw⟩;have C:qv (Loc K X #[.int .i64 0,.string ⟨#[]⟩,.string ⟨#[]⟩] 177):=p9 (by rw[hw];exact P.o.drew n);have r:qv (Below W.heap.size W K):=p9 (by rw[hw];exact C6 N.o n);clear hw P N;go_wp2_with fail;refine(O7 (kX s 32) K).mono ?_;rintro e W3 ⟨rfl,hw⟩;obtain rfl:=hw.symm;obtain⟨v,hv⟩:∃v,v=fH (kX s 32):=⟨_,rfl⟩;obtain⟨z,S⟩:∃z,z=kw s 32:=⟨_,rfl⟩;rw[<-hv,<-S] at h⊢;have HZ:=p9 (show z.size<4294967281 by rw[S];exact Nat.lt_of_le_of_lt (uJ s 32) U.o);clear S hv;generalize kX s 32=y;go_upto_region 5 with fail;have D:=p9 (C.o.alloc (.cells #[.int .i64 v,.string z,.string ⟨#[]⟩] 177));have u:=p9 (Loc.new K #[.int .i64 v,.string z,.string ⟨#[]⟩] 177);have A:=p9 (r.o.alloc r.o.size (.cells #[.int .i64 v,.string z,.string ⟨#[]⟩] 177));have E:=p9 (Nat.ne_of_lt C.o.lt);have B:=p9 r.o.size;clear C r;obtain⟨Y,hY⟩:∃Y,Y=K.heap.size:=⟨_,rfl⟩;rw[<-hY] at E B u⊢;clear hY;generalize K.alloc (.cells #[.int .i64 v,.string z,.string ⟨#[]⟩] 177)=L at D u A⊢;have H:=p9 (RO.mk D.o u.o E.o T.o B.o A.o);clear D u A E T B;have x0:=H.o.lx.at_ 0 (.int .i64 0) rfl;have x1:=H.o.lx.at_ 1 (.string ⟨#[]⟩) rfl;have x2:=H.o.lx.at_ 2 (.string ⟨#[]⟩) rfl;have d:=H.o.lx.free 0;have f:=H.o.lx.free 1;have g:=H.o.lx.free 2;have q:=H.o.ly.at_ 0 (.int .i64 v) rfl;have j:=H.o.ly.at_ 1 (.string z) rfl;have l:=H.o.ly.at_ 2 (.string ⟨#[]⟩) rfl;by_cases V:v=0
 ·subst V;rw[a8 rfl] at h;go_wp2_with fail;have c:=p9 (((H.o.eX 0 (.int .i64 0)).eX 1 (.string ⟨#[]⟩)).eX 2 (.string ⟨#[]⟩));clear x0 x1 x2 d f g q j l H;generalize (((L.setCell ⟨X,0,none⟩ (.int .i64 0)).setCell ⟨X,1,none⟩ (.string ⟨#[]⟩)).setCell ⟨X,2,none⟩ (.string ⟨#[]⟩))=x at c⊢;have x0:=c.o.lx.at_ 0 (.int .i64 0) rfl;have x1:=c.o.lx.at_ 1 (.string ⟨#[]⟩) rfl;have x2:=c.o.lx.at_ 2 (.string ⟨#[]⟩) rfl;refine bodyPost_ret (v:=.tuple #[.agg #[.int .i64 0,.string ⟨#[]⟩,.string ⟨#[]⟩],.bool false]) ?_ rfl ⟨by rw[h.o];rfl,c.o.low⟩;simp[results,results98,go_sem,x0,x1,x2]
 rw[bk V] at h;by_cases Z:v=9
 ·subst Z;rw[a8 rfl] at h;go_upto_region 9 with fail;go_region_with (go_at_call 71;refine(gj _ _).mono ?_;rintro e I ⟨rfl,hw⟩;obtain rfl:=hw.symm)
  all_goals
   go_wp2_with fail;have c:=p9 (((H.o.eX 0 (.int .i64 9)).eX 1 (.string z)).eX 2 (.string ⟨#[]⟩));clear x0 x1 x2 d f g q j l H;generalize (((L.setCell ⟨X,0,none⟩ (.int .i64 9)).setCell ⟨X,1,none⟩ (.string z)).setCell ⟨X,2,none⟩ (.string ⟨#[]⟩))=x at c⊢;have x0:=c.o.lx.at_ 0 (.int .i64 9) rfl;have x1:=c.o.lx.at_ 1 (.string z) rfl;have x2:=c.o.lx.at_ 2 (.string ⟨#[]⟩) rfl;refine bodyPost_ret (v:=.tuple #[.agg #[.int .i64 9,.string z,.string ⟨#[]⟩],.bool (bM z==1)]) ?_ rfl ⟨by rw[h.o];rfl,⟨c.o.low.os,c.o.low.tape,c.o.low.output,c.o.low.size,fun k hk=>c.o.low.block k hk⟩⟩;simp[results,results98,go_sem,x0,x1,x2]
 rw[bk Z] at h;by_cases i:v=3\/v=5
 ·rw[a8 i] at h;have J:qv (∀w:World,Below W.heap.size W w->Calls prog 146 #[.string z,.string ⟨#[46]⟩] w fun e I=>∃b,e=.returned (.tuple #[.string (kX z 46),.string (kw z 46),.bool b])/\∃n,I=w.drewN n):=
   p9 fun w hb=>Sy 46 HZ.o ((hb.cell (block_lt_of_cell O.o)).trans O.o)
  rcases i with i|i
  ·subst i;go_wp2_with fail;refine(J.o L H.o.low).mono ?_;rintro e x ⟨b',rfl,n',hw⟩;have p:qv (RO W X Y #[.int .i64 0,.string ⟨#[]⟩,.string ⟨#[]⟩] #[.int .i64 3,.string z,.string ⟨#[]⟩] x):=p9 (by rw[hw];exact H.o.drew n');clear hw H x0 x1 x2 d f g q j l;have j:=p.o.ly.at_ 1 (.string z) rfl;have l:=p.o.ly.at_ 2 (.string ⟨#[]⟩) rfl;have F:=p.o.ly.free 1;have G:=p.o.ly.free 2;go_upto_region 13 with fail;have H:=p9 ((p.o.fS 1 (.string (kX z 46))).fS 2 (.string (kw z 46)));clear j l F G p;generalize (x.setCell ⟨Y,1,none⟩ (.string (kX z 46))).setCell ⟨Y,2,none⟩ (.string (kw z 46))=M at H⊢;generalize kX z 46=a at H h J⊢;generalize kw z 46=k at H h J⊢;have x0:=H.o.lx.at_ 0 (.int .i64 0) rfl;have x1:=H.o.lx.at_ 1 (.string ⟨#[]⟩) rfl;have x2:=H.o.lx.at_ 2 (.string ⟨#[]⟩) rfl;have d:=H.o.lx.free 0;have f:=H.o.lx.free 1;have g:=H.o.lx.free 2;have q:=H.o.ly.at_ 0 (.int .i64 3) rfl;have j:=H.o.ly.at_ 1 (.string a) rfl;have l:=H.o.ly.at_ 2 (.string k) rfl;by_cases hw:bM a=2
   ·have t:=p9 hw;clear hw
    first
    | go_region_with (go_at_call 71;refine(gj _ _).mono ?_;rintro e I ⟨rfl,hw⟩;obtain rfl:=hw.symm;(try rw[t.o]))
    | fail
    all_goals
     go_wp2_with fail;have c:=p9 (((H.o.eX 0 (.int .i64 3)).eX 1 (.string a)).eX 2 (.string k));clear x0 x1 x2 d f g q j l H;generalize (((M.setCell ⟨X,0,none⟩ (.int .i64 3)).setCell ⟨X,1,none⟩ (.string a)).setCell ⟨X,2,none⟩ (.string k))=Q at c⊢;have x0:=c.o.lx.at_ 0 (.int .i64 3) rfl;have x1:=c.o.lx.at_ 1 (.string a) rfl;have x2:=c.o.lx.at_ 2 (.string k) rfl;refine bodyPost_ret (v:=.tuple #[.agg #[.int .i64 3,.string a,.string k],.bool (bM k==1)]) ?_ rfl ⟨by rw[h.o,t.o];rfl,⟨c.o.low.os,c.o.low.tape,c.o.low.output,c.o.low.size,fun k hk=>c.o.low.block k hk⟩⟩;simp[results,results98,go_sem,x0,x1,x2]
   ·have hw:(bM a==2)=false:=by simpa using hw
    have t:=p9 hw
    first
    | go_region_with (go_at_call 71;refine(gj _ _).mono ?_;rintro e I ⟨rfl,hw⟩;obtain rfl:=hw.symm)
    | fail
    all_goals
     go_wp2_with fail;have c:=p9 (((H.o.eX 0 (.int .i64 3)).eX 1 (.string a)).eX 2 (.string k));clear x0 x1 x2 d f g q j l H;generalize (((M.setCell ⟨X,0,none⟩ (.int .i64 3)).setCell ⟨X,1,none⟩ (.string a)).setCell ⟨X,2,none⟩ (.string k))=Q at c⊢;have x0:=c.o.lx.at_ 0 (.int .i64 3) rfl;have x1:=c.o.lx.at_ 1 (.string a) rfl;have x2:=c.o.lx.at_ 2 (.string k) rfl;refine bodyPost_ret (v:=.tuple #[.agg #[.int .i64 3,.string a,.string k],.bool (false)]) ?_ rfl ⟨by rw[h.o,t.o];rfl,⟨c.o.low.os,c.o.low.tape,c.o.low.output,c.o.low.size,fun k hk=>c.o.low.block k hk⟩⟩;simp[results,results98,go_sem,x0,x1,x2]
  ·subst i;go_wp2_with fail;refine(J.o L H.o.low).mono ?_;rintro e x ⟨b',rfl,n',hw⟩;have p:qv (RO W X Y #[.int .i64 0,.string ⟨#[]⟩,.string ⟨#[]⟩] #[.int .i64 5,.string z,.string ⟨#[]⟩] x):=p9 (by rw[hw];exact H.o.drew n');clear hw H x0 x1 x2 d f g q j l;have j:=p.o.ly.at_ 1 (.string z) rfl;have l:=p.o.ly.at_ 2 (.string ⟨#[]⟩) rfl;have F:=p.o.ly.free 1;have G:=p.o.ly.free 2;go_upto_region 13 with fail;have H:=p9 ((p.o.fS 1 (.string (kX z 46))).fS 2 (.string (kw z 46)));clear j l F G p;generalize (x.setCell ⟨Y,1,none⟩ (.string (kX z 46))).setCell ⟨Y,2,none⟩ (.string (kw z 46))=M at H⊢;generalize kX z 46=a at H h J⊢;generalize kw z 46=k at H h J⊢;have x0:=H.o.lx.at_ 0 (.int .i64 0) rfl;have x1:=H.o.lx.at_ 1 (.string ⟨#[]⟩) rfl;have x2:=H.o.lx.at_ 2 (.string ⟨#[]⟩) rfl;have d:=H.o.lx.free 0;have f:=H.o.lx.free 1;have g:=H.o.lx.free 2;have q:=H.o.ly.at_ 0 (.int .i64 5) rfl;have j:=H.o.ly.at_ 1 (.string a) rfl;have l:=H.o.ly.at_ 2 (.string k) rfl;by_cases hw:bM a=2
   ·have t:=p9 hw;clear hw
    first
    | go_region_with (go_at_call 71;refine(gj _ _).mono ?_;rintro e I ⟨rfl,hw⟩;obtain rfl:=hw.symm;(try rw[t.o]))
    | fail
    all_goals
     go_wp2_with fail;have c:=p9 (((H.o.eX 0 (.int .i64 5)).eX 1 (.string a)).eX 2 (.string k));clear x0 x1 x2 d f g q j l H;generalize (((M.setCell ⟨X,0,none⟩ (.int .i64 5)).setCell ⟨X,1,none⟩ (.string a)).setCell ⟨X,2,none⟩ (.string k))=Q at c⊢;have x0:=c.o.lx.at_ 0 (.int .i64 5) rfl;have x1:=c.o.lx.at_ 1 (.string a) rfl;have x2:=c.o.lx.at_ 2 (.string k) rfl;refine bodyPost_ret (v:=.tuple #[.agg #[.int .i64 5,.string a,.string k],.bool (bM k==1)]) ?_ rfl ⟨by rw[h.o,t.o];rfl,⟨c.o.low.os,c.o.low.tape,c.o.low.output,c.o.low.size,fun k hk=>c.o.low.block k hk⟩⟩;simp[results,results98,go_sem,x0,x1,x2]
   ·have hw:(bM a==2)=false:=by simpa using hw
    have t:=p9 hw
    first
    | go_region_with (go_at_call 71;refine(gj _ _).mono ?_;rintro e I ⟨rfl,hw⟩;obtain rfl:=hw.symm)
    | fail
    all_goals
     go_wp2_with fail;have c:=p9 (((H.o.eX 0 (.int .i64 5)).eX 1 (.string a)).eX 2 (.string k));clear x0 x1 x2 d f g q j l H;generalize (((M.setCell ⟨X,0,none⟩ (.int .i64 5)).setCell ⟨X,1,none⟩ (.string a)).setCell ⟨X,2,none⟩ (.string k))=Q at c⊢;have x0:=c.o.lx.at_ 0 (.int .i64 5) rfl;have x1:=c.o.lx.at_ 1 (.string a) rfl;have x2:=c.o.lx.at_ 2 (.string k) rfl;refine bodyPost_ret (v:=.tuple #[.agg #[.int .i64 5,.string a,.string k],.bool (false)]) ?_ rfl ⟨by rw[h.o,t.o];rfl,⟨c.o.low.os,c.o.low.tape,c.o.low.output,c.o.low.size,fun k hk=>c.o.low.block k hk⟩⟩;simp[results,results98,go_sem,x0,x1,x2]
 rw[bk i] at h;go_upto_region 14 with fail;go_region_with (go_at_call 71;refine(gj _ _).mono ?_;rintro e I ⟨rfl,hw⟩;obtain rfl:=hw.symm)
 all_goals
  go_wp2_with fail;have c:=p9 (((H.o.eX 0 (.int .i64 v)).eX 1 (.string z)).eX 2 (.string ⟨#[]⟩));clear x0 x1 x2 d f g q j l H;generalize (((L.setCell ⟨X,0,none⟩ (.int .i64 v)).setCell ⟨X,1,none⟩ (.string z)).setCell ⟨X,2,none⟩ (.string ⟨#[]⟩))=x at c⊢;have x0:=c.o.lx.at_ 0 (.int .i64 v) rfl;have x1:=c.o.lx.at_ 1 (.string z) rfl;have x2:=c.o.lx.at_ 2 (.string ⟨#[]⟩) rfl;refine bodyPost_ret (v:=.tuple #[.agg #[.int .i64 v,.string z,.string ⟨#[]⟩],.bool (bM z==2)]) ?_ rfl ⟨by rw[h.o];rfl,⟨c.o.low.os,c.o.low.tape,c.o.low.output,c.o.low.size,fun k hk=>c.o.low.block k hk⟩⟩;simp[results,results98,go_sem,x0,x1,x2]
theorem DA(b:s.size<4294967281)(hm:W.cell? ⟨1,0,none⟩=some (.int .i64 m)):
  Calls prog 98 #[.string s] W fun e W'=>e=.returned (.tuple #[vN (dP s).1,.bool (dP s).2])/\Below W.heap.size W W':=by
 cases a:(s.toList==[100,101,116,97,99,104]) with
 | true=>exact QO a
 | false=>exact R7 b hm a
end
end Go.Proofs.YtbfmmmjkjhjleaaGreatDoor
