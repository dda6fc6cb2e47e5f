/- Mine. -/
import Derived.Test.YtbfmmmjkjhjleaaGreatDoorC18
import Derived.Test.YtbfmmmjkjhjleaaGreatDoorC16
import Derived.Test.YtbfmmmjkjhjleaaGreatDoorC22
import Derived.Lib.ItoaLen
set_option maxRecDepth 100000
set_option maxHeartbeats 0
namespace Go.Proofs.YtbfmmmjkjhjleaaGreatDoor
open Go.Proofs.Tryz
variable {W W0:World} {b x:Nat} {lv vs vc:Value} {ts:List Tok} {st:RS} {key:ByteArray}
section
open Go.RowKit
structure SF where
 q:aI
 vs:Value
 vc:Value
 vi:Value
 vp:Value
 nv:Value
 sm:List NM
 bud:Int
def sC(F:SF)(cost:Int)(rv:Value):Array Value:=#[.int .i64 F.q.kind,F.vs,F.vc,F.vi,.int .i64 F.q.order,.bool F.q.down,.int .i64 F.q.skip,.int .i64 F.q.aX,.string F.q.name,.string F.q.key,.string F.q.value.name,.string F.q.value.key,.int .i64 F.q.value.val,.string F.q.type,.string F.q.dest,.string F.q.ai,F.vp,F.nv,.slice none 0 0,.int .i64 cost,.int .i64 F.bud,rv]
structure wE(F:SF)(w:World):Prop where
 rs:dj w 5 F.vs F.q.ah.length (F.q.ah.flatMap nG)
 rc:dj w 7 F.vc F.q.aq.length (F.q.aq.flatMap pX)
 rt:dj w 2 F.vi F.q.af.length (F.q.af.flatMap kk)
 nr:dj w 3 F.nv F.sm.length (F.sm.flatMap Fi)
 pr:∀x∈F.sm,dj w 2 x.pv x.aj.length (x.aj.flatMap dG)
 small:F.q.ah.length<=6/\F.q.aq.length<=1000/\F.q.af.length<=6/\F.sm.length<=40/\∀x∈F.sm,x.aj.length<=1000
theorem wE.below{F:SF}{w b:World}(h:wE F w)(a:Below w.heap.size w b):wE F b:=⟨h.rs.below a,h.rc.below a,h.rt.below a,h.nr.below a,fun x hx=>(h.pr x hx).below a,h.small⟩
def PJ(o:Option Int):Array Value:=#[.int .i64 (o.getD 0),.bool o.isSome]
def fs(l:List bm)(key:ByteArray):Option Int:=(l.find? fun p=>decide (p.key=key)).map (·.val)
theorem LV{l:List bm}{k:Nat}(hk:k<l.length)(hp:∀j (h:j<l.length),j<k->¬l[j].key=key)(he:l[k].key=key):fs l key=some l[k].val:=by
 have h1:(l.take k).find? (fun p=>decide (p.key=key))=none:=List.find?_eq_none.2 fun x hx=>by
  obtain⟨j,a,rfl⟩:=zc hx;rw[v8] at a;rw[List.getElem_take]
  simpa using hp j (by omega) (by omega)
 unfold fs;rw[rB hk h1 (by simpa using he)]
 rfl
theorem Gu{l:List bm}(hp:∀j (h:j<l.length),¬l[j].key=key):fs l key=none:=by
 unfold fs;rw[List.find?_eq_none.2 fun x hx=>by
  obtain⟨j,a,rfl⟩:=zc hx
  simpa using hp j a]
 rfl
theorem CP{fn:Func}{tmps:Array Value}{w:World}{X c:Nat}{o:Option Int}(d:fn.results=#[.cell c 209])(b:tmps[c]?.getD undef=.pointer (some ⟨X,0,none⟩))(a:w.cell? ⟨X,0,none⟩=some (.int .i64 (o.getD 0)))(h1:w.cell? ⟨X,1,none⟩=some (.bool o.isSome)):
  (results fn tmps).run prog w=.ok (.agg (PJ o)) w:=by
 unfold results;rw[d];simp[b,asAddr,go_sem,a,h1,PJ]
theorem Mu{S at_:Nat}{F:SF}{cost:Int}{Y:Value}(N:Loc W S (sC F cost Y) 199)(u:wE F W)(J:at_<F.sm.length):
  Calls prog 109 #[.pointer (some ⟨S,0,none⟩),.int .i64 (at_:Int),.string key] W fun e W'=>e=.returned (.agg (PJ (fs F.sm[at_].aj key)))/\Below W.heap.size W W':=by
 obtain⟨V,O,s,-⟩:=bi u.nr;have r:=u.nr;rw[s] at r;have f:W.cell? ⟨S,17,none⟩=some (.slice V F.sm.length O):=(N.cell 17).trans (by rw[<-s];rfl);obtain⟨g,o,rfl,q⟩:=bC (l:=F.sm) Fi (fun _=>rfl) r J;have c2:=q 2 (by omega);have a:=u.pr F.sm[at_] (sT J);have D:=u.small.2.2.2.2 F.sm[at_] (sT J);have T:(at_:Int)<(F.sm.length:Int):=by omega
 have M:=u.small.2.2.2.1;obtain⟨n,C⟩:∃n,F.sm[at_]=n:=⟨_,rfl⟩;rw[C] at c2 a D⊢;obtain⟨pa,pc,t,-⟩:=bi a;have c2:W.cell? ⟨g,o+at_*3+2,none⟩=some (.slice pa n.aj.length pc):=by rw[c2,<-t];rfl
 rw[t] at a;have A:=(r5 W.heap.size W).alloc (rm _) (.cells #[.int .i64 0,.bool false] 209);have i:=p9 (Loc.new W #[.int .i64 0,.bool false] 209);have m:=p9 (a.below A);have E:=p9 A;have f:(W.alloc (.cells #[.int .i64 0,.bool false] 209)).cell? ⟨S,17,none⟩=some (.slice (some ⟨g,o,none⟩) F.sm.length O):=(A.cell (block_lt_of_cell f)).trans f;have c2:(W.alloc (.cells #[.int .i64 0,.bool false] 209)).cell? ⟨g,o+at_*3+2,none⟩=some (.slice pa n.aj.length pc):=(A.cell (block_lt_of_cell c2)).trans c2;clear q N u r s t C a A;generalize n.aj=b at m D c2⊢;go_enter func109,ntmps109
 go_upto_region 1 with fail;obtain⟨X,I⟩:∃X,X=W.heap.size:=⟨_,rfl⟩;have d:=p9 (Nat.le_of_eq I.symm);rw[<-I] at i⊢;clear I;generalize W.alloc (.cells #[.int .i64 0,.bool false] 209)=R at i m E f c2⊢;have x0:=i.o.at_ 0 (.int .i64 0) rfl;have x1:=i.o.at_ 1 (.bool false) rfl;have f0:=i.o.free 0;have f1:=i.o.free 1;go_wp2_with fail;go_loopg [8] b.length (fun c iv w=>∃k:Nat,iv=.int .i64 (k:Int)/\k+c=b.length/\(∀j (h:j<b.length),j<k->¬b[j].key=key)/\w=R)
 case atStart=>exact⟨0,rfl,by omega,fun _ _ h=>absurd h (by omega),rfl⟩
 case round=>
  obtain⟨k,rfl,hk,C,rfl⟩:=hrel;have G:=p9 C;clear C;by_cases B:k<b.length
  ·have K:(k:Int)<(b.length:Int):=by omega
   obtain⟨P,Q,rfl,q⟩:=bC (l:=b) dG (fun _=>rfl) m.o B;obtain⟨⟨y,v⟩,L⟩:∃y,b[k]=y:=⟨_,rfl⟩;have H:=p9 L;rw[L] at q;have Z:wr.cell? ⟨P,Q+k*2,none⟩=some (.string y):=q 0 (by omega);have p1:wr.cell? ⟨P,Q+k*2+1,none⟩=some (.int .i64 v):=q 1 (by omega);clear q L;by_cases he:y=key
   ·subst he;have x:=p9 (LV B G.o (by rw[H.o]));go_wp2_with fail;have z:=(i.o.set 0 (.int .i64 v)).set 1 (.bool true);refine bodyPost_ret (CP (o:=some v) rfl rfl ((z.cell 0).trans rfl) ((z.cell 1).trans rfl)) rfl ⟨by rw[x.o,H.o],?_⟩;exact(E.o.setCell (p:=⟨X,0,none⟩) d.o _).setCell (p:=⟨X,1,none⟩) d.o _
   ·have U:=iQ he;have x:=p9 he;clear he;go_wp2_with fail;go_roundg (gk - 1)
    case rel=>
     refine⟨k+1,by simp,by omega,fun j h hj=>?_,rfl⟩;rcases ua j k with h1|h1
     ·exact G.o j h h1
     ·obtain rfl:j=k:=by omega
      rw[H.o];exact x.o
    case measure=>omega
  ·have K:¬(k:Int)<(b.length:Int):=by omega
   have x:=p9 (Gu (l:=b) (key:=key) fun j h=>G.o j h (by omega));go_wp2_with fail;have z:=(i.o.set 0 (.int .i64 0)).set 1 (.bool false);refine bodyPost_ret (CP (o:=none) rfl rfl ((z.cell 0).trans rfl) ((z.cell 1).trans rfl)) rfl ⟨by rw[x.o],?_⟩;exact(E.o.setCell (p:=⟨X,0,none⟩) d.o _).setCell (p:=⟨X,1,none⟩) d.o _
def OX(o:Option Int):ByteArray:=o.elim ⟨#[45]⟩ bP
def kL:List (Option Int)->Nat->ByteArray
 | _,0=>⟨#[]⟩
 | l,n+1=>(if 0<n then kL l n++⟨#[124]⟩ else kL l n)++OX ((l[n]?).getD none)
def sd(l:List (Option Int)):ByteArray:=kL l l.length
theorem k9(n:Int)(h:nY n):(bP n).size<=21:=by
 unfold bP;have h1:=Lib.itoa_length_le n h.1 h.2;show (Lib.itoa n).toArray.size<=21;rw[List.size_toArray];omega
theorem yL{l:List (Option Int)}(a:∀n,some n∈l->nY n):∀n,(kL l n).size<=n*22
 | 0=>by unfold kL;exact tJ _
 | n+1=>by
  unfold kL;have h1:=yL a n;have b:(OX ((l[n]?).getD none)).size<=21:=by
   cases h:l[n]? with
   | none=>decide
   | some o=>
    cases o with
    | none=>decide
    | some m=>exact k9 m (a m (zs h))
  rw[RB];split
  ·rw[RB];have:(⟨#[124]⟩:ByteArray).size=1:=rfl;omega
  ·omega
theorem QQ{v:Value}{l:List (Option Int)}(h:dj W 2 v l.length (l.flatMap vC))(L:l.length<=6)(C:∀n,some n∈l->nY n):
  Calls prog 107 #[v] W fun e W'=>e=.returned (.string (sd l))/\Below W.heap.size W W':=by
 obtain⟨ao,cp,rfl,-⟩:=bi h;have H:=p9 h;have u:=p9 C;have w:=p9 (yL C);clear h C;go_enter func107,ntmps107
 go_wp2_with fail;go_loopg [3,4] l.length (fun c tv iv z=>∃k:Nat,tv=.string (kL l k)/\iv=.int .i64 (k:Int)/\k+c=l.length/\Below W.heap.size W z)
 case atStart=>exact⟨0,rfl,rfl,by omega,r5 _ _⟩
 case round=>
  obtain⟨k,rfl,rfl,hk,F⟩:=hrel;have j:=p9 F;clear F;by_cases p:k<l.length
  ·have B:(k:Int)<(l.length:Int):=by omega
   obtain⟨g,o,rfl,q⟩:=bC (l:=l) vC (fun _=>rfl) (H.o.below j.o) p;have a:qv (kL l (k+1)=(if 0<k then kL l k++⟨#[124]⟩ else kL l k)++OX l[k]):=p9 (by
    conv=>lhs;unfold kL
    rw[r6 p]
    rfl)
   have f:qv (∀n,l[k]=some n->nY n):=p9 (fun n e=>u.o n (by rw[<-e];exact sT p));obtain⟨x,I⟩:∃x,l[k]=x:=⟨_,rfl⟩;rw[I] at q a f;have r:wr.cell? ⟨g,o+k*2,none⟩=some (.int .i64 (x.getD 0)):=q 0 (by omega);have s:wr.cell? ⟨g,o+k*2+1,none⟩=some (.bool x.isSome):=q 1 (by omega);clear q I;have D:(kL l k).size<=132:=r8 (w.o k) (by omega);obtain⟨t,G⟩:∃t,kL l k=t:=⟨_,rfl⟩;rw[G] at a D⊢;clear G;by_cases E:0<k
   ·have y:0<(k:Int):=by omega
    rw[a8 E] at a;cases x with
    | none=>
     simp only[F8,F1] at r s;go_wp2_with fail;go_roundg (gk - 1)
     case measure=>omega
     case rel=>exact⟨k+1,by rw[a.o];rfl,by simp,by omega,j.o⟩
    | some n=>
     simp only[xp,B1] at r s;have A:=k9 n (f.o n rfl);have a:qv (kL l (k+1)=t++⟨#[124]⟩++bP n):=a;have b:=p9 (fun (z:World)=>qP (W:=z) (f.o n rfl));generalize bP n=d at a A b;go_wp2_with fail;refine(b.o _).mono ?_;rintro e K ⟨rfl,i⟩;have m:=p9 (j.o.trans (i.mono j.o.size));clear i;go_wp2_with fail;go_roundg (gk - 1)
     case measure=>omega
     case rel=>exact⟨k+1,by rw[a.o],by simp,by omega,m.o⟩
   ·have y:¬0<(k:Int):=by omega
    rw[bk E] at a;cases x with
    | none=>
     simp only[F8,F1] at r s;go_wp2_with fail;go_roundg (gk - 1)
     case measure=>omega
     case rel=>exact⟨k+1,by rw[a.o];rfl,by simp,by omega,j.o⟩
    | some n=>
     simp only[xp,B1] at r s;have A:=k9 n (f.o n rfl);have a:qv (kL l (k+1)=t++bP n):=a;have b:=p9 (fun (z:World)=>qP (W:=z) (f.o n rfl));generalize bP n=d at a A b;go_wp2_with fail;refine(b.o _).mono ?_;rintro e K ⟨rfl,i⟩;have m:=p9 (j.o.trans (i.mono j.o.size));clear i;go_wp2_with fail;go_roundg (gk - 1)
     case measure=>omega
     case rel=>exact⟨k+1,by rw[a.o],by simp,by omega,m.o⟩
  ·have B:¬(k:Int)<(l.length:Int):=by omega
   have J:qv (kL l k=sd l):=p9 (by unfold sd;rw[show k=l.length by omega]);rw[J.o];go_wp2_with fail;go_ret;exact⟨rfl,j.o⟩
theorem Ga{sp:List aK}{cd:List bW}(h:fN W0 b lv ts st x (qC aB vs vc (.slice none 0 0) (.slice none 0 0)) ⟨vs,sp,vc,cd,(.slice none 0 0),[],(.slice none 0 0),[]⟩ W)(l:aO bH st=true):
  Calls prog 23 #[.pointer (some ⟨b,0,none⟩),.pointer (some ⟨x,0,none⟩)] W fun e W'=>e=.returned (.tuple #[])/\∃vi,fN W0 b lv ts (df {aB with ah:=sp,aq:=cd} st).2 x (qC (df {aB with ah:=sp,aq:=cd} st).1 vs vc vi (.slice none 0 0)) ⟨vs,sp,vc,cd,vi,(df {aB with ah:=sp,aq:=cd} st).1.af,(.slice none 0 0),[]⟩ W':=by
 have c:=p9 l;clear l;have f:=p9 h;clear h;go_enter func23,ntmps23
 go_wp2_with fail;refine(has f.o.ri bH true c.o).mono ?_;rintro e j ⟨rfl,h,g⟩;obtain⟨s0,a⟩:∃s0,bz bH st=s0:=⟨_,rfl⟩;rw[a] at h;have m:=p9 a;have d:=p9 (f.o.call h g);clear h g f a;have p:=d.o.lq.at_ 0 (.int .i64 0) rfl;have f0:j.frozen? ⟨x,0,none⟩=false:=d.o.lq.free 0;have i:qv (fN W0 b lv ts s0 x (qC {aB with kind:=1} vs vc (.slice none 0 0) (.slice none 0 0)) ⟨vs,sp,vc,cd,(.slice none 0 0),[],(.slice none 0 0),[]⟩ (j.setCell ⟨x,0,none⟩ (.int .i64 1))):=d.o.set 0 (.int .i64 1);clear d;go_wp2_with fail;generalize j.setCell ⟨x,0,none⟩ (.int .i64 1)=q at i⊢;clear p f0;refine(af i.o).mono ?_;rintro e r ⟨rfl,vi,k⟩;have n:=p9 k;clear k i;go_wp2_with fail;go_end0;refine⟨rfl,vi,?_⟩;unfold df;simp only[c.o,m.o,if_true];exact n.o
theorem JF{sp:List aK}{cd:List bW}(h:fN W0 b lv ts st x (qC aB vs vc (.slice none 0 0) (.slice none 0 0)) ⟨vs,sp,vc,cd,(.slice none 0 0),[],(.slice none 0 0),[]⟩ W)(Q:aO bH st=false)(R:aO fZ st=true):
  Calls prog 23 #[.pointer (some ⟨b,0,none⟩),.pointer (some ⟨x,0,none⟩)] W fun e W'=>e=.returned (.tuple #[])/\∃vi,fN W0 b lv ts (df {aB with ah:=sp,aq:=cd} st).2 x (qC (df {aB with ah:=sp,aq:=cd} st).1 vs vc vi (.slice none 0 0)) ⟨vs,sp,vc,cd,vi,(df {aB with ah:=sp,aq:=cd} st).1.af,(.slice none 0 0),[]⟩ W':=by
 have w:=p9 Q;have C:=p9 R;clear Q R;have L:=p9 h;clear h;go_enter func23,ntmps23
 go_wp2_with fail;refine(has L.o.ri bH false w.o).mono ?_;rintro e P1 ⟨rfl,h,g⟩;rw[eG w.o] at h;have K:=p9 (L.o.call h g);clear h g L;go_wp2_with fail;refine(has K.o.ri fZ true C.o).mono ?_;rintro e M ⟨rfl,h,g⟩;obtain⟨s0,y⟩:∃s0,bz fZ st=s0:=⟨_,rfl⟩;rw[y] at h;have S:=p9 y;have H1:=p9 (K.o.call h g);clear h g K y;have Y:=H1.o.lq.at_ 0 (.int .i64 0) rfl;have f0:M.frozen? ⟨x,0,none⟩=false:=H1.o.lq.free 0;have I:qv (fN W0 b lv ts s0 x (qC {aB with kind:=2} vs vc (.slice none 0 0) (.slice none 0 0)) ⟨vs,sp,vc,cd,(.slice none 0 0),[],(.slice none 0 0),[]⟩ (M.setCell ⟨x,0,none⟩ (.int .i64 2))):=H1.o.set 0 (.int .i64 2);clear H1;obtain⟨a,D,t⟩:∃n sz,cI s0=(n,sz):=⟨_,_,rfl⟩;have q:=p9 t;clear t;go_wp2_with fail;generalize M.setCell ⟨x,0,none⟩ (.int .i64 2)=Pk at I⊢;clear Y f0;refine(lD I.o.ri q.o).mono ?_;rintro e N ⟨rfl,h,g⟩;have f:=I.o.call h g;have cc:=f.lq.at_ 8 (.string ⟨#[]⟩) rfl;have P:N.frozen? ⟨x,8,none⟩=false:=f.lq.free 8;have i:qv (fN W0 b lv ts D x (qC {aB with kind:=2,name:=a} vs vc (.slice none 0 0) (.slice none 0 0)) ⟨vs,sp,vc,cd,(.slice none 0 0),[],(.slice none 0 0),[]⟩ (N.setCell ⟨x,8,none⟩ (.string a))):=f.set 8 (.string a);clear h g f I;obtain⟨E,m⟩:∃sz,bG eN D=sz:=⟨_,rfl⟩;have z:=p9 m;go_wp2_with fail;generalize N.setCell ⟨x,8,none⟩ (.string a)=T at i⊢;clear cc P;refine(mI i.o.ri eN).mono ?_;rintro e U ⟨rfl,h,g⟩;rw[m] at h;have k:qv (fN W0 b lv ts E x (qC {aB with kind:=2,name:=a} vs vc (.slice none 0 0) (.slice none 0 0)) ⟨vs,sp,vc,cd,(.slice none 0 0),[],(.slice none 0 0),[]⟩ U):=i.o.call h g;clear h g m i;obtain⟨d,F,u⟩:∃n sz,cI E=(n,sz):=⟨_,_,rfl⟩;have r:=p9 u;clear u;go_wp2_with fail;refine(lD k.o.ri r.o).mono ?_;rintro e O ⟨rfl,h,g⟩;have f:=k.o.call h g;have cc:=f.lq.at_ 9 (.string ⟨#[]⟩) rfl;have P:O.frozen? ⟨x,9,none⟩=false:=f.lq.free 9;have j:qv (fN W0 b lv ts F x (qC {aB with kind:=2,name:=a,key:=d} vs vc (.slice none 0 0) (.slice none 0 0)) ⟨vs,sp,vc,cd,(.slice none 0 0),[],(.slice none 0 0),[]⟩ (O.setCell ⟨x,9,none⟩ (.string d))):=f.set 9 (.string d);clear h g f k;obtain⟨G,p⟩:∃sz,bG ze F=sz:=⟨_,rfl⟩;have A:=p9 p;go_wp2_with fail;generalize O.setCell ⟨x,9,none⟩ (.string d)=V at j⊢;clear cc P;refine(mI j.o.ri ze).mono ?_;rintro e X ⟨rfl,h,g⟩;rw[p] at h;have l:qv (fN W0 b lv ts G x (qC {aB with kind:=2,name:=a,key:=d} vs vc (.slice none 0 0) (.slice none 0 0)) ⟨vs,sp,vc,cd,(.slice none 0 0),[],(.slice none 0 0),[]⟩ X):=j.o.call h g;clear h g p j;obtain⟨c,H,v⟩:∃n sz,gD G=(n,sz):=⟨_,_,rfl⟩;have s:=p9 v;clear v;go_wp2_with fail;refine(Hl l.o.ri s.o).mono ?_;rintro e J ⟨rfl,h,g⟩;have f:=l.o.call h g;have Z:=f.lq.at_ 10 (.string ⟨#[]⟩) rfl;have f10:J.frozen? ⟨x,10,none⟩=false:=f.lq.free 10;have A0:=f.lq.at_ 11 (.string ⟨#[]⟩) rfl;have f11:J.frozen? ⟨x,11,none⟩=false:=f.lq.free 11;have A1:=f.lq.at_ 12 (.int .i64 0) rfl;have f12:J.frozen? ⟨x,12,none⟩=false:=f.lq.free 12;have B:qv (fN W0 b lv ts H x (qC {aB with kind:=2,name:=a,key:=d,value:=c} vs vc (.slice none 0 0) (.slice none 0 0)) ⟨vs,sp,vc,cd,(.slice none 0 0),[],(.slice none 0 0),[]⟩ (((J.setCell ⟨x,10,none⟩ (.string c.name)).setCell ⟨x,11,none⟩ (.string c.key)).setCell ⟨x,12,none⟩ (.int .i64 c.val))):=((f.set 10 (.string c.name)).set 11 (.string c.key)).set 12 (.int .i64 c.val);clear h g f l;go_wp2_with fail;go_end0;refine⟨rfl,.slice none 0 0,?_⟩;have e:df {aB with ah:=sp,aq:=cd} st=({aB with ah:=sp,aq:=cd,kind:=2,name:=a,key:=d,value:=c},H):=by
  unfold df OC;simp only[w.o,C.o,S.o,q.o,z.o,r.o,A.o,s.o,th,if_false,if_true]
 rw[e];exact B.o
theorem Kq{sp:List aK}{cd:List bW}(h:fN W0 b lv ts st x (qC aB vs vc (.slice none 0 0) (.slice none 0 0)) ⟨vs,sp,vc,cd,(.slice none 0 0),[],(.slice none 0 0),[]⟩ W)(y:aO bH st=false)(z:aO fZ st=false)(w:aO bR st=true):
  Calls prog 23 #[.pointer (some ⟨b,0,none⟩),.pointer (some ⟨x,0,none⟩)] W fun e W'=>e=.returned (.tuple #[])/\∃vi,fN W0 b lv ts (df {aB with ah:=sp,aq:=cd} st).2 x (qC (df {aB with ah:=sp,aq:=cd} st).1 vs vc vi (.slice none 0 0)) ⟨vs,sp,vc,cd,vi,(df {aB with ah:=sp,aq:=cd} st).1.af,(.slice none 0 0),[]⟩ W':=by
 have f:=p9 y;have i:=p9 z;have l:=p9 w;clear y z w;have t:=p9 h;clear h;go_enter func23,ntmps23
 go_wp2_with fail;refine(has t.o.ri bH false f.o).mono ?_;rintro e C ⟨rfl,h,g⟩;rw[eG f.o] at h;have s:=p9 (t.o.call h g);clear h g t;go_wp2_with fail;refine(has s.o.ri fZ false i.o).mono ?_;rintro e D ⟨rfl,h,g⟩;rw[eG i.o] at h;have H1:=p9 (s.o.call h g);clear h g s;go_wp2_with fail;refine(has H1.o.ri bR true l.o).mono ?_;rintro e u ⟨rfl,h,g⟩;obtain⟨s0,j⟩:∃s0,bz bR st=s0:=⟨_,rfl⟩;rw[j] at h;have A:=p9 j;have p:=p9 (H1.o.call h g);clear h g H1 j;have B:=p.o.lq.at_ 0 (.int .i64 0) rfl;have f0:u.frozen? ⟨x,0,none⟩=false:=p.o.lq.free 0;have q:qv (fN W0 b lv ts s0 x (qC {aB with kind:=3} vs vc (.slice none 0 0) (.slice none 0 0)) ⟨vs,sp,vc,cd,(.slice none 0 0),[],(.slice none 0 0),[]⟩ (u.setCell ⟨x,0,none⟩ (.int .i64 3))):=p.o.set 0 (.int .i64 3);clear p;obtain⟨a,m,d⟩:∃n sz,cI s0=(n,sz):=⟨_,_,rfl⟩;have c:=p9 d;clear d;go_wp2_with fail;generalize u.setCell ⟨x,0,none⟩ (.int .i64 3)=E at q⊢;clear B f0;refine(lD q.o.ri c.o).mono ?_;rintro e v ⟨rfl,h,g⟩;have r:=q.o.call h g;have cc:=r.lq.at_ 8 (.string ⟨#[]⟩) rfl;have F:v.frozen? ⟨x,8,none⟩=false:=r.lq.free 8;have k:qv (fN W0 b lv ts m x (qC {aB with kind:=3,name:=a} vs vc (.slice none 0 0) (.slice none 0 0)) ⟨vs,sp,vc,cd,(.slice none 0 0),[],(.slice none 0 0),[]⟩ (v.setCell ⟨x,8,none⟩ (.string a))):=r.set 8 (.string a);clear h g r q;go_wp2_with fail;go_end0;refine⟨rfl,.slice none 0 0,?_⟩;have e:df {aB with ah:=sp,aq:=cd} st=({aB with ah:=sp,aq:=cd,kind:=3,name:=a},m):=by
  unfold df;simp only[f.o,i.o,l.o,A.o,c.o,th,if_false,if_true]
 rw[e];exact k.o
theorem Fg{sp:List aK}{cd:List bW}(h:fN W0 b lv ts st x (qC aB vs vc (.slice none 0 0) (.slice none 0 0)) ⟨vs,sp,vc,cd,(.slice none 0 0),[],(.slice none 0 0),[]⟩ W)(hr:aO bH st=false)(hs:aO fZ st=false)(hd:aO bR st=false):
  Calls prog 23 #[.pointer (some ⟨b,0,none⟩),.pointer (some ⟨x,0,none⟩)] W fun e W'=>e=.returned (.tuple #[])/\∃vi,fN W0 b lv ts (df {aB with ah:=sp,aq:=cd} st).2 x (qC (df {aB with ah:=sp,aq:=cd} st).1 vs vc vi (.slice none 0 0)) ⟨vs,sp,vc,cd,vi,(df {aB with ah:=sp,aq:=cd} st).1.af,(.slice none 0 0),[]⟩ W':=by
 have L:=p9 hr;have M:=p9 hs;have K:=p9 hd;clear hr hs hd;have HI:=p9 h;clear h;go_enter func23,ntmps23
 go_wp2_with fail;refine(has HI.o.ri bH false L.o).mono ?_;rintro e P1 ⟨rfl,h,g⟩;rw[eG L.o] at h;have H0:=p9 (HI.o.call h g);clear h g HI;go_wp2_with fail;refine(has H0.o.ri fZ false M.o).mono ?_;rintro e P2 ⟨rfl,h,g⟩;rw[eG M.o] at h;have H1:=p9 (H0.o.call h g);clear h g H0;go_wp2_with fail;refine(has H1.o.ri bR false K.o).mono ?_;rintro e P3 ⟨rfl,h,g⟩;rw[eG K.o] at h;have H2:=p9 (H1.o.call h g);clear h g H1;have c0:=H2.o.lq.at_ 0 (.int .i64 0) rfl;have f0:P3.frozen? ⟨x,0,none⟩=false:=H2.o.lq.free 0;have HK:qv (fN W0 b lv ts st x (qC {aB with kind:=4} vs vc (.slice none 0 0) (.slice none 0 0)) ⟨vs,sp,vc,cd,(.slice none 0 0),[],(.slice none 0 0),[]⟩ (P3.setCell ⟨x,0,none⟩ (.int .i64 4))):=H2.o.set 0 (.int .i64 4);clear H2;obtain⟨U,u⟩:∃sz,bG aW st=sz:=⟨_,rfl⟩;have N:=p9 u;go_wp2_with fail;generalize P3.setCell ⟨x,0,none⟩ (.int .i64 4)=Pk at HK⊢;clear c0 f0;refine(mI HK.o.ri aW).mono ?_;rintro e Q1 ⟨rfl,h,g⟩;rw[u] at h;have m:qv (fN W0 b lv ts U x (qC {aB with kind:=4} vs vc (.slice none 0 0) (.slice none 0 0)) ⟨vs,sp,vc,cd,(.slice none 0 0),[],(.slice none 0 0),[]⟩ Q1):=HK.o.call h g;clear h g u HK;obtain⟨V,v⟩:∃sz,bG bO U=sz:=⟨_,rfl⟩;have O:=p9 v;go_wp2_with fail;refine(mI m.o.ri bO).mono ?_;rintro e Q2 ⟨rfl,h,g⟩;rw[v] at h;have p:qv (fN W0 b lv ts V x (qC {aB with kind:=4} vs vc (.slice none 0 0) (.slice none 0 0)) ⟨vs,sp,vc,cd,(.slice none 0 0),[],(.slice none 0 0),[]⟩ Q2):=m.o.call h g;clear h g v m;obtain⟨a,X,E⟩:∃n sz,cI V=(n,sz):=⟨_,_,rfl⟩;have B:=p9 E;clear E;go_wp2_with fail;refine(lD p.o.ri B.o).mono ?_;rintro e Q3 ⟨rfl,h,g⟩;have i:=p.o.call h g;have cc:=i.lq.at_ 8 (.string ⟨#[]⟩) rfl;have T:Q3.frozen? ⟨x,8,none⟩=false:=i.lq.free 8;have j:qv (fN W0 b lv ts X x (qC {aB with kind:=4,name:=a} vs vc (.slice none 0 0) (.slice none 0 0)) ⟨vs,sp,vc,cd,(.slice none 0 0),[],(.slice none 0 0),[]⟩ (Q3.setCell ⟨x,8,none⟩ (.string a))):=i.set 8 (.string a);clear h g i p;obtain⟨Y,w⟩:∃sz,bG bN X=sz:=⟨_,rfl⟩;have P:=p9 w;go_wp2_with fail;generalize Q3.setCell ⟨x,8,none⟩ (.string a)=A5 at j⊢;clear cc T;refine(mI j.o.ri bN).mono ?_;rintro e Q4 ⟨rfl,h,g⟩;rw[w] at h;have q:qv (fN W0 b lv ts Y x (qC {aB with kind:=4,name:=a} vs vc (.slice none 0 0) (.slice none 0 0)) ⟨vs,sp,vc,cd,(.slice none 0 0),[],(.slice none 0 0),[]⟩ Q4):=j.o.call h g;clear h g w j;obtain⟨Z,y⟩:∃sz,bG jI Y=sz:=⟨_,rfl⟩;have Q:=p9 y;go_wp2_with fail;refine(mI q.o.ri jI).mono ?_;rintro e Q5 ⟨rfl,h,g⟩;rw[y] at h;have r:qv (fN W0 b lv ts Z x (qC {aB with kind:=4,name:=a} vs vc (.slice none 0 0) (.slice none 0 0)) ⟨vs,sp,vc,cd,(.slice none 0 0),[],(.slice none 0 0),[]⟩ Q5):=q.o.call h g;clear h g y q;obtain⟨c,A0,F⟩:∃n sz,fA Z=(n,sz):=⟨_,_,rfl⟩;have C:=p9 F;clear F;go_wp2_with fail;refine(Cs r.o.ri C.o).mono ?_;rintro e Q6 ⟨rfl,h,g⟩;have i:=r.o.call h g;have cc:=i.lq.at_ 13 (.string ⟨#[]⟩) rfl;have T:Q6.frozen? ⟨x,13,none⟩=false:=i.lq.free 13;have k:qv (fN W0 b lv ts A0 x (qC {aB with kind:=4,name:=a,type:=c} vs vc (.slice none 0 0) (.slice none 0 0)) ⟨vs,sp,vc,cd,(.slice none 0 0),[],(.slice none 0 0),[]⟩ (Q6.setCell ⟨x,13,none⟩ (.string c))):=i.set 13 (.string c);clear h g i r;obtain⟨A1,z⟩:∃sz,bG dy A0=sz:=⟨_,rfl⟩;have R:=p9 z;go_wp2_with fail;generalize Q6.setCell ⟨x,13,none⟩ (.string c)=A6 at k⊢;clear cc T;refine(mI k.o.ri dy).mono ?_;rintro e Q7 ⟨rfl,h,g⟩;rw[z] at h;have s:qv (fN W0 b lv ts A1 x (qC {aB with kind:=4,name:=a,type:=c} vs vc (.slice none 0 0) (.slice none 0 0)) ⟨vs,sp,vc,cd,(.slice none 0 0),[],(.slice none 0 0),[]⟩ Q7):=k.o.call h g;clear h g z k;obtain⟨A2,A⟩:∃sz,bG bO A1=sz:=⟨_,rfl⟩;have S:=p9 A;go_wp2_with fail;refine(mI s.o.ri bO).mono ?_;rintro e Q8 ⟨rfl,h,g⟩;rw[A] at h;have t:qv (fN W0 b lv ts A2 x (qC {aB with kind:=4,name:=a,type:=c} vs vc (.slice none 0 0) (.slice none 0 0)) ⟨vs,sp,vc,cd,(.slice none 0 0),[],(.slice none 0 0),[]⟩ Q8):=s.o.call h g;clear h g A s;obtain⟨d,A3,G⟩:∃n sz,cI A2=(n,sz):=⟨_,_,rfl⟩;have D:=p9 G;clear G;go_wp2_with fail;refine(lD t.o.ri D.o).mono ?_;rintro e Q9 ⟨rfl,h,g⟩;have i:=t.o.call h g;have cc:=i.lq.at_ 14 (.string ⟨#[]⟩) rfl;have T:Q9.frozen? ⟨x,14,none⟩=false:=i.lq.free 14;have l:qv (fN W0 b lv ts A3 x (qC {aB with kind:=4,name:=a,type:=c,dest:=d} vs vc (.slice none 0 0) (.slice none 0 0)) ⟨vs,sp,vc,cd,(.slice none 0 0),[],(.slice none 0 0),[]⟩ (Q9.setCell ⟨x,14,none⟩ (.string d))):=i.set 14 (.string d);clear h g i t;obtain⟨H,f⟩:∃sz,bG bN A3=sz:=⟨_,rfl⟩;have I:=p9 f;go_wp2_with fail;generalize Q9.setCell ⟨x,14,none⟩ (.string d)=A7 at l⊢;clear cc T;refine(mI l.o.ri bN).mono ?_;rintro e A4 ⟨rfl,h,g⟩;rw[f] at h;have J:qv (fN W0 b lv ts H x (qC {aB with kind:=4,name:=a,type:=c,dest:=d} vs vc (.slice none 0 0) (.slice none 0 0)) ⟨vs,sp,vc,cd,(.slice none 0 0),[],(.slice none 0 0),[]⟩ A4):=l.o.call h g;clear h g f l;go_wp2_with fail;go_end0;refine⟨rfl,.slice none 0 0,?_⟩;have e:df {aB with ah:=sp,aq:=cd} st=({aB with ah:=sp,aq:=cd,kind:=4,name:=a,type:=c,dest:=d},H):=by
  unfold df By;simp only[L.o,M.o,K.o,N.o,O.o,B.o,P.o,Q.o,C.o,R.o,S.o,D.o,I.o,th,if_false]
 rw[e];exact J.o
theorem behind{sp:List aK}{cd:List bW}(h:fN W0 b lv ts st x (qC aB vs vc (.slice none 0 0) (.slice none 0 0)) ⟨vs,sp,vc,cd,(.slice none 0 0),[],(.slice none 0 0),[]⟩ W):
  Calls prog 23 #[.pointer (some ⟨b,0,none⟩),.pointer (some ⟨x,0,none⟩)] W fun e W'=>e=.returned (.tuple #[])/\∃vi,fN W0 b lv ts (df {aB with ah:=sp,aq:=cd} st).2 x (qC (df {aB with ah:=sp,aq:=cd} st).1 vs vc vi (.slice none 0 0)) ⟨vs,sp,vc,cd,vi,(df {aB with ah:=sp,aq:=cd} st).1.af,(.slice none 0 0),[]⟩ W':=by
 cases a:aO bH st with
 | true=>exact Ga h a
 | false=>
  cases c:aO fZ st with
  | true=>exact JF h a c
  | false=>
   cases d:aO bR st with
   | true=>exact Kq h a c d
   | false=>exact Fg h a c d
end
end Go.Proofs.YtbfmmmjkjhjleaaGreatDoor
