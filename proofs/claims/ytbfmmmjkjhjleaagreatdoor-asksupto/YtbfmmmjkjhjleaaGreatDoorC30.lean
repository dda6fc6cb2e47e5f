/- Mine. -/
import Derived.Test.YtbfmmmjkjhjleaaGreatDoorC25
import Derived.Test.YtbfmmmjkjhjleaaGreatDoorC06
set_option maxRecDepth 100000
set_option maxHeartbeats 0
namespace Go.Proofs.YtbfmmmjkjhjleaaGreatDoor
open Go.Proofs.Tryz
variable {w W:World} {n b cp k:Nat} {ao:Option Addr} {P:Program} {D:DataW Unit} {xs:List Value} {ops:Array Oper} {rest:List Oper} {op:Oper} {a:Act} {Q:Exit->Act->World->Prop}
section
open Go.RowKit Go.Maps
def nz:Option Int->ByteArray
 | none=>⟨#[45]⟩
 | some n=>bP n
def To(v:Option Int):Prop:=∀n,v=some n->nY n
theorem sG{v:Option Int}(h:To v):(nz v).data.toList.length<=21:=by
 cases v with
 | none=>simp[nz]
 | some n=>
  have a:=h n rfl;have:=Lib.itoa_length_le n a.1 a.2
  simpa [nz,bP] using this
theorem Su{v:Option Int}(f:To v)(d:Fa W):Calls prog 136 #[.agg #[.bool v.isSome,.int .i64 (v.getD 0)]] W fun e W'=>e=.returned (.string (nz v))/\Below W.heap.size W W':=by
 have a:=p9 ((r5 W.heap.size W).alloc (rm _) (.cells #[.bool v.isSome,.int .i64 (v.getD 0)] 161));cases v with
 | none=>
  simp only[F1,F8] at a⊢;go_enter func136,ntmps136
  go_wp2_with fail;go_ret;exact⟨rfl,a.o⟩
 | some n=>
  simp only[B1,xp] at a⊢;have g:=p9 (Ig (f n rfl) (d.below a.o));clear f d;go_enter func136,ntmps136
  go_wp2_with fail;refine g.o.mono ?_;rintro e h ⟨rfl,c⟩;have b:=p9 (a.o.trans (c.mono a.o.size));clear c;go_wp2_with fail;go_ret;exact⟨rfl,b.o⟩
theorem MZ:∀(xs:List (List UInt8)),(∀x∈xs,x.length<=21)->(Lib.join xs [124]).length<=22*xs.length
 | [],_=>by simp[Lib.join_nil]
 | x::r,h=>by
  have hl:∀(l:List (List UInt8)),(∀x∈l,x.length<=21)->Lib.lens l<=21*l.length:=by
   intro l
   induction l with
   | nil=>intro _;simp[Lib.lens]
   | cons y l ih=>
    intro h;have h1:=h y zi;have a:=ih (fun x hx=>h x (D2 _ hx));simp only[Lib.lens,xd,List.sum_cons,vw] at a⊢;omega
  rw[Lib.join_length];have:=hl _ h;simp only[vw,yd] at this⊢;omega
def iG(n:Nat)(l:bY):ByteArray:=⟨(Lib.join (((l.take n).map nz).map (·.data.toList)) [124]).toArray⟩
def xO(l:bY):Prop:=l.length=6/\∀v∈l,To v
theorem Rb{f:List bY}(hs:dj W 12 (.slice ao f.length cp) f.length (f.flatMap gZ))(hl:f.length<=1000000)(A7:∀l∈f,xO l)(hn:1<=n/\n<=6)(ht:Fa W):
  Calls prog 87 #[.slice ao f.length cp,.int .i64 (n:Int)] W fun e W'=>(∃v,e=.returned v/\W'.ownsRow W.heap.size 9 1 v f.length (strs (f.map (iG n))))/\Below W.heap.size W W':=by
 obtain⟨i1,G,R,S,T⟩:=info_parts Tryz.gV;have HS:=p9 hs;have Ae:=p9 A7;have HT:=p9 ht;have At:=hn.1;have Au:=hn.2;clear hs A7 ht hn;go_enter func87,ntmps87
 go_upto_region 2 with (first|(at_make;refine wpList_make_own _ rfl _ _ 34 rfl W.heap.size 9 i1 (.string ⟨#[]⟩) 1 underlying34 G R S _ _ _ f.length rfl rfl rfl (by rw[T];omega) (by unfold maxLen;omega) (rm _) ?_;intro w1 K a;have Z:=p9 K;have s:=p9 a;clear K a)|go_in)
 have V:qv (Below W.heap.size W w1):=p9 ⟨s.o.os,s.o.tape,s.o.output,s.o.size,fun k hk=>s.o.block k hk (by simp)⟩;clear s;go_wp2_with fail;go_loopg [5,16] f.length (fun c lv iv w=>∃k:Nat,iv=.int .i64 (k:Int)/\k+c=f.length/\w.ownsRow W.heap.size 9 1 lv k (strs ((f.take k).map (iG n)))/\Below W.heap.size W w)
 case atStart=>exact⟨0,rfl,by omega,Z.o,V.o⟩
 case round=>
  obtain⟨k,rfl,hk,ho,u⟩:=hrel;have HO:=p9 ho;have J:=p9 u;clear ho u Z V;by_cases P:k<f.length
  ·have Am:(k:Int)<(f.length:Int):=by omega
   obtain⟨g,oo,rfl,q⟩:=bC (l:=f) gZ (fun _=>rfl) (HS.o.below J.o) P;obtain⟨y,hy⟩:∃y,f[k]=y:=⟨_,rfl⟩;have M:=p9 (Ae.o y (by rw[<-hy];exact sT P));have Ag:qv (f.take (k+1)=f.take k++[y]):=p9 (by rw[tt,r6 P,hy];rfl);rw[hy] at q;clear hy;have A4:qv (wr.rangeAt g (oo+k*12) (fM y).toList):=p9 (fun j v I=>by
    have G:j<12:=by
     rcases ua j 12 with h|h
     ·exact h
     ·rw[x7 (by simpa [fM] using h)] at I;cases I
    have:=q j G;rw[this];exact I)
   clear q;have E:=p9 (Loc.new wr (fM eQ) 163);rw[GQ] at E;go_upto_region 5 with (first|(refine wpList_load_mid rfl 163 _ rfl g (oo+k*12) rfl (fM y).toList _ A4.o underlying163 rfl (by rw[Tryz.jV];rfl) ?_;simp only[DI])|(refine wpList_store_mid rfl 163 _ _ rfl wr.heap.size 0 (fM y) rfl rfl E.o.there Tryz.jV (wS _) ?_))
   have HY:=p9 (E.o.fC (new:=fM y) rfl);have m:=p9 (((J.o.alloc J.o.size (.cells #[.bool false,.int .i64 0,.bool false,.int .i64 0,.bool false,.int .i64 0,.bool false,.int .i64 0,.bool false,.int .i64 0,.bool false,.int .i64 0] 163)).grown (aU wr.heap.size (fM y).toList 0 _) (by simp;have:=J.o.size;omega) (fun j G=>by injection G with G;rw[<-G];exact J.o.size)));have F:=p9 ((HO.o.alloc (.cells #[.bool false,.int .i64 0,.bool false,.int .i64 0,.bool false,.int .i64 0,.bool false,.int .i64 0,.bool false,.int .i64 0,.bool false,.int .i64 0] 163)).kept (aU wr.heap.size (fM y).toList 0 _) (a6 (fun e=>by have:=(HO.o.lt _ e).2;omega)));obtain⟨Y,hY⟩:∃Y,Y=wr.heap.size:=⟨_,rfl⟩;have Aq:qv (W.heap.size<=Y):=p9 (by rw[hY];exact J.o.size);rw[<-hY] at HY m F⊢;clear hY E A4 HO J;generalize (wr.alloc (.cells #[.bool false,.int .i64 0,.bool false,.int .i64 0,.bool false,.int .i64 0,.bool false,.int .i64 0,.bool false,.int .i64 0,.bool false,.int .i64 0] 163)).setCells Y 0 (fM y).toList=W2 at HY m F⊢;have Av:(n:Int)<=6:=by omega
   go_upto_region 7 with fail;obtain⟨gO,Aj⟩:∃gO,gO=gk:=⟨_,rfl⟩;subst Aj;go_loopg [8,23] n (fun c vv jv w=>∃j:Nat,jv=.int .i64 (j:Int)/\j+c=n/\w.ownsRow W2.heap.size 9 1 vv j (strs ((y.take j).map nz))/\Below W2.heap.size W2 w)
   case atStart=>exact⟨0,rfl,by omega,tj _ _ _ _,r5 _ _⟩
   case round=>
    obtain⟨j,rfl,Ar,ho,u⟩:=hrel;have t:=p9 ho;have p:=p9 u;have X:=p9 M.o.1;clear ho u;by_cases As:j<n
    ·have Al:(j:Int)<(n:Int):=by omega
     have U:=HY.o.grown (ag p.o none) (by simp);obtain⟨x,z⟩:∃x,jm y j=x:=⟨_,rfl⟩;have Q:y[j]?=some x:=by
      rw[<-z];unfold jm;rw[r6 (by have:=X.o;omega)]
      rfl
     have Ah:=p9 (M.o.2 x (zs Q));have Af:qv (y.take (j+1)=y.take j++[x]):=p9 (by rw[tt,Q];rfl);have x0:wr.cell? ⟨Y,j*2,none⟩=some (.bool x.isSome):=(U.cell (j*2)).trans ((jR (by omega)).1.trans (by rw[<-z];rfl));have x1:wr.cell? ⟨Y,j*2+1,none⟩=some (.int .i64 (x.getD 0)):=(U.cell (j*2+1)).trans ((jR (by omega)).2.trans (by rw[<-z];rfl));have B:=p9 (p.o.alloc p.o.size (.cells #[.bool x.isSome,.int .i64 (x.getD 0)] 161));have A0:=p9 (t.o.alloc (.cells #[.bool x.isSome,.int .i64 (x.getD 0)] 161));have A5:=p9 (Su Ah.o (HT.o.below (m.o.trans (B.o.mono m.o.size))));clear U z Q p t;go_wp2_with fail;refine A5.o.mono ?_;rintro e W4 ⟨rfl,N⟩;have C:=p9 (B.o.trans (N.mono B.o.size));have A1:=p9 (A0.o.kept (ag N none) (by cases (Value.ownBlock _)<;>simp));clear N x0 x1 B A0 A5;go_wp2_with (at_builtin;go_must (refine wpList_append_own _ rfl _ _ 34 rfl W2.heap.size 9 i1 (.string ⟨#[]⟩) 1 16 underlying34 G R S T rfl (by decide) _ _ _ rfl (A1.o.alloc _) ⟨W4.heap.size,0,none⟩ 1 1 [.string (nz x)] rfl rfl (World.news_of_block (heap_alloc_new W4 _)) (by simp[Value.oneCell']) (by unfold maxLen;omega) (by omega) (by have:=C.o.size;simp;omega) ?_);intro v' w5 d a _;have Ac:=p9 d;have A9:=p9 a;clear d a)
     go_roundg (gk - 1)
     case rel=>
      refine⟨j+1,by simp,by omega,?_,?_⟩
      ·rw[Af.o,vb]
       simpa [strs] using Ac.o
      ·exact(C.o.alloc C.o.size _).grown A9.o (by have:=C.o.size;simp;omega) (fun b u=>((A1.o.alloc (.cells #[.string (nz x)] 9)).lt b u).1)
     case measure=>omega
    ·have Al:¬(j:Int)<(n:Int):=by omega
     obtain rfl:j=n:=by omega
     obtain⟨A,H⟩:∃A,(y.take j).map nz=A:=⟨_,rfl⟩;have Ao:A.length=j:=by rw[<-H];simp;have:=X.o;omega
     have A8:(Lib.join (A.map (·.data.toList)) [124]).length<=140737488355328:=by
      rw[<-H];refine r8 (MZ _ (fun x z=>?_)) (by simp;omega);obtain⟨b,u,rfl⟩:=List.mem_map.1 z;obtain⟨v,I,rfl⟩:=List.mem_map.1 u;exact sG (M.o.2 v (List.mem_of_mem_take I))
     have Ab:qv (iG j y=⟨(Lib.join (A.map (·.data.toList)) [124]).toArray⟩):=p9 (by unfold iG;rw[H]);rw[H] at t;have r:=t.o;rcases r.2 with ⟨_,h0⟩|⟨gw,cw,fL,I,Ai,A6,An,_⟩
     ·exact absurd h0 (by omega)
     have HJ:qv (Calls prog 114 #[u8,.string ⟨#[124]⟩] wr fun e w'=>e=.returned (.string ⟨(Lib.join (A.map (·.data.toList)) [124]).toArray⟩)/\Below wr.heap.size wr w'):=by
      show Calls _ _ _ _ _;rw[I,<-Ao];refine Tryz.strings_Join gw 0 cw A ⟨#[124]⟩ wr (fun i x z=>?_) (lt_of_block A6) (by omega) (by omega) A8;have Ak:(strs A)[i]?=some (.string x):=by unfold strs;rw[F0,z];rfl
      have Ap:i<A.length:=by
       by_cases h:i<A.length
       ·exact h
       ·rw[x7 (by omega)] at z;cases z
      rw[tH,<-Ak];rw[I] at r;exact r.cellAt i (by omega)
     have L:=p9 (m.o.trans (p.o.mono m.o.size));have A3:=p9 (F.o.kept (ag p.o none) (by cases (Value.ownBlock _)<;>simp));clear r I Ai A6 An A8;go_wp2_with fail;refine HJ.o.mono ?_;rintro e W6 ⟨rfl,O⟩;have D:=p9 (L.o.trans (O.mono L.o.size));have A2:=p9 (A3.o.kept (ag O none) (by cases (Value.ownBlock _)<;>simp));rw[<-Ab.o];clear O HJ L A3 m F p t;go_wp2_with (at_builtin;go_must (refine wpList_append_own _ rfl _ _ 34 rfl W.heap.size 9 i1 (.string ⟨#[]⟩) 1 16 underlying34 G R S T rfl (by decide) _ _ _ rfl (A2.o.alloc _) ⟨W6.heap.size,0,none⟩ 1 1 [.string (iG j y)] rfl rfl (World.news_of_block (heap_alloc_new W6 _)) (by simp[Value.oneCell']) (by unfold maxLen;omega) (by omega) (by have:=D.o.size;simp;omega) ?_);intro v' w7 d a _;have Ad:=p9 d;have Aa:=p9 a;clear d a)
     go_roundg (gO - 1)
     case rel=>
      refine⟨k+1,by simp,by omega,?_,?_⟩
      ·rw[Ag.o,vb]
       simpa [strs] using Ad.o
      ·exact(D.o.alloc D.o.size _).grown Aa.o (by have:=D.o.size;simp;omega) (fun b u=>((A2.o.alloc (.cells #[.string (iG j y)] 9)).lt b u).1)
     case measure=>omega
  ·have Am:¬(k:Int)<(f.length:Int):=by omega
   obtain rfl:k=f.length:=by omega
   go_wp2_with fail;go_ret;exact⟨⟨_,rfl,by have:=HO.o;rwa [uB (rm _)] at this⟩,J.o⟩
def qd(l:bY):Lit:=.string (keyBytes [.bool (jm l 0).isSome,.int .i64 ((jm l 0).getD 0),.bool (jm l 1).isSome,.int .i64 ((jm l 1).getD 0),.bool (jm l 2).isSome,.int .i64 ((jm l 2).getD 0),.bool (jm l 3).isSome,.int .i64 ((jm l 3).getD 0),.bool (jm l 4).isSome,.int .i64 ((jm l 4).getD 0),.bool (jm l 5).isSome,.int .i64 ((jm l 5).getD 0)])
theorem Lx:prog.keyType 163=true:=by kernel_rfl
theorem FR:prog.keyTypeAt 4 163=true:=by kernel_rfl
theorem QU:prog.tiled 4 163=true:=by kernel_rfl
theorem Nk:prog.cellsOf 163=12:=by kernel_rfl
theorem QD:prog.cellsOf 161=2:=by kernel_rfl
theorem O2:prog.cellsOf 4=1:=by kernel_rfl
theorem cellsIn:prog.cellsOf 3=1:=by kernel_rfl
theorem yw:Keyed prog 163:=Keyed.of_law (deep_law (m:=4) (Rf rfl) FR QU (by rw[underlying163]))
theorem Gp:∃m,prog.types.size=m+1+1:=by
 have h:Nat.ble 2 prog.types.size=true:=by kernel_rfl
 have:=Rf h;exact⟨prog.types.size - 2,by omega⟩
theorem DQ{n:Int}(h:nY n):(Lit.int .i64 n).wf=true:=WalkArith.wf_i64 h
theorem vM{l:bY}(h:xO l)(i:Nat):(Lit.int .i64 ((jm l i).getD 0)).wf=true:=by
 unfold jm;cases hi:l[i]? with
 | none=>exact DQ ⟨by decide,by decide⟩
 | some v=>
  cases v with
  | none=>exact DQ ⟨by decide,by decide⟩
  | some n=>exact DQ (h.2 (some n) (zs hi) n rfl)
theorem zM{l:bY}(h:xO l):keyOf prog 163 (.agg (fM l))=some (qd l):=by
 obtain⟨m,hm⟩:=Gp;have b:(Value.agg (fM l)).formed prog 163=true:=by simp[fM,Value.formed,underlying163,Nk]
 have c:=vM h 0;have d:=vM h 1;have f:=vM h 2;have g:=vM h 3;have i:=vM h 4;have j:=vM h 5;unfold keyOf;rw[underlying163];simp only[Lx,b,F9,if_true,hm];have a:(Value.agg (fM l)).cells.toList=[.bool (jm l 0).isSome,.int .i64 ((jm l 0).getD 0),.bool (jm l 1).isSome,.int .i64 ((jm l 1).getD 0),.bool (jm l 2).isSome,.int .i64 ((jm l 2).getD 0),.bool (jm l 3).isSome,.int .i64 ((jm l 3).getD 0),.bool (jm l 4).isSome,.int .i64 ((jm l 4).getD 0),.bool (jm l 5).isSome,.int .i64 ((jm l 5).getD 0)]:=rfl;rw[a];unfold qd;generalize jm l 0=a0 at*;generalize jm l 1=k at*;generalize jm l 2=a2 at*;generalize jm l 3=a3 at*;generalize jm l 4=a4 at*;generalize jm l 5=a5 at*;simp[Program.keyLits,underlying163,underlying161,underlying4,underlying3,Nk,QD,O2,cellsIn,c,d,f,g,i,j,List.range_succ]
theorem PZ{l k:bY}(q:l.length=6)(hk:k.length=6)(h:fM l=fM k):l=k:=by
 have two:∀{a b:Option Int},Value.bool a.isSome=Value.bool b.isSome->Value.int .i64 (a.getD 0)=Value.int .i64 (b.getD 0)->a=b:=by
  intro a b h1 c;injection h1 with h1
  injection c with _ c
  cases a<;>cases b<;>simp_all
 match l,q,k,hk with
 | [a0,a1,a2,a3,a4,a5],_,[b0,b1,b2,b3,b4,b5],_=>
  simp only[fM,Array.mk.injEq,List.cons.injEq] at h;obtain⟨m,g0,h1,g1,c,g2,n,g3,o,g4,p,g5,_⟩:=h;have e0:a0=b0:=two m g0;have d:a1=b1:=two h1 g1;have f:a2=b2:=two c g2;have g:a3=b3:=two n g3;have i:a4=b4:=two o g4;have j:a5=b5:=two p g5;rw[e0,d,f,g,i,j]
theorem Ex{l k:bY}(a:xO l)(hk:xO k)(h:qd l=qd k):l=k:=by
 have h1:=yw.inj (zM a) (by rw[h];exact zM hk);injection h1 with h1
 exact PZ a.1 hk.1 h1
structure j7(W:World)(b n:Nat)(D:DataW Unit)(c:bY->Option Int):Prop where
 own:W.ownsMap prog 163 (plainElem prog 3) b n D
 at_:∀l,xO l->Maps.has D (qd l)=(c l).isSome/\D.atKey (qd l) (.lit (.int .i64 0))=.lit (.int .i64 ((c l).getD 0))
 keys:∀k,Maps.has D k=true->∃l,xO l/\k=qd l
 only:∀l,(c l).isSome=true->xO l
theorem j7.made(W:World):j7 (W.alloc (.map #[] 0)) W.heap.size 0 (.map []) (fun _=>none):=
 ⟨World.ownsMap_made W _ _ _,fun _ _=>⟨rfl,rfl⟩,fun k hk=>(by cases hk),fun l hl=>(by cases hl)⟩
theorem j7.kept{W w:World}{b n:Nat}{D:DataW Unit}{c:bY->Option Int}{row:Option Nat}(h:j7 W b n D c)(d:W.grownBy w row)(a:some b≠row):j7 w b n D c:=⟨h.own.kept d a,h.at_,h.keys,h.only⟩
def nj(c:bY->Option Int)(l:bY)(v:Int):bY->Option Int:=fun k=>if k=l then some v else c k
theorem j7.put{W w:World}{b n:Nat}{D:DataW Unit}{c:bY->Option Int}{l:bY}{v:Int}(h:j7 W b n D c)(a:xO l)(g:w.ownsMap prog 163 (plainElem prog 3) b (n+1) (D.put (qd l) (.lit (.int .i64 v)))):j7 w b (n+1) (D.put (qd l) (.lit (.int .i64 v))) (nj c l v):=by
 have f:=h.own.isMap;refine⟨g,fun k hk=>?_,fun k hk=>?_,fun k hk=>?_⟩
 ·unfold nj;by_cases e:k=l
  ·subst e;rw[a8 rfl,has_put_same f (yw.key (zM a)),atKey_put_same f (yw.key (zM a))];exact⟨rfl,rfl⟩
  ·have d:qd k≠qd l:=fun h2=>e (Ex hk a h2);rw[bk e,has_put_other d,atKey_put_other d];exact h.at_ k hk
 ·by_cases e:k=qd l
  ·exact⟨l,a,e⟩
  ·rw[has_put_other e] at hk;exact h.keys k hk
 ·unfold nj at hk;split at hk
  ·rename_i e;rw[e];exact a
  ·exact h.only k hk
theorem j7.look{c:bY->Option Int}{l:bY}(h:j7 W b n D c)(f:xO l):(Instr.lookup 233 (.map (some b)) (.agg (fM l)) false).run prog W=.ok (.int .i64 ((c l).getD 0)) W:=by
 obtain⟨x,a,d,_⟩:=h.own.lookup_int yw underlying233 underlying3 (pj W) (zM f);have e:=d.symm.trans (h.at_ l f).2;obtain rfl:x=(c l).getD 0:=by {injection e with e;injection e}
 exact a
open Go.ChangeMaps
theorem qF{t:TypeId}{i clock:Nat}{es:Array MapEntry}{s:Int}{value:Value}(a:w.heap[b]?=some (.map es clock))(c:es.findIdx? (fun x=>(x.born:Int)==s)=some i):
  (Instr.entryStore t (.map (some b)) (.int .i64 s) value).run P w=.ok () (setBlock w b (.map (es.modify i (fun x=>{x with val:=value})) clock)):=by
 simp[Instr.entryStore,MapKept.run_getObj_map a,asInt,asIntOf,c,MapKept.run_setObj_map _ a,Result.andThen,setBlock]
theorem rh(w:World)(b:Nat)(o a:Obj):setBlock (setBlock w b o) b a=setBlock w b a:=by simp[setBlock]
theorem LG{H:Type}{t k e:TypeId}{R:Value->Option (DataW H × List MemPlace)}{D:DataW H}(h:w.ownsMap P k R b n D)(K:Keyed P k)(m:P.underlying t=some (.map k e)){z:Value}(I:∀w',(zeroValue e).run P w'=.ok z w'){key:Value}{Q:Lit}(a:keyOf P k key=some Q):
  ∃v s w1,(Instr.mapEntry t (.map (some b)) key).run P w=.ok (.tuple #[v,.int .i64 s]) w1/\(∀value w2,(Instr.mapUpdate t (.map (some b)) key value).run P w=.ok () w2->(Instr.entryStore t (.map (some b)) (.int .i64 s) value).run P w1=.ok () w2)/\(w1=w\/((Instr.mapUpdate t (.map (some b)) key z).run P w=.ok () w1/\(Instr.lookup t (.map (some b)) key false).run P w=.ok z w)):=by
 obtain⟨es,clock,c,F,_,rfl⟩:=h;rcases K.find w a es.toList F.keys with ⟨h1,o⟩|⟨j,e0,h1,o,r⟩
 ·have G:=F.stamped;refine⟨z,clock,setBlock w b (.map (es.push ⟨key,z,clock⟩) (clock+1)),?_,fun value w2 hu=>?_,a6 ⟨?_,?_⟩⟩
  ·simp[Instr.mapEntry,run_underlying m,MapKept.run_getObj_map c,K.check w false a,h1,I,MapKept.run_setObj_map _ c,Result.andThen,setBlock,goInt]
  ·have l:w2=setBlock w b (.map (es.push ⟨key,value,clock⟩) (clock+1)):=by
    simp[Instr.mapUpdate,run_underlying m,MapKept.run_getObj_map c,K.check w false a,h1,MapKept.run_setObj_map _ c,Result.andThen] at hu;rw[<-hu]
    rfl
   have g:(setBlock w b (.map (es.push ⟨key,z,clock⟩) (clock+1))).heap[b]?=some (.map (es.push ⟨key,z,clock⟩) (clock+1)):=heap_setBlock_same c _;have A:(es.push ⟨key,z,clock⟩).findIdx? (fun x=>(x.born:Int)==(clock:Int))=some es.size:=by
    rw[Array.findIdx?_eq_some_iff_getElem];refine⟨by simp,by simp,fun i hi=>?_⟩;have O:=G.1 es[i] (by simp);rw[Array.getElem_push_lt hi];simp;omega
   have hm:(es.push ⟨key,z,clock⟩).modify es.size (fun x=>{x with val:=value})=es.push ⟨key,value,clock⟩:=by
    apply Array.ext
    ·simp
    ·intro i h1 o;rw[Array.getElem_modify];by_cases d:es.size=i
     ·subst d;simp
     ·have:i<es.size:=by simp at o;omega
      simp[d,Array.getElem_push_lt this]
   rw[l,qF g A,hm,rh]
  ·simp[Instr.mapUpdate,run_underlying m,MapKept.run_getObj_map c,K.check w false a,h1,MapKept.run_setObj_map _ c,Result.andThen,setBlock]
  ·rcases Maps.fit_look false K m (I w) c F a with ⟨p,_⟩|⟨d,y,hm,hk,_⟩
   ·exact p
   ·exact absurd hk (o d hm)
 ·have G:=F.stamped;have B:es[j]?=some e0:=by simpa using o
  obtain⟨C,f⟩:=Array.getElem?_eq_some_iff.1 B;have q:=K.stays w a;have p9:es.modify j (fun x=>{x with key:=key})=es:=by
   apply Array.ext
   ·simp
   ·intro i L u;rw[Array.getElem_modify];by_cases d:j=i
    ·subst d;rw[a8 rfl,f,<-r]
    ·simp[d]
  refine⟨e0.val,e0.born,setBlock w b (.map es clock),?_,fun value w2 hu=>?_,ad ?_⟩
  ·simp[Instr.mapEntry,run_underlying m,MapKept.run_getObj_map c,K.check w false a,h1,B,r,q,p9,MapKept.run_setObj_map _ c,Result.andThen,setBlock,goInt]
  ·have l:w2=setBlock w b (.map (es.modify j (fun x=>{x with key:=key,val:=value})) clock):=by
    simp[Instr.mapUpdate,run_underlying m,MapKept.run_getObj_map c,K.check w false a,h1,B,r,q,MapKept.run_setObj_map _ c,Result.andThen] at hu;rw[<-hu]
    rfl
   have g:(setBlock w b (.map es clock)).heap[b]?=some (.map es clock):=heap_setBlock_same c _;have A:es.findIdx? (fun x=>(x.born:Int)==(e0.born:Int))=some j:=by
    rw[Array.findIdx?_eq_some_iff_getElem];refine⟨C,by simp[f],fun i hi=>?_⟩;have E:=G.2.1;intro d;have J:(es[i]'(by omega)).born=e0.born:=by
     have S:((es[i]'(by omega)).born:Int)=(e0.born:Int):=by simpa using d
     omega
    have M:=(List.pairwise_iff_getElem.1 E) i j (by simp;omega) (by simp;omega) hi;simp[J,f] at M
   have hm:es.modify j (fun x=>{x with val:=value})=es.modify j (fun x=>{x with key:=key,val:=value}):=by
    apply Array.ext
    ·simp
    ·intro i L u;rw[Array.getElem_modify,Array.getElem_modify];by_cases d:j=i
     ·subst d;rw[a8 rfl,a8 rfl,f,<-r]
     ·simp[d]
   rw[l,qF g A,hm,rh]
  ·have N:w.heap.setIfInBounds b (.map es clock)=w.heap:=by
    apply Array.ext_getElem?;intro i;rw[uc];split
    ·rename_i d;subst d;split
     ·exact c.symm
     ·rename_i u;exact absurd (Array.getElem?_eq_some_iff.1 c).1 u
    ·rfl
   unfold setBlock;rw[N]
end
section
open Go.RowKit Go.Maps
theorem Tryz.PN(args:Array Value)(w:World):(callFunc 131 args).run prog w=.ok (.enter 131 args) w:=by go_simp
theorem Iw{α:Type}{a b:α}{c:World}(h:(Result.ok a w:Result α)=.ok b c):a=b/\w=c:=by
 injection h with h1 d
 exact⟨h1,d⟩
theorem int_inj{a b:Int}(h:Value.int .i64 a=.int .i64 b):a=b:=by injection h
def dz(af:List aZ):bY->Option Int:=if af.any (fun x=>!(fi x)) then fun _=>none else nj (fun _=>none) eQ 0
def dm(c:bY->Option Int)(ls:List bY):bY->Option Int:=ls.foldl (fun c l=>nj c l ((c l).getD 0+1)) c
theorem yJ:xO eQ:=⟨rfl,fun v hv n hn=>by
 simp[eQ] at hv;subst hv;cases hn⟩
theorem wb(c:bY->Option Int)(a:List bY)(l:bY):dm c (a++[l])=nj (dm c a) l ((dm c a l).getD 0+1):=by
 unfold dm;rw[L3]
 rfl
theorem mK(af:List aZ)(l:bY):(dz af l).getD 0=0:=by
 unfold dz;split
 ·rfl
 ·unfold nj;split<;>rfl
theorem pu(af:List aZ):∀(a:List bY) (c:bY->Option Int) (m:Nat),(∀l,0<=(c l).getD 0/\(c l).getD 0<=m)->∀l,0<=(dm c a l).getD 0/\(dm c a l).getD 0<=(m+a.length:Nat)
 | [],c,m,h,l=>by simpa [dm] using h l
 | x::r,c,m,h,l=>by
  have h2:=pu af r (nj c x ((c x).getD 0+1)) (m+1) (fun k=>by
   unfold nj;split
   ·have:=h x;simp only[xp];omega
   ·have:=h k;omega) l
  have e:dm c (x::r)=dm (nj c x ((c x).getD 0+1)) r:=rfl;rw[e];simp only[vw];omega
def gQ(af:List aZ)(l:bY)(n:Int):bY:=(List.range 6).map fun i=>if (af[i]?).elim false fi then some n else jm l i
def im(af:List aZ)(l:bY)(n:Int)(k:Nat):bY:=(List.range 6).map fun i=>if i<k then (if (af[i]?).elim false fi then some n else jm l i) else jm l i
theorem C1(af:List aZ)(l:bY)(n:Int)(k:Nat):(im af l n k).length=6:=by simp[im]
theorem BE(af:List aZ){l:bY}(n:Int)(g:l.length=6):im af l n 0=l:=by
 match l,g with
 | [a,b,c,d,e,f],_=>rfl
theorem EV(af:List aZ)(l:bY)(n:Int):im af l n af.length=gQ af l n:=by
 unfold im gQ
 congr 1
 funext i
 split
 ·rfl
 ·rw[x7 (by omega)];rfl
theorem EE(af:List aZ)(l:bY)(n:Int)(hk:k<af.length)(b:fi af[k]=true):im af l n (k+1)=(im af l n k).set k (some n):=by
 refine LX (by simp[im]) fun i h1 h2=>?_;rw[List.getElem_set];simp only[im,DG,List.getElem_range];by_cases e:k=i
 ·subst e;rw[a8 (by omega),a8 rfl,r6 hk];simp[b]
 ·rw[bk e];by_cases a:i<k
  ·rw[a8 (by omega),a8 a]
  ·rw[bk (by omega),bk a]
theorem Fu(af:List aZ)(l:bY)(n:Int)(hk:k<af.length)(b:fi af[k]=false):im af l n (k+1)=im af l n k:=by
 unfold im;refine P4 fun i _=>?_;by_cases e:k=i
 ·subst e;rw[a8 (show k<k+1 by omega),r6 hk,bk (Nat.lt_irrefl k)];simp[b]
 ·by_cases a:i<k
  ·rw[a8 (by omega),a8 a]
  ·rw[bk (by omega),bk a]
theorem Gj{H:Type}{k:TypeId}{R:Value->Option (DataW H × List MemPlace)}{B i m:Nat}{D:DataW H}{T:TypeId}{v:Value}(h:w.ownsMap P k R b n D)(f:w.ownsRow B T i v m xs):some b≠v.ownBlock:=by
 obtain⟨es,c,d,_⟩:=h;rcases f.2 with ⟨rfl,_⟩|⟨g,cap,j,rfl,_,a,_⟩
 ·simp[Value.ownBlock]
 ·intro e;injection e with e
  subst e;rw[d] at a;cases a
theorem zP{x:Operand}(y v:Value)(c:op.guard=none)(d:op.op=.entry x)(f:a.eval x=y)(b:(Instr.entry y).run P w=.ok v w)(h:wpList P ops Q rest (a.put op.dst v) w):wpList P ops Q (op::rest) a w:=
 wpList_plain c fun _ hK=>by
  unfold Oper.wp execOp;simp only[d,f];rw[Sem.run_bind,b];exact hK _ _ h
theorem pR{x:Operand}{i:Nat}(vs:Array Value)(v:Value)(b:op.guard=none)(c:op.op=.extract x i)(f:a.eval x=.tuple vs)(d:vs[i]?=some v)(h:wpList P ops Q rest (a.put op.dst v) w):wpList P ops Q (op::rest) a w:=
 wpList_plain b fun _ hK=>by
  unfold Oper.wp execOp;simp only[c,f,Instr.extract,d];exact hK _ _ h
theorem uV(b:op.guard=none)(c:op.op=.alloc 163)(h:wpList prog ops Q rest (a.put op.dst (.pointer (some ⟨w.heap.size,0,none⟩))) (w.alloc (.cells (fM eQ) 163))):wpList prog ops Q (op::rest) a w:=
 wpList_plain b fun _ hK=>by
  unfold Oper.wp execOp;simp only[c];go_simp;exact hK _ _ h
theorem M1{key:Value}{a:Lit}(h:keyOf prog 163 key=some a):∃cs,key=.agg cs:=by
 cases key<;>first|exact⟨_,rfl⟩|(simp[keyOf,underlying163,Value.formed] at h)
theorem OO{ia:Option Addr}{ic:Nat}{f:List bY}{af:List aZ}(hr:W.ownsRow 0 163 12 (.slice ao f.length cp) f.length (f.flatMap gZ))(hs:dj W 2 (.slice ia af.length ic) af.length (af.flatMap kk))(Bq:∀w,Kept (fun b=>(Value.slice ao f.length cp).ownBlock=some b) W w->dj w 2 (.slice ia af.length ic) af.length (af.flatMap kk))(hl:f.length<=900000)(hi:af.length<=6)(By:∀l∈f,xO l):
  Calls prog 83 #[.slice ao f.length cp,.slice ia af.length ic] W fun e W'=>∃(v:Value) (O:List bY),e=.returned v/\W'.ownsRow 0 163 12 v O.length ((O.map fun l=>gQ af l ((dm (dz af) f l).getD 0)).flatMap gZ)/\O.Nodup/\(∀l,l∈O↔(dm (dz af) f l).isSome=true)/\Kept (fun k=>(Value.slice ao f.length cp).ownBlock=some k) W W'/\∀b,v.ownBlock=some b->(Value.slice ao f.length cp).ownBlock=some b\/W.heap.size<=b:=by
 obtain⟨i0,Cv,D6,D7,D8⟩:=info_parts Tryz.Ek;have D0:=@run_makeMap prog;have X:=p9 ((r5 W.heap.size W).alloc (rm _) (.map #[] 0));have Af:=p9 (j7.made W);have Aq:=p9 (D4 Tryz.PN (fun x w=>JZ x w) (hs.below X.o) (by omega));have HR:=p9 hr;have HS:=p9 hs;have Cj:=p9 Bq;have Cp:=p9 By;clear hr hs Bq By;go_enter func83,ntmps83
 go_upto_region 2 with fail;obtain⟨M,hM⟩:∃M,M=W.heap.size:=⟨_,rfl⟩;have HM:=p9 hM;rw[<-hM] at Af⊢;clear hM D0;generalize W.alloc (.map #[] 0)=W1 at X Af Aq⊢;go_wp2_with fail;refine Aq.o.mono ?_;rintro e W2 ⟨rfl,Av⟩;have C:=p9 (X.o.trans (Av.mono X.o.size));have r:=p9 (Af.o.kept (ag Av none) (by simp));clear Av X Af Aq;go_upto_if 15 with fail;go_cut [] (fun w=>∃n D,n<=1/\j7 w M n D (dz af)/\Below W.heap.size W w)
 case first=>
  cases ha:af.any (fun x=>!(fi x)) with
  | true=>
   have HE:qv (dz af=fun _=>none):=p9 (by unfold dz;rw[ha];rfl);go_wp2_with fail;go_meet;exact⟨0,_,by omega,by rw[HE.o];exact r.o,C.o⟩
  | false=>
   have HE:qv (dz af=nj (fun _=>none) eQ 0):=p9 (by unfold dz;rw[ha];rfl);obtain⟨w3,T,G,t⟩:=r.o.own.store yw underlying233 (by unfold maxLen;omega) (zM yJ) (plainElem_int underlying3 (a:=0) (by decide));have Cb:=p9 (r.o.put yJ G);have C8:=p9 (C.o.grown t.grown C.o.size (fun j F=>by injection F with F;rw[<-F,HM.o];exact rm _));rw[GQ] at T;clear G t;go_wp2_with fail;go_meet;exact⟨1,_,by omega,by rw[HE.o];exact Cb.o,C8.o⟩
 case rest=>
  obtain⟨n1,D1,Bv,Ay,Bj⟩:=hcut;have HC:=p9 Ay;have HB:=p9 Bj;have Bb:=p9 Bv;clear Ay Bj Bv C r;have Cd:qv (∀(k:Nat) (l:bY),k<=f.length->0<=(dm (dz af) (f.take k) l).getD 0/\(dm (dz af) (f.take k) l).getD 0<=900000):=p9 (fun k l hk=>by
   have h1:=pu af (f.take k) (dz af) 0 (fun l=>by rw[mK];omega) l;simp only[v8] at h1;omega)
  go_wp2_with fail;go_loopg [20] f.length (fun c iv w=>∃(k n:Nat) (D:DataW Unit),iv=.int .i64 (k:Int)/\k+c=f.length/\n<=k+1/\j7 w M n D (dm (dz af) (f.take k))/\Below W.heap.size W w)
  case atStart=>exact⟨0,n1,D1,rfl,by omega,by have:=Bb.o;omega,HC.o,HB.o⟩
  case round=>
   obtain⟨k,n,D,rfl,hk,hn,hc,m⟩:=hrel;have Z:=p9 hc;have u:=p9 m;clear hc m HC HB Bb;by_cases U:k<f.length
   ·have Cx:(k:Int)<(f.length:Int):=by omega
    have V:=HR.o.kept (ag u.o none) (by cases (Value.ownBlock _)<;>simp);obtain⟨g,oo,rfl,d⟩:=bC (l:=f) gZ (fun _=>rfl) (aJ V V.1) U;obtain⟨y,hy⟩:∃y,f[k]=y:=⟨_,rfl⟩;have L:=p9 (Cp.o y (by rw[<-hy];exact sT U));have Cr:qv (f.take (k+1)=f.take k++[y]):=p9 (by rw[tt,r6 U,hy];rfl);rw[hy] at d;clear hy V;have Bf:qv (wr.rangeAt g (oo+k*12) (fM y).toList):=p9 (fun j v hv=>by
     have F:j<12:=by
      rcases ua j 12 with h|h
      ·exact h
      ·rw[x7 (by simpa [fM] using h)] at hv;cases hv
     have:=d j F;rw[this];exact hv)
    clear d;have A:=p9 (Loc.new wr (fM eQ) 163);rw[GQ] at A;go_upto_region 7 with (first|(refine wpList_load_mid rfl 163 _ rfl g (oo+k*12) rfl (fM y).toList _ Bf.o underlying163 rfl (by rw[Tryz.jV];rfl) ?_;simp only[DI])|(refine wpList_store_mid rfl 163 _ _ rfl wr.heap.size 0 (fM y) rfl rfl A.o.there Tryz.jV (wS _) ?_))
    have R:=p9 (A.o.fC (new:=fM y) rfl);have C:=p9 (((u.o.alloc u.o.size (.cells #[.bool false,.int .i64 0,.bool false,.int .i64 0,.bool false,.int .i64 0,.bool false,.int .i64 0,.bool false,.int .i64 0,.bool false,.int .i64 0] 163)).grown (aU wr.heap.size (fM y).toList 0 _) (by simp;have:=u.o.size;omega) (fun j F=>by injection F with F;rw[<-F];exact u.o.size)));have r:=p9 ((Z.o.kept (aD wr (.cells #[.bool false,.int .i64 0,.bool false,.int .i64 0,.bool false,.int .i64 0,.bool false,.int .i64 0,.bool false,.int .i64 0,.bool false,.int .i64 0] 163) none) (by simp)).kept (aU wr.heap.size (fM y).toList 0 _) (by intro e;injection e with e;have:=Z.o.own.lt;omega));obtain⟨Y,hY⟩:∃Y,Y=wr.heap.size:=⟨_,rfl⟩;rw[<-hY] at R C r⊢;clear hY A Bf Z u;generalize (wr.alloc (.cells #[.bool false,.int .i64 0,.bool false,.int .i64 0,.bool false,.int .i64 0,.bool false,.int .i64 0,.bool false,.int .i64 0,.bool false,.int .i64 0] 163)).setCells Y 0 (fM y).toList=W3 at R C r⊢;have y0:=R.o.at_ 0 (lB y 0) rfl;have y1:=R.o.at_ 1 (lN y 0) rfl;have y2:=R.o.at_ 2 (lB y 1) rfl;have y3:=R.o.at_ 3 (lN y 1) rfl;have y4:=R.o.at_ 4 (lB y 2) rfl;have y5:=R.o.at_ 5 (lN y 2) rfl;have y6:=R.o.at_ 6 (lB y 3) rfl;have y7:=R.o.at_ 7 (lN y 3) rfl;have y8:=R.o.at_ 8 (lB y 4) rfl;have y9:=R.o.at_ 9 (lN y 4) rfl;have Di:=R.o.at_ 10 (lB y 5) rfl;have Dj:=R.o.at_ 11 (lN y 5) rfl;have J:qv (j7 W3.drew M n D (dm (dz af) (f.take k))):=p9 ⟨r.o.own.drew,r.o.at_,r.o.keys,r.o.only⟩;have Bk:=Cd.o k y (by omega);obtain⟨cy,Ak⟩:∃cy,(dm (dz af) (f.take k) y).getD 0=cy:=⟨_,rfl⟩;rw[Ak] at Bk;obtain⟨Ay,Dc⟩:=Bk;have N:=J.o.look L.o;rw[Ak] at N;obtain⟨vv,st,w4,Cz,Bo,C0⟩:=LG J.o.own yw underlying233 (fun w=>pj w) (zM L.o);obtain⟨w5,T,G,t⟩:=J.o.own.store yw underlying233 (by unfold maxLen;omega) (zM L.o) (plainElem_int underlying3 (a:=cy+1) (DQ ⟨by omega,by omega⟩));have Da:=Bo _ _ T;have Cc:qv (j7 w5 M (n+1) (D.put (qd y) (.lit (.int .i64 (cy+1)))) (dm (dz af) (f.take (k+1)))):=p9 (by rw[Cr.o,wb,Ak];exact J.o.put L.o G);have Ac:=p9 ((C.o.trans (⟨rfl,rfl,rfl,rm _,fun _ _=>rfl⟩:Below W.heap.size W3 W3.drew)).grown t.grown C.o.size (fun j F=>by injection F with F;rw[<-F,HM.o];exact rm _));have Df:IntKind.i64.wrap (cy+1)=cy+1:=by simp[IntKind.wrap,IntKind.bits,IntKind.signed];omega
    have Bu:(Instr.lookup 233 (.map (some M)) (.agg (fM y)) false).run prog w4=.ok (.int .i64 cy) w4:=by
     rcases C0 with rfl|⟨h1,s⟩
     ·exact N
     ·have s:cy=0:=int_inj (Iw (N.symm.trans s)).1;obtain⟨w6,D3,D2,_⟩:=J.o.own.store yw underlying233 (by unfold maxLen;omega) (zM L.o) (plainElem_int underlying3 (a:=0) (by decide));obtain rfl:=(Iw (h1.symm.trans D3)).2;have h7:=(J.o.put L.o D2).look L.o;unfold nj at h7;rw[a8 rfl] at h7;rw[h7,s]
      rfl
    unfold fM at N Bu Cz;clear Bo T G t J Ak C0;go_region
    all_goals
     go_wp2_with fail;go_roundg (gk - 1)
     case rel=>exact⟨k+1,n+1,_,by simp,by omega,by omega,Cc.o,Ac.o⟩
     case measure=>omega
   ·have Cx:¬(k:Int)<(f.length:Int):=by omega
    obtain rfl:k=f.length:=by omega
    obtain⟨cF,Az⟩:∃cF,dm (dz af) f=cF:=⟨_,rfl⟩;have A6:=Z.o;rw[uB (rm _),Az] at A6;have E:=p9 A6;have B4:=p9 Az;clear A6 Az Z;have V:=HR.o.kept (ag u.o none) (by cases (Value.ownBlock _)<;>simp);have HZ:=p9 (yh V);clear V;go_wp2_with (first
     | (at_range;refine wpList_range_own _ rfl _ 233 rfl 163 3 yw underlying233 _ M n D rfl E.o.own ?_;intro w0 Aa B0 C4)
     | go_in)
    obtain⟨I,hI⟩:∃I,I=wr.heap.size:=⟨_,rfl⟩;have HI:qv (W.heap.size<=I/\M≠I):=p9 ⟨by rw[hI];exact u.o.size,fun e=>by have:=E.o.own.lt;omega⟩;rw[<-hI] at Aa C4⊢;have Am:=p9 Aa;have B7:qv (Kept (fun b=>(Value.slice ao f.length cp).ownBlock=some b) W w0):=p9 (((Kept.refl _ W).below u.o).then B0 (by simp));have Bh:=p9 (HZ.o.kept B0 (by cases (Value.ownBlock _)<;>simp));clear hI Aa B0 C4 u HZ;have Ca:qv (∀b,(Value.slice ao 0 cp).ownBlock=some b->(Value.slice ao f.length cp).ownBlock=some b):=p9 (fun b m=>by cases ao<;>exact m);go_loopg [0] (Maps.size D) (fun c lv w=>∃(left:Lit->Bool) (O:List bY),w.ranges prog 163 (plainElem prog 3) M I n D left c/\O.length+c<=Maps.size D/\w.ownsRow 0 163 12 lv O.length ((O.map fun l=>gQ af l ((cF l).getD 0)).flatMap gZ)/\O.Nodup/\(∀l,l∈O↔(xO l/\Maps.has D (qd l)=true/\left (qd l)=false))/\Kept (fun b=>(Value.slice ao f.length cp).ownBlock=some b) W w/\(∀b,lv.ownBlock=some b->(Value.slice ao f.length cp).ownBlock=some b\/W.heap.size<=b))
    case atStart=>
     refine⟨_,[],Am.o,by simp,Bh.o,List.nodup_nil,fun l=>?_,B7.o,fun b m=>ad (Ca.o b m)⟩;constructor
     ·intro h;cases h
     ·rintro ⟨_,h1,s⟩;rw[h1] at s;cases s
    case round=>
     obtain⟨left,O,C3,Bs,Ap,Bw,An,A8,H⟩:=hrel;have HG:=p9 C3;have B8:=p9 Bs;have Q:=p9 Ap;have Bc:=p9 Bw;have A1:=p9 An;have K:=p9 A8;have A2:=p9 H;clear C3 Bs Ap Bw An A8 H Am B7 Bh;go_wp2_with (first
      | (at_next;refine wpList_next_ranges _ rfl _ rfl 163 yw (plainElem prog 3) Value.agg (Value.int .i64) (fun key kl S=>M1 S) (fun v y hv=>by obtain⟨c,rfl,_⟩:=plainElem_int_inv underlying3 hv;exact⟨c,rfl⟩) M I n D left gk rfl HG.o ?_ ?_)
      | go_in)
     ·intro Ct Bt;have Ck:=p9 Bt;clear Bt Ct;go_wp2_with fail;go_ret;refine⟨_,O,rfl,by rw[B4.o];exact Q.o,Bc.o,fun l=>?_,K.o,A2.o⟩;rw[B4.o,A1.o,Ck.o];constructor
      ·rintro ⟨h1,s,_⟩;rw[<-(E.o.at_ l h1).1];exact s
      ·intro h1;have s:=E.o.only l h1;exact⟨s,by rw[(E.o.at_ l s).1];exact h1,rfl⟩
     ·intro x c kl y1 y2 P Bi S N hv Aj Ao U B1 D5 Bn;obtain⟨l,Al,rfl⟩:=E.o.keys kl (has_true_of_atKey Aj);have hx:=yw.inj S (zM Al);injection hx with hx
      subst hx;obtain⟨c',ec,C7,C5⟩:=plainElem_int_inv underlying3 hv;injection ec with ek ec
      clear ek;subst ec;have Bm:(cF l).getD 0=c:=by
       have h1:=(E.o.at_ l Al).2.symm.trans ((Aj _).trans (congrArg Prod.fst C7));injection h1 with h1
       injection h1
      have Ce:=p9 Bm;have Ag:=p9 Al;have Cm:=p9 N;have B6:=p9 (has_true_of_atKey Aj);have B5:=p9 Ao;have Ba:=p9 U;have A3:=p9 (Q.o.kept B1 (a6 (Ne.symm (row_ne_iter Q.o HG.o))));have A0:=p9 (K.o.then B1 (fun b m=>by injection m with m;rw[<-m];exact a6 HI.o.1));have A:=p9 (Loc.new P (fM eQ) 163);rw[GQ] at A;clear Bm Al N Ao U B1 D5 hv Aj C7 S Q K;have Db:=p9 C5;clear C5;go_upto_region 12 with fail;refine wp_region_lit ?_;refine zP _ _ rfl rfl rfl Bn ?_;refine pR _ (.agg (fM l)) rfl rfl rfl rfl ?_;refine pR _ (.int .i64 c) rfl rfl rfl rfl ?_;refine uV rfl rfl ?_;rw[<-GQ] at A;go_simp;refine wpList_store_mid rfl 163 _ _ rfl P.heap.size 0 (fM l) rfl rfl A.o.there Tryz.jV (wS _) ?_;have Ah:=p9 (A.o.fC (new:=fM l) rfl);have Ac:qv (Below P.heap.size P ((P.alloc (.cells (fM eQ) 163)).setCells P.heap.size 0 (fM l).toList)):=p9 (((r5 P.heap.size P).alloc (rm _) (.cells (fM eQ) 163)).grown (aU P.heap.size (fM l).toList 0 _) (by simp) (fun j F=>by injection F with F;omega));obtain⟨Y,hY⟩:∃Y,Y=P.heap.size:=⟨_,rfl⟩;have Ai:qv (Y=P.heap.size):=p9 hY;have Cs:qv (im af l c 0=l):=p9 (BE af c Ag.o.1);rw[<-hY] at Ah⊢;have Ad:=Ac;rw[<-hY] at Ad;clear hY A Ac Bn;generalize (P.alloc (.cells (fM eQ) 163)).setCells Y 0 (fM l).toList=W5 at Ah Ad⊢;go_upto_region 14 with fail;obtain⟨gO,Cu⟩:∃gO,gO=gk:=⟨_,rfl⟩;subst Cu;go_loopg [42] af.length (fun c2 iv w=>∃j:Nat,iv=.int .i64 (j:Int)/\j+c2=af.length/\Below Y P w/\Loc w Y (fM (im af l c j)) 163)
      case atStart=>exact⟨0,rfl,by omega,Ad.o,by rw[Cs.o];exact Ah.o⟩
      case round=>
       obtain⟨j,rfl,F,m,C6⟩:=hrel;have At:=p9 m;have i:=p9 C6;have B:qv (Below P.heap.size P wr):=p9 (by rw[<-Ai.o];exact m);clear m C6 Ah Ad;by_cases B3:j<af.length
       ·have Cw:(j:Int)<(af.length:Int):=by omega
        have Dd:(j:Int)<6:=by omega
        obtain⟨g,oo,rfl,d⟩:=bC (l:=af) kk (fun _=>rfl) (Cj.o wr (A0.o.below B.o)) B3;obtain⟨z,hz⟩:∃z,af[j]=z:=⟨_,rfl⟩;have Be:=p9 (EE af l c B3);have Bd:=p9 (Fu af l c B3);rw[hz] at d Be Bd;clear hz;have p0:wr.cell? ⟨g,oo+j*2,none⟩=some (.string z.name):=d 0 (by decide);have p1:wr.cell? ⟨g,oo+j*2+1,none⟩=some (.string z.key):=d 1 (by decide);have hle:Y<=wr.heap.size:=by have h1:=Ai.o;have s:=At.o.size;omega
        have Ar:=p9 (At.o.alloc hle (.cells #[.string z.name,.string z.key] 129));have Bg:=p9 (i.o.alloc (.cells #[.string z.name,.string z.key] 129));clear d hle At i;go_wp2_with fail;refine(uk z _).mono ?_;rintro e W8 ⟨rfl,Aw⟩;have Ae:=p9 (Ar.o.trans (Aw.mono (by have h1:=Ai.o;have s:=Ar.o.size;omega)));have Au:=p9 (Bg.o.grown (ag Aw none) (by simp));clear Aw p0 p1 Ar Bg B;cases Bl:fi z with
        | true=>
         have HE:=p9 (Be.o Bl);go_wp2_with fail;refine(Bz _ _).mono ?_;rintro e W9 ⟨rfl,Ax⟩;have C9:=p9 (Ae.o.trans (Ax.mono (by have h1:=Ai.o;have s:=Ae.o.size;omega)));have A5:=p9 (Au.o.grown (ag Ax none) (by simp));clear Ax Ae Au;have r0:W9.cell? ⟨Y,j*2,none⟩=some (lB (im af l c j) j):=(A5.o.cell (j*2)).trans (jR (by omega)).1;have r1:W9.cell? ⟨Y,j*2+1,none⟩=some (lN (im af l c j) j):=(A5.o.cell (j*2+1)).trans (jR (by omega)).2;have f0:=A5.o.free (j*2);have f1:=A5.o.free (j*2+1);have Cn:=p9 ((A5.o.set (j*2) (.bool true)).set (j*2+1) (.int .i64 c));unfold eS;go_wp2_with fail;go_roundg (gk - 1)
         case rel=>
          refine⟨j+1,by simp,by omega,(C9.o.setCell (p:=⟨Y,j*2,none⟩) (rm _) _).setCell (p:=⟨Y,j*2+1,none⟩) (rm _) _,?_⟩;have e:=Cg (C1 af l c j) (show j<6 by omega) (some c);rw[HE.o,<-e];exact Cn.o
         case measure=>omega
        | false=>
         have HE:=p9 (Bd.o Bl);go_wp2_with fail;go_roundg (gk - 1)
         case rel=>exact⟨j+1,by simp,by omega,Ae.o,by rw[HE.o];exact Au.o⟩
         case measure=>omega
       ·have Cw:¬(j:Int)<(af.length:Int):=by omega
        obtain rfl:j=af.length:=by omega
        have Cq:=p9 (EV af l c);rw[Cq.o] at i;have Ch:=p9 (B5.o.kept (ag B.o none) (by simp) (by simp));have A4:=p9 (A3.o.kept (ag B.o none) (by cases (Value.ownBlock _)<;>simp));have B9:=p9 (A0.o.below B.o);obtain⟨q,hq⟩:∃q,gQ af l c=q:=⟨_,rfl⟩;have HQ:=p9 hq;rw[hq] at i;clear hq B A3 A0 B5;have q0:=i.o.at_ 0 (lB q 0) rfl;have q1:=i.o.at_ 1 (lN q 0) rfl;have q2:=i.o.at_ 2 (lB q 1) rfl;have q3:=i.o.at_ 3 (lN q 1) rfl;have q4:=i.o.at_ 4 (lB q 2) rfl;have q5:=i.o.at_ 5 (lN q 2) rfl;have q6:=i.o.at_ 6 (lB q 3) rfl;have q7:=i.o.at_ 7 (lN q 3) rfl;have q8:=i.o.at_ 8 (lB q 4) rfl;have q9:=i.o.at_ 9 (lN q 4) rfl;have Dg:=i.o.at_ 10 (lB q 5) rfl;have Dh:=i.o.at_ 11 (lN q 5) rfl;have De:O.length<=900002:=by have h1:=B8.o;have s:=E.o.own.size_le;omega
        go_wp2_with (at_builtin;go_must (refine wpList_append_lies _ rfl _ _ 158 rfl 0 163 i0 (.agg (fM eQ)) 12 96 underlying158 Cv D6 D7 D8 rfl (by decide) _ _ _ rfl (A4.o.alloc _) ⟨wr.heap.size,0,none⟩ 1 1 (gZ q) rfl rfl (World.news_of_block (heap_alloc_new wr _)) (xk q) (by omega) (by unfold maxLen;omega) (by omega) (tJ _) _ rfl ?_);intro g2 D9 w9 H A7 A9 _;have Co:=p9 H;have Ci:=p9 A7;have Cl:=p9 A9;clear H A7 A9)
        go_roundg Bi
        case rel=>
         have Ab:∀k:bY,xO k->(qd k).sameKey (qd l)=decide (k=l):=by
          intro k hk;by_cases e:k=l
          ·subst e;unfold qd;simp[Lit.sameKey]
          ·rw[decide_eq_false e];exact sameKey_ne (fun h=>e (Ex hk Ag.o h))
         have Bx:l ∉ O:=fun h=>by
          have h1:=((A1.o l).1 h).2.2;rw[Cm.o] at h1;cases h1
         have Bp:(wr.alloc (.cells #[lB q 0,lN q 0,lB q 1,lN q 1,lB q 2,lN q 2,lB q 3,lN q 3,lB q 4,lN q 4,lB q 5,lN q 5] 163)).grownBy w9 u0.ownBlock:=Ci.o;have Cy:u0.ownBlock=some g2\/g2=(wr.alloc (.cells #[lB q 0,lN q 0,lB q 1,lN q 1,lB q 2,lN q 2,lB q 3,lN q 3,lB q 4,lN q 4,lB q 5,lN q 5] 163)).heap.size:=Cl.o;have B2:=Ch.o.kept (aD wr (.cells #[lB q 0,lN q 0,lB q 1,lN q 1,lB q 2,lN q 2,lB q 3,lN q 3,lB q 4,lN q 4,lB q 5,lN q 5] 163) none) (by simp) (by simp);have C2:=A4.o.alloc (.cells #[lB q 0,lN q 0,lB q 1,lN q 1,lB q 2,lN q 2,lB q 3,lN q 3,lB q 4,lN q 4,lB q 5,lN q 5] 163);have Br:=B9.o.below ((r5 wr.heap.size wr).alloc (rm _) (.cells #[lB q 0,lN q 0,lB q 1,lN q 1,lB q 2,lN q 2,lB q 3,lN q 3,lB q 4,lN q 4,lB q 5,lN q 5] 163));refine⟨_,O++[l],B2.kept Bp (Gj B2.owns C2) (row_ne_iter C2 B2),?_,?_,?_,fun k=>?_,Br.then Bp (fun b m=>A2.o b m),fun b m=>?_⟩
         ·have h1:=Ba.o;have s:=B8.o;rw[r7];simp only[x6];omega
         ·rw[r7,vb,As];simp only[xd,Cf,vz,List.flatMap_nil,x8,x6,Ce.o,HQ.o];exact Co.o
         ·exact List.nodup_append.2 ⟨Bc.o,by simp,fun a ha b m=>by simp at m;subst m;exact fun e=>Bx (e▸ha)⟩
         ·rw[Is,vA,A1.o];constructor
          ·rintro (⟨h1,s,h3⟩|rfl)
           ·exact⟨h1,s,by simp[h3]⟩
           ·exact⟨Ag.o,B6.o,by rw[Ab _ Ag.o];simp⟩
          ·rintro ⟨h1,s,h3⟩;rw[Ab k h1] at h3;by_cases e:k=l
           ·exact a6 e
           ·simp[e] at h3;exact ad ⟨h1,s,h3⟩
         ·injection m with m
          have m:g2=b:=m;rcases Cy with s|s
          ·exact A2.o b (by rw[s,m])
          ·refine a6 ?_;have h3:=Br.size;omega
        case measure=>exact Ba.o
def jC(skip aX:Int)(ls:List bY):List bY:=if aX<0 then ls.drop skip.toNat else (ls.drop skip.toNat).take aX.toNat
theorem Bh:∀(a:List bY) (k:Nat),(a.flatMap gZ).drop (k*12)=(a.drop k).flatMap gZ
 | [],k=>by simp
 | l::r,0=>by simp
 | l::r,k+1=>by
  rw[vz,show (k+1)*12=(gZ l).length+k*12 by simp[gZ];omega,List.drop_length_add_append,List.drop_succ_cons,<-Bh r k]
theorem AH:∀(a:List bY) (k:Nat),(a.flatMap gZ).take (k*12)=(a.take k).flatMap gZ
 | [],k=>by simp
 | l::r,0=>by simp
 | l::r,k+1=>by
  rw[vz,show (k+1)*12=(gZ l).length+k*12 by simp[gZ];omega,List.take_length_add_append,List.take_succ_cons,vz,<-AH r k]
theorem JQ(h:dj w 12 (.slice ao n cp) n xs)(hk:k<=n):dj w 12 (.slice (if cp=k then ao else Option.map (fun x=>x.add (k*12)) ao) (n - k) (cp - k)) (n - k) (xs.drop (k*12)):=by
 obtain⟨i,c,b,e,m,l⟩:=h;injection e with d _ f
 subst d f;refine⟨by rw[x9,i,Nat.sub_mul],_,_,rfl,by omega,fun hn=>?_⟩;obtain⟨g,o,rfl,a⟩:=l (by omega);rw[bk (by omega)];refine⟨g,o+k*12,by simp[Addr.add_mid],fun j u hj=>?_⟩;rw[List.getElem?_drop] at hj;rw[Nat.add_assoc];exact a _ u hj
theorem J8{m:Nat}(h:dj w 12 (.slice ao n cp) n xs)(hm:m<=n):dj w 12 (.slice ao m cp) m (xs.take (m*12)):=by
 obtain⟨i,c,b,e,l,k⟩:=h;injection e with d _ f
 subst d f;refine⟨by rw[v8,i];exact Nat.min_eq_left (Nat.mul_le_mul_right 12 hm),_,_,rfl,by omega,fun hn=>?_⟩;obtain⟨g,o,rfl,a⟩:=k (by omega);refine⟨g,o,rfl,fun j u hj=>?_⟩;rw[List.getElem?_take] at hj;split at hj
 ·exact a j u hj
 ·cases hj
theorem Rs{a:List bY}{cs:Array Value}{skip aX:Int}(G:dj W 12 (.slice ao a.length cp) a.length (a.flatMap gZ))(hl:a.length<=1000000)(I:cs[6]?=some (.int .i64 skip))(J:cs[7]?=some (.int .i64 aX))(N:0<=skip/\skip<=1000000000/\-1<=aX/\aX<=1000000000):
  Calls prog 88 #[.slice ao a.length cp,.agg cs] W fun e W'=>(∃ap c,e=.returned (.slice ap (jC skip aX a).length c)/\dj W' 12 (.slice ap (jC skip aX a).length c) (jC skip aX a).length ((jC skip aX a).flatMap gZ))/\Below W.heap.size W W':=by
 have g:=p9 ((r5 W.heap.size W).alloc (rm _) (.cells cs 49));have i:=p9 (Loc.new W cs 49);have L:=p9 G;have B:=p9 I;have C:=p9 J;obtain⟨O,P,Q,R⟩:=N;have w:a.length<=cp:=by obtain⟨_,_,_,e,h,_⟩:=G;injection e with _ _ e;omega
 clear G I J;obtain⟨k,rfl⟩:∃k:Nat,skip=(k:Int):=⟨skip.toNat,by omega⟩;go_enter func88,ntmps88
 go_upto_region 1 with fail;obtain⟨Z,K⟩:∃Z,Z=W.heap.size:=⟨_,rfl⟩;rw[<-K] at i⊢;clear K;generalize W.alloc (.cells cs 49)=H at g i⊢;have M:H.cell? ⟨Z,6,none⟩=some (.int .i64 (k:Int)):=(i.o.cell 6).trans B.o;have Y:H.cell? ⟨Z,7,none⟩=some (.int .i64 aX):=(i.o.cell 7).trans C.o;obtain⟨j,D,y,z⟩:∃j:Nat,min (k:Int) (a.length:Int)=(j:Int)/\j<=a.length/\a.drop k=a.drop j:=by
  by_cases hk:k<=a.length
  ·exact⟨k,by omega,hk,rfl⟩
  ·exact⟨a.length,by omega,rm _,by rw[LY (by omega),LY (rm _)]⟩
 have E:(j:Int)<=(a.length:Int):=by omega
 have q:=p9 z;have d:=p9 (JQ (L.o.below g.o) y);rw[Bh] at d;clear z;go_upto_region 2 with fail;obtain⟨ap,u⟩:∃ap,(if cp=j then ao else Option.map (fun x=>x.add (j*12)) ao)=ap:=⟨_,rfl⟩;obtain⟨f,p⟩:∃f,a.length - j=f:=⟨_,rfl⟩;obtain⟨c2,v⟩:∃c2,cp - j=c2:=⟨_,rfl⟩;have X:f<=c2:=by omega
 have V:f<=1000000:=by omega
 have b:qv ((a.drop k).length=f):=p9 (by rw[q.o,x9];exact p);rw[u,p,v] at d⊢;rw[<-q.o] at d;clear u p v M D E y w;by_cases n:aX<0
 ·have r:qv (jC (k:Int) aX a=a.drop k):=p9 (by unfold jC;rw[a8 n];rfl);go_wp2_with fail;go_ret;refine⟨⟨ap,c2,?_,?_⟩,g.o⟩
  ·rw[r.o,b.o];rfl
  ·rw[r.o,b.o];exact d.o
 ·obtain⟨m,rfl⟩:∃m:Nat,aX=(m:Int):=⟨aX.toNat,by omega⟩;obtain⟨l,S,F,A⟩:∃l:Nat,min (m:Int) (f:Int)=(l:Int)/\l<=f/\(a.drop k).take m=(a.drop k).take l:=by
   by_cases hm:m<=f
   ·exact⟨m,by omega,hm,rfl⟩
   ·refine⟨f,by omega,rm _,?_⟩;rw[uB (by have:=b.o;omega),uB (by have:=b.o;omega)]
  have r:qv (jC (k:Int) (m:Int) a=(a.drop k).take l):=p9 (by unfold jC;rw[bk n,<-A];rfl);have t:=p9 (J8 d.o F);rw[AH] at t;have s:qv (((a.drop k).take l).length=l):=p9 (by rw[v8];have:=b.o;omega);have U:(l:Int)<=(f:Int):=by omega
  have T:(l:Int)<=(c2:Int):=by omega
  clear A;go_wp2_with fail;go_ret;refine⟨⟨ap,c2,?_,?_⟩,g.o⟩
  ·rw[r.o,s.o];rfl
  ·rw[r.o,s.o];exact t.o
end
end Go.Proofs.YtbfmmmjkjhjleaaGreatDoor
