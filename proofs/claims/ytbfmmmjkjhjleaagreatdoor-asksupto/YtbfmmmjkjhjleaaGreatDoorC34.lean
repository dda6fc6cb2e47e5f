/- Mine. -/
import Derived.Test.YtbfmmmjkjhjleaaGreatDoorC31
import Derived.Test.YtbfmmmjkjhjleaaGreatDoorC30
import Derived.Test.YtbfmmmjkjhjleaaGreatDoorC28
set_option maxRecDepth 100000
set_option maxHeartbeats 0
namespace Go.Proofs.YtbfmmmjkjhjleaaGreatDoor
open Go.Proofs.Tryz
variable {W w W3:World} {α:Type} {ub:Nat->Prop} {ops:Array Oper} {a:Act} {Q:Exit->Act->World->Prop} {ia pa sa ca:Option Addr} {gb go B ic pc m:Nat} {rest:List Oper} {op:Oper} {n:Int}
section
open Go.RowKit Go.Maps Go.Sort
variable {UInv:(Nat->Prop)->List Row->World->Prop} {u:FuncId} {caps:Array Value} {gb go m sc cc:Nat} {ns:List aH} {es:List bK} {sa ca:Option Addr}
def oU:Row:=fun _=>none
def fU(ns:List aH)(es:List bK)(q:aI)(budget:Int):mO:=bZ ns es q.aq q.ah ⟨#[]⟩ ⟨budget,oU,[]⟩
def o8(p:Value)(q:aI)(vs vc vi vp:Value)(left:Int)(use:Value)(B T:Nat):Array Value:=
 #[p,.int .i64 q.kind,vs,vc,vi,.int .i64 q.order,.bool q.down,.int .i64 q.skip,.int .i64 q.aX,.string q.name,.string q.key,.string q.value.name,.string q.value.key,.int .i64 q.value.val,.string q.type,.string q.dest,.string q.ai,vp,.int .i64 left,use,.map (some B),.slice none 0 0,.slice none 0 0,.slice none 0 0,.slice none 0 0,.slice none 0 0,.slice none 0 0,.slice none 0 0,.map (some T)]
theorem vX(gb go:Nat)(q:aI)(vs vc vi vp:Value)(left:Int)(u:FuncId)(a:Array Value)(B T:Nat):prog.built 228 [(0,.pointer (some ⟨gb,go,none⟩)),(1,.agg (qC q vs vc vi vp)),(2,.int .i64 left),(3,.func (.func u) #[] a),(4,.map (some B)),(7,.map (some T))]=some (o8 (.pointer (some ⟨gb,go,none⟩)) q vs vc vi vp left (.func (.func u) #[] a) B T):=by kernel_rfl
def j5:Array Value:=#[.pointer none,.int .i64 0,.slice none 0 0,.slice none 0 0,.slice none 0 0,.int .i64 0,.bool false,.int .i64 0,.int .i64 0,.string ⟨#[]⟩,.string ⟨#[]⟩,.string ⟨#[]⟩,.string ⟨#[]⟩,.int .i64 0,.string ⟨#[]⟩,.string ⟨#[]⟩,.string ⟨#[]⟩,.slice none 0 0,.int .i64 0,.nilFunc,.map none,.slice none 0 0,.slice none 0 0,.slice none 0 0,.slice none 0 0,.slice none 0 0,.slice none 0 0,.slice none 0 0,.map none]
theorem Tryz.Hp:(prog.info? 228).map (·.size)=some 29:=by kernel_rfl
theorem tq(b:op.guard=none)(c:op.op=.alloc 228)(h:wpList prog ops Q rest (a.put op.dst (.pointer (some ⟨w.heap.size,0,none⟩))) (w.alloc (.cells j5 228))):wpList prog ops Q (op::rest) a w:=
 wpList_plain b fun _ hK=>by
  unfold Oper.wp execOp;simp only[c];go_simp;exact hK _ _ h
theorem qy{P:Program}(t:TypeId)(b:op.guard=none)(c:op.op=.makeMap t none)(h:wpList P ops Q rest (a.put op.dst (.map (some w.heap.size))) (w.alloc (.map #[] 0))):wpList P ops Q (op::rest) a w:=
 wpList_plain b fun _ hK=>by
  unfold Oper.wp execOp;simp only[c];exact hK _ _ h
theorem QE{q:aI}{sa ca:Option Addr}{g h i j b c d f gb go T:Nat}{left:Int}{u:FuncId}{a:Array Value}:(o8 (.pointer (some ⟨gb,go,none⟩)) q (.slice sa g b) (.slice ca h c) (.slice ia i d) (.slice pa j f) left (.func (.func u) #[] a) B T).all (·.oneCell')=true:=by
 simp[o8,Value.oneCell']
theorem sW{x0 x1 x2 x3 x4 x5:Operand}(gb go:Nat)(q:aI)(vs vc vi vp:Value)(left:Int)(u:FuncId)(b:Array Value)(B T:Nat)(c:op.guard=none)(l:op.op=.build 228 #[(0,x0),(1,x1),(2,x2),(3,x3),(4,x4),(7,x5)])
  (d:a.eval x0=.pointer (some ⟨gb,go,none⟩)) (h1:a.eval x1=.agg (qC q vs vc vi vp)) (f:a.eval x2=.int .i64 left) (g:a.eval x3=.func (.func u) #[] b) (j:a.eval x4=.map (some B)) (k:a.eval x5=.map (some T))
  (h:wpList prog ops Q rest (a.put op.dst (.agg (o8 (.pointer (some ⟨gb,go,none⟩)) q vs vc vi vp left (.func (.func u) #[] b) B T))) w):wpList prog ops Q (op::rest) a w:=by
 have he:((#[(0,x0),(1,x1),(2,x2),(3,x3),(4,x4),(7,x5)]:Array (Nat × Operand)).map fun (i,x)=>(i,a.eval x)).toList=[(0,.pointer (some ⟨gb,go,none⟩)),(1,.agg (qC q vs vc vi vp)),(2,.int .i64 left),(3,.func (.func u) #[] b),(4,.map (some B)),(7,.map (some T))]:=by
  simp only[List.map_toArray,xd,Cf,d,h1,f,g,j,k]
 exact wpList_build c _ _ l (by rw[he,vX];rfl) (by rw[he,vX];exact h)
theorem OP(p:Value)(q:aI)(vs vc vi vp:Value)(left:Int)(use:Value)(B T:Nat):nX (o8 p q vs vc vi vp left use B T) (fun j=>(o8 p q vs vc vi vp left use B T)[j]?) left use B T (fun _=>.slice none 0 0) (.slice none 0 0):=by
 refine⟨rfl,fun _ _=>rfl,rfl,rfl,rfl,fun i hi=>?_,rfl,rfl⟩
 match i,hi with
 | 0,_=>rfl
 | 1,_=>rfl
 | 2,_=>rfl
 | 3,_=>rfl
 | 4,_=>rfl
 | 5,_=>rfl
theorem kO.made(W:World):kO (W.alloc (.map #[] 0)) W.heap.size 0 (fun _=>false):=⟨.map [],World.ownsMap_made W _ _ _,fun _ _=>rfl⟩
def O4(W:World)(ub:Nat->Prop)(k:Nat):Prop:=k<W.heap.size/\¬ub k
theorem CL{d:World}{s1:Nat}{fd:Array Value}{fix:Nat->Option Value}{budget:Int}{use:Value}(h:vT UInv)(f:UInv ub [] W)(o:W.heap.size<=s1)(a:Below W.heap.size W d)(m:Loc d (s1+1+1) fd 228)(l:nX fd fix budget use s1 (s1+1) (fun _=>.slice none 0 0) (.slice none 0 0))(hp:cK d s1 0 oU)(n:kO d (s1+1) 0 (fun _=>false)):
  jT UInv (O4 W ub) W (s1+1+1) s1 (s1+1) fix use budget oU 0 (fun _=>.slice none 0 0) (fun _=>[]) (.slice none 0 0) [] ub [] d:=by
 have c:∀k,yr (s1+1+1) s1 (s1+1) (fun _=>Value.slice none 0 0) (.slice none 0 0) k->W.heap.size<=k:=by
  intro k hk;rcases hk with rfl|rfl|rfl|⟨i,_,e⟩|e
  ·omega
  ·omega
  ·omega
  ·cases e
  ·cases e
 have b:=h.low _ _ _ f;have g:km (fun _=>True) (s1+1+1) s1 (s1+1) fix budget use oU 0 (fun _=>.slice none 0 0) (fun _=>[]) (.slice none 0 0) [] d:=
  ⟨⟨fd,m,l⟩,hp,⟨0,_,n,by omega⟩,fun i _=>tj _ _ _ _,tj _ _ _ _,fun i _ j _ _=>ad rfl,⟨trivial,trivial,trivial,fun _ _ _ _=>trivial,fun _ _=>trivial⟩,by omega⟩
 refine⟨g.tight,fun k hk=>⟨vH hk.1 a.size,fun e=>?_,hk.2⟩,fun k hk e=>?_,h.Tg _ _ _ _ f a.size (fun k hk=>a.block k (b k hk)),⟨a.os,a.tape,a.output,a.size,fun k hk _=>a.block k hk⟩⟩
 ·have:=c k e;have:=hk.1;omega
 ·have:=c k e;have:=b k hk;omega
theorem SA{q:aI}{budget:Int}(hU:vT UInv)(M:∀args w,(callFunc u args).run prog w=.ok (.enter u args) w)(ok:Sf ns es q.ah q.aq)(hb:0<=budget/\budget<=5000)(U:UInv ub [] W)
  (R:nQ (fun k=>¬O4 W ub k) gb go ns es m W) (Q:rK (fun k=>¬O4 W ub k) sa sc q.ah W) (P:∀w,Kept (fun k=>¬O4 W ub k) W w->dj w 7 (.slice ca q.aq.length cc) q.aq.length (q.aq.flatMap pX)) (t:∀B,Kn UInv (O4 W ub) W B u caps):
  Calls prog 78 #[.pointer (some ⟨gb,go,none⟩),.agg (qC q (.slice sa q.ah.length sc) (.slice ca q.aq.length cc) (.slice ia q.af.length ic) (.slice pa q.aj.length pc)),.int .i64 budget,.func (.func u) #[] caps] W fun e W'=>e=.returned (.bool (decide (0<=(fU ns es q budget).left)))/\∃ub',UInv ub' (fU ns es q budget).rows W'/\Kept ub W W'/\∀k,ub' k->ub k\/W.heap.size<=k:=by
 have A2:=@run_makeMap prog;have i:=p9 (Loc.new W (qC q (.slice sa q.ah.length sc) (.slice ca q.aq.length cc) (.slice ia q.af.length ic) (.slice pa q.aj.length pc)) 49);have b:=p9 ((r5 W.heap.size W).alloc (rm _) (.cells (qC q (.slice sa q.ah.length sc) (.slice ca q.aq.length cc) (.slice ia q.af.length ic) (.slice pa q.aj.length pc)) 49));go_enter func78,ntmps78
 go_upto_region 1 with fail;obtain⟨Y,hY⟩:∃Y,Y=W.heap.size:=⟨_,rfl⟩;rw[<-hY] at i⊢;have Z:=p9 hY;clear hY;generalize W.alloc (.cells (qC q (.slice sa q.ah.length sc) (.slice ca q.aq.length cc) (.slice ia q.af.length ic) (.slice pa q.aj.length pc)) 49)=a at b i⊢;refine wp_region_lit ?_;refine ej rfl rfl ?_;refine wpList_load_mid rfl 49 _ rfl Y 0 rfl (qC q (.slice sa q.ah.length sc) (.slice ca q.aq.length cc) (.slice ia q.af.length ic) (.slice pa q.aj.length pc)).toList _ i.o.range underlying49 rfl (by rw[Tryz.bp];rfl) ?_;refine ej rfl rfl ?_;refine ej rfl rfl ?_;refine qy _ rfl rfl ?_;refine qy _ rfl rfl ?_;obtain⟨s1,d⟩:∃s1,a.heap.size=s1:=⟨_,rfl⟩;have n:(a.alloc (.map #[] 0)).heap.size=s1+1:=by rw[z6,d]
 have D:((a.alloc (.map #[] 0)).alloc (.map #[] 0)).heap.size=s1+1+1:=by rw[z6,n]
 rw[d,n];simp only[DI];go_simp;refine sW (x0:=.tmp 10) (x1:=.tmp 11) (x2:=.tmp 12) (x3:=.tmp 13) (x4:=.tmp 14) (x5:=.tmp 15) gb go q (.slice sa q.ah.length sc) (.slice ca q.aq.length cc) (.slice ia q.af.length ic) (.slice pa q.aj.length pc) budget u caps s1 (s1+1) rfl rfl (by simp only[Act.eval];rfl) (by simp only[Act.eval];rfl) (by simp only[Act.eval];rfl) (by simp only[Act.eval];rfl) (by simp only[Act.eval];rfl) (by simp only[Act.eval];rfl) ?_;obtain⟨fd,c⟩:∃fd,o8 (.pointer (some ⟨gb,go,none⟩)) q (.slice sa q.ah.length sc) (.slice ca q.aq.length cc) (.slice ia q.af.length ic) (.slice pa q.aj.length pc) budget (.func (.func u) #[] caps) s1 (s1+1)=fd:=⟨_,rfl⟩;have s:fd.all (·.oneCell')=true:=by rw[<-c];exact QE
 have r:fd.size=29:=by rw[<-c];rfl
 have y:=p9 (OP (.pointer (some ⟨gb,go,none⟩)) q (.slice sa q.ah.length sc) (.slice ca q.aq.length cc) (.slice ia q.af.length ic) (.slice pa q.aj.length pc) budget (.func (.func u) #[] caps) s1 (s1+1));have g:qv (fd[0]?=some (.pointer (some ⟨gb,go,none⟩))/\fd[2]?=some (.slice sa q.ah.length sc)/\fd[3]?=some (.slice ca q.aq.length cc)):=p9 (by rw[<-c];exact⟨rfl,rfl,rfl⟩);rw[c] at y⊢;clear c;refine tq rfl rfl ?_;rw[D];have C:Loc (((a.alloc (.map #[] 0)).alloc (.map #[] 0)).alloc (.cells j5 228)) (s1+1+1) j5 228:=by rw[<-D];exact Loc.new _ _ _
 have S:(((a.alloc (.map #[] 0)).alloc (.map #[] 0)).alloc (.cells j5 228)).there (s1+1+1) 0 fd.size:=by rw[r];exact C.there
 go_simp;refine wpList_store_mid rfl 228 _ _ rfl (s1+1+1) 0 fd (by simp only[Act.eval];rfl) (by simp only[Act.eval];rfl) S (by rw[r];exact Tryz.Hp) s ?_;have G:=p9 (C.fC (new:=fd) (by rw[r];rfl));have h:=p9 (aU (s1+1+1) fd.toList 0 (((a.alloc (.map #[] 0)).alloc (.map #[] 0)).alloc (.cells j5 228)));have O:W.heap.size<=s1:=by rw[<-d];exact b.o.size
 have J:qv (cK ((((a.alloc (.map #[] 0)).alloc (.map #[] 0)).alloc (.cells j5 228)).setCells (s1+1+1) 0 fd.toList) s1 0 oU):=p9 (by
  have h1:=cK.made a;rw[d] at h1;have f:=(h1.kept (aD _ (.map #[] 0) none) (by simp)).kept (aD _ (.cells j5 228) none) (by simp);exact f.kept h.o (by intro e;injection e with e;omega))
 have K:qv (kO ((((a.alloc (.map #[] 0)).alloc (.map #[] 0)).alloc (.cells j5 228)).setCells (s1+1+1) 0 fd.toList) (s1+1) 0 (fun _=>false)):=p9 (by
  have h1:=kO.made (a.alloc (.map #[] 0));rw[n] at h1;have f:=h1.kept (aD _ (.cells j5 228) none) (by simp);exact f.kept h.o (by intro e;injection e with e;omega))
 have E:qv (Below W.heap.size W ((((a.alloc (.map #[] 0)).alloc (.map #[] 0)).alloc (.cells j5 228)).setCells (s1+1+1) 0 fd.toList)):=p9 (by
  have h1:=b.o.alloc b.o.size (.map #[] 0);have f:=h1.alloc h1.size (.map #[] 0);have h3:=f.alloc f.size (.cells j5 228);exact h3.grown h.o h3.size (fun j hj=>by injection hj with hj;omega))
 have V:=p9 (CL hU U O E.o G.o y.o J.o K.o);clear J K E h G i b C S s r d n D Z O;generalize (((a.alloc (.map #[] 0)).alloc (.map #[] 0)).alloc (.cells j5 228)).setCells (s1+1+1) 0 fd.toList=W4 at V⊢;have I:qv (Md UInv (O4 W ub) W s1 u caps (fun j=>fd[j]?) gb go m ns es sa sc q.ah ca cc q.aq):=p9 ⟨g.o.1,g.o.2.1,g.o.2.2,R,Q,P,t s1⟩;have x:=p9 (I2 hU ok M (F:=s1+1+1) (T:=s1+1) q.ah 0 ⟨#[]⟩ (O4 W ub) W budget oU 0 (fun _=>.slice none 0 0) (fun _=>[]) (.slice none 0 0) [] ub [] W4 I.o rfl (tJ _) (fun p h0 _=>absurd h0 (Nat.lt_irrefl 0)) V.o hb.1 hb.2 (by simp;omega) (by simp;omega));have H:qv (bZ ns es q.aq q.ah ⟨#[]⟩ ⟨budget,oU,[]⟩=fU ns es q budget):=p9 rfl;have z:=p9 (nB ns es q.aq q.ah ⟨#[]⟩ ⟨budget,oU,[]⟩ hb.1);rw[H.o] at x z;have h6:=ok.Se;clear I V y g R Q P t M ok U hU A2 H;go_wp2_with fail;refine x.o.mono ?_;rintro e W5 ⟨rfl,A5,A4,A8,A7,A6,ub',h5,_,_⟩;obtain⟨A3,L,N⟩:=h5.fa.cell;have l5:W5.cell? ⟨s1+1+1,18,none⟩=some (.int .i64 (fU ns es q budget).left):=(L.cell 18).trans N.l;have v:=p9 h5;have A1:=z.o.1;have A0:=z.o.2.1;clear h5 L N x;obtain⟨lf,A⟩:∃lf,(fU ns es q budget).left=lf:=⟨_,rfl⟩;rw[A] at l5 A1 A0;have X:=p9 A;clear A;have hp:Kept ub W W5/\∀k,ub' k->ub k\/W.heap.size<=k:=by
  refine⟨⟨v.o.kept.os,v.o.kept.tape,v.o.kept.output,v.o.kept.size,fun k hk hn=>v.o.kept.block k hk (fun e=>e ⟨hk,hn⟩)⟩,fun k hk=>?_⟩;by_cases h1:ub k
  ·exact ad h1
  ·rcases ua k W.heap.size with f|f
   ·exact absurd hk (v.o.fx k ⟨f,h1⟩).2.2
   ·exact a6 f
 have HP:=p9 hp;clear hp;go_wp2_with fail
 all_goals
  go_ret;refine⟨?_,ub',v.o.ui,HP.o.1,HP.o.2⟩;rw[X.o]
  (try simp)
  (try omega)
theorem yy{α:Type}{f:α->α->Int}(c:jF f)(he:∀a b,f a b=0->a=b):∀(xs ys:List α),xs.Perm ys->xs.Pairwise (fun a b=>ltOf f b a=false)->ys.Pairwise (fun a b=>ltOf f b a=false)->xs=ys
 | [],ys,hp,_,_=>by rw[List.nil_perm.1 hp]
 | x::r,[],hp,_,_=>by cases List.perm_nil.1 hp
 | x::r,y::s,hp,h1,h2=>by
  have hlt:∀a b,ltOf f a b=false->f b a<=0:=fun a b h=>by
   have i:¬f a b<0:=by simpa [ltOf] using h
   rw[c.mh a b];omega
  have g:f x y<=0:=by
   rcases List.mem_cons.1 (hp.symm.subset zi) with e|e
   ·rw[e];have:=c.mh x x;omega
   ·exact hlt y x ((List.pairwise_cons.1 h1).1 y e)
  have d:f y x<=0:=by
   rcases List.mem_cons.1 (hp.subset zi) with e|e
   ·rw[<-e];have:=c.mh x x;omega
   ·exact hlt x y ((List.pairwise_cons.1 h2).1 x e)
  have e:x=y:=he x y (by rw[c.mh x y] at d;omega);subst e;rw[yy c he r s ((List.perm_cons x).1 hp) (List.pairwise_cons.1 h1).2 (List.pairwise_cons.1 h2).2]
def ru{α:Type}(f:α->α->Int)(l:List α):List α:=l.mergeSort (fun a b=>decide (f a b<=0))
theorem l8(f:α->α->Int)(l:List α):(ru f l).Perm l:=List.mergeSort_perm l _
theorem sf{f:α->α->Int}(d:jF f)(l:List α):(ru f l).Pairwise (fun a b=>ltOf f b a=false):=by
 have h:=List.pairwise_mergeSort (le:=fun a b=>decide (f a b<=0)) (fun a b c h1 h2=>by
  simp only[decide_eq_true_eq] at*;exact d.trans a b c h1 h2) (fun a b=>by
  have:=d.mh a b;simp only[zd,decide_eq_true_eq];omega) l
 refine h.imp fun {a b} hab=>?_;simp only[decide_eq_true_eq] at hab;have g:=d.mh a b;unfold ltOf;simp only[decide_eq_false_iff_not];omega
theorem sI{f:α->α->Int}(c:jF f)(he:∀a b,f a b=0->a=b){xs l:List α}(hp:xs.Perm l)(d:xs.Pairwise (fun a b=>ltOf f b a=false)):xs=ru f l:=
 yy c he xs (ru f l) (hp.trans (l8 f l).symm) d (sf c l)
def B6{α:Type}[DecidableEq α]:List α->List α
 | []=>[]
 | a::r=>if a∈r then B6 r else a::B6 r
theorem tW{α:Type}[DecidableEq α]{x:α}:∀{l:List α},x∈B6 l↔x∈l
 | []=>Iff.rfl
 | a::r=>by
  unfold B6;split
  ·rename_i h;rw[tW,List.mem_cons];exact⟨a6,fun e=>e.elim (fun e=>by rw[e];exact h) id⟩
  ·rw[List.mem_cons,List.mem_cons,tW]
theorem tf{α:Type}[DecidableEq α]:∀(l:List α),(B6 l).Nodup
 | []=>List.nodup_nil
 | a::r=>by
  unfold B6;split
  ·exact tf r
  ·rename_i h;exact List.nodup_cons.2 ⟨fun e=>h (tW.1 e),tf r⟩
def tS(af:List aZ)(ls:List bY):List bY:=B6 ((if af.any (fun x=>!(fi x)) then [] else [eQ])++ls)
theorem lX:∀(b:List bY) (c:bY->Option Int) (l:bY),(dm c b l).isSome=true↔(c l).isSome=true\/l∈b
 | [],c,l=>by simp[dm]
 | a::r,c,l=>by
  have e:dm c (a::r)=dm (nj c a ((c a).getD 0+1)) r:=rfl;rw[e,lX r _ l];unfold nj;rw[List.mem_cons];by_cases h:l=a
  ·simp[h]
  ·simp[h]
theorem Bw{af:List aZ}{a:List bY}{l:bY}:l∈tS af a↔(dm (dz af) a l).isSome=true:=by
 unfold tS;rw[tW,lX,Is];unfold dz;split
 ·simp
 ·simp only[vA];unfold nj;by_cases h:l=eQ
  ·simp[h]
  ·simp[h]
def mG(af:List aZ)(ls:List bY):List bY:=if af.any fi then (tS af ls).map (fun l=>gQ af l ((dm (dz af) ls l).getD 0)) else ls
def sN(l:bY):L6:=if h:l.length=6 then ⟨l,h⟩ else ⟨eQ,rfl⟩
theorem xA{l:bY}(h:l.length=6):(sN l).1=l:=by unfold sN;rw[dif_pos h]
theorem Ar:∀{b:List bY},(∀l∈b,l.length=6)->(b.map sN).map (·.1)=b
 | [],_=>rfl
 | a::r,h=>by
  rw[xd,xd,xA (h a zi),Ar fun l hl=>h l (D2 _ hl)]
def iq(order:Int)(down:Bool)(ls:List bY):List bY:=(ru (fun a b:L6=>kz order down a.1 b.1) (ls.map sN)).map (·.1)
def ew(ns:List aH)(es:List bK)(q:aI)(budget:Int):List ByteArray × Int:=
 if 0<=(fU ns es q budget).left then ((jC q.skip q.aX (iq q.order q.down (mG q.af ((fU ns es q budget).rows.map (fB ns q.af))))).map (iG q.af.length),0) else ([],6)
theorem fb{P:Program}{o:Oper}{K:Act->World->Prop}{E:Prop}(d:o.guard=none)(f:FuncId)(xs:Array Operand)(k:Array TypeId)
  (c:∀args w',(callFunc f args).run P w'=.ok (.enter f args) w') (i:o.op=.call {callee:=.value (.func f),args:=xs,argTypes:=k}) (vs:Array Value) (j:xs.map a.eval=vs) {b:Ending->World->Prop}
  (g:Calls P f vs w b) (h:∀e w',b e w'->∃r,e=.returned r/\K (a.put o.dst r) w'):if Region.wanted o (yielded ops a.tmps)=true then Oper.wp P o a w K Q else E:=by
 have hw:Region.wanted o (yielded ops a.tmps)=true:=by simp[Region.wanted,d]
 rw[a8 hw];unfold Oper.wp execOp;simp only[i];have e:a.eval (Operand.func f)=.func (.func f) #[] #[]:=rfl;simp[resolve,invoke,j,e,Deferred.ofValue,c];rw[Oper.upon_enter];refine g.mono ?_;intro e w' hp;obtain⟨r,rfl,hk⟩:=h e w' hp;exact hk
theorem Cb(h:(Lit.int .i64 n).wf=true):nY n:=by
 simp[Lit.wf,IntKind.min,IntKind.max,IntKind.bits,IntKind.signed] at h;unfold nY;omega
theorem ug(a:Below W.heap.size W W3)(hu:∀k,ub k->W.heap.size<=k)(hk:Kept (fun k=>¬O4 W3 ub k) W3 w):Below W.heap.size W w:=
 ⟨hk.os.trans a.os,hk.tape.trans a.tape,hk.output.trans a.output,r8 a.size hk.size,fun k hkl=>(hk.block k (vH hkl a.size) (fun e=>e ⟨vH hkl a.size,fun hu'=>by have:=hu k hu';omega⟩)).trans (a.block k hkl)⟩
theorem pC(a:Below W.heap.size W W3)(hu:∀k,ub k->W.heap.size<=k)(hk:Kept ub W3 w):Below W.heap.size W w:=
 ⟨hk.os.trans a.os,hk.tape.trans a.tape,hk.output.trans a.output,r8 a.size hk.size,fun k hkl=>(hk.block k (vH hkl a.size) (fun e=>by have:=hu k e;omega)).trans (a.block k hkl)⟩
theorem EC{ns:List aH}{es:List bK}(h:jq gb go ns es m W)(b:Below W.heap.size W W3)(hu:∀k,ub k->W.heap.size<=k):nQ (fun k=>¬O4 W3 ub k) gb go ns es m W3:=by
 intro w hk;have a:=ug b hu hk;obtain⟨_,_,c1,_⟩:=h.cn;obtain⟨_,_,c2,_⟩:=h.ce;exact⟨h.below a,(a.cell (block_lt_of_cell c1)).trans (b.cell (block_lt_of_cell c1)).symm,(a.cell (block_lt_of_cell c2)).trans (b.cell (block_lt_of_cell c2)).symm⟩
def P9(f:Row):Prop:=∀s:ByteArray,s.size<=maxLen->(Lit.int .i64 ((f s).getD 0)).wf=true
def Fy(UInv:(Nat->Prop)->List Row->World->Prop)(ub:Nat->Prop)(rows:List Row)(W:World):Prop:=UInv ub rows W/\∀f∈rows,P9 f
theorem PH{a:(Nat->Prop)->List Row->World->Prop}(h:vT a):vT (Fy a):=
 ⟨fun ub rows W w h0 hs he=>⟨h.Tg ub rows W w h0.1 hs he,h0.2⟩,fun ub rows W h0=>h.low ub rows W h0.1⟩
theorem O3{a:(Nat->Prop)->List Row->World->Prop}{n:Nat->Prop}{W0:World}{u:FuncId}{b:Array Value}(h:Kn a n W0 B u b):Kn (Fy a) n W0 B u b:=by
 intro W q rows f p d hp j hk o;refine(h W q rows f p d.1 hp j hk o).mono ?_;rintro e r ⟨rfl,m,l,i,k⟩;refine⟨rfl,m,⟨l,fun g c=>?_⟩,i,k⟩;rcases List.mem_append.1 c with c|c
 ·exact d.2 g c
 ·rw[List.mem_singleton.1 c];exact fun s k=>hp.wf k
theorem FZ{ns:List aH}{es:List bK}(h:jq gb go ns es m W){k:ByteArray}(hk:k.size<=maxLen):To (valueOf ns n k):=by
 intro a b;unfold valueOf at b;cases d:nodeAt ns n with
 | none=>rw[d] at b;cases b
 | some x=>
  rw[d] at b;have f:x∈ns:=Ms d;have h1:=(h.bf x f).wf hk;have c:x.bf k=some a:=b;rw[c] at h1;exact Cb h1
theorem Kj{ns:List aH}{es:List bK}{af:List aZ}{f:Row}(h:jq gb go ns es m W)(b:P9 f)(hi:∀x∈af,x.name.size<=maxLen/\x.key.size<=maxLen):xO (fB ns af f):=by
 refine⟨by simp[fB],fun v hv=>?_⟩;unfold fB at hv;obtain⟨i,_,rfl⟩:=List.mem_map.1 hv;cases c:af[i]? with
 | none=>intro n a;cases a
 | some x=>
  have hm:=hi x (zs c);simp only[Option.elim];unfold jQ;split
  ·intro n a;cases a
  ·split
   ·intro n a;injection a with a
    rw[<-a];exact Cb (b _ hm.1)
   ·exact FZ h hm.2
theorem GR{af:List aZ}{l:bY}(b:xO l)(c:nY n):xO (gQ af l n):=by
 refine⟨by simp[gQ],fun v hv=>?_⟩;unfold gQ at hv;obtain⟨i,hi,rfl⟩:=List.mem_map.1 hv;split
 ·intro k hk;injection hk with hk
  rw[<-hk];exact c
 ·have a:i<l.length:=by have:=b.1;have:=List.mem_range.1 hi;omega
  unfold jm;rw[r6 a];exact b.2 _ (sT a)
theorem OT{af:List aZ}{a:List bY}(h:∀l∈a,xO l)(f:a.length<=1000000):∀l∈mG af a,xO l:=by
 intro l b;unfold mG at b;split at b
 ·obtain⟨k,hk,rfl⟩:=List.mem_map.1 b;have c:=Bw.1 hk;have d:=pu af a (dz af) 0 (fun l=>by rw[mK];simp) k;refine GR ?_ ⟨by omega,by omega⟩;rcases (lX a (dz af) k).1 c with h1|h1
  ·unfold dz at h1;split at h1
   ·cases h1
   ·unfold nj at h1;split at h1
    ·rename_i e;rw[e];exact yJ
    ·cases h1
  ·exact h k h1
 ·exact h l b
theorem keys_perm{af:List aZ}{b a:List bY}(c:a.Nodup)(hm:∀l,l∈a↔(dm (dz af) b l).isSome=true):a.Perm (tS af b):=
 (List.perm_ext_iff_of_nodup c (tf _)).2 fun l=>(hm l).trans Bw.symm
theorem Jr(af:List aZ)(c:List bY):(tS af c).length<=c.length+1:=by
 have h:∀(l:List bY),(B6 l).length<=l.length:=by
  intro l
  induction l with
  | nil=>exact rm _
  | cons a r ih=>
   unfold B6;split
   ·simp only[vw];omega
   ·simp only[vw];omega
 have h1:=h ((if af.any (fun x=>!(fi x)) then [] else [eQ])++c);unfold tS;rw[r7] at h1;split at h1
 ·rename_i b;rw[a8 b];simp only[yd] at h1;omega
 ·rename_i b;rw[bk b];simp only[x6] at h1;omega
theorem ET(af:List aZ)(a:List bY):(mG af a).length<=a.length+1:=by
 unfold mG;split
 ·rw[tB];exact Jr af a
 ·omega
structure Ql(q:aI):Prop where
 rY:1<=q.af.length/\q.af.length<=6
 small:∀x∈q.af,x.name.size<=maxLen/\x.key.size<=maxLen
 order:0<=q.order/\q.order<=6
 skip:0<=q.skip/\q.skip<=1000000000
 aX:-1<=q.aX/\q.aX<=1000000000
structure Tv(W:World)(L Q:Nat)(qc:Array Value)(told:List bY)(w:World):Prop where
 st:∃ao cp,∃ls:List bY,Loc w L #[.slice ao ls.length cp] 158/\w.ownsRow 0 163 12 (.slice ao ls.length cp) ls.length (ls.flatMap gZ)/\ls.Perm told/\∀b,(Value.slice ao ls.length cp).ownBlock=some b->W.heap.size<=b
 q:Loc w Q qc 49
 b:Below W.heap.size W w
def eR(x:aH):aH:=⟨x.num,x.ai,0,x.bf⟩
theorem mR(ns:List aH)(n:Int):nodeAt (ns.map eR) n=(nodeAt ns n).map eR:=by
 unfold nodeAt;rw[List.find?_map]
 rfl
theorem D3(ns:List aH)(n:Int):((nodeAt (ns.map eR) n).elim (⟨#[]⟩:ByteArray) (fun x=>x.ai))=(nodeAt ns n).elim ⟨#[]⟩ (fun x=>x.ai):=by
 rw[mR];cases nodeAt ns n<;>rfl
theorem BQ(ns:List aH)(n:Int)(l:ByteArray):nF (ns.map eR) n l=nF ns n l:=by
 unfold nF;rw[D3]
theorem sy(ns:List aH)(n:Int)(k:ByteArray):valueOf (ns.map eR) n k=valueOf ns n k:=by
 unfold valueOf;rw[mR];cases nodeAt ns n<;>rfl
theorem ue(ns:List aH)(t:gP)(n:Int):jj (ns.map eR) t n=jj ns t n:=by
 unfold jj;rw[sy]
theorem C5(ns:List aH)(f:Row)(c:bW):kS (ns.map eR) f c=kS ns f c:=by
 unfold kS;rw[ue,ue]
theorem En(ns:List aH)(s:aK)(o:Option Int):mw (ns.map eR) s o=mw ns s o:=by
 funext e
 unfold mw;rw[BQ]
theorem B9(ns:List aH)(es:List bK)(s:aK)(p left:Int):fT (ns.map eR) es s p left=fT ns es s p left:=by
 unfold fT;rw[F6]
 rfl
theorem sD(ns:List aH)(es:List bK)(cl:List bW):∀(r:List aK) (prev:ByteArray) (st:mO),bZ (ns.map eR) es cl r prev st=bZ ns es cl r prev st
 | [],prev,st=>by
  have e:kS (ns.map eR) st.f=kS ns st.f:=funext fun c=>C5 ns st.f c;unfold bZ;rw[e]
 | s::r,prev,st=>by
  have e:(fun t=>bZ (ns.map eR) es cl r s.name t)=(fun t=>bZ ns es cl r s.name t):=funext fun t=>sD ns es cl r s.name t;simp only[bZ];rw[e,En,B9]
theorem B4(ns:List aH)(es:List bK)(q:aI)(b:Int):fU (ns.map eR) es q b=fU ns es q b:=sD ns es q.aq q.ah ⟨#[]⟩ ⟨b,oU,[]⟩
theorem CH(ns:List aH)(f:Row):jQ (ns.map eR) f=jQ ns f:=by
 funext x
 unfold jQ;rw[sy]
theorem CE(ns:List aH)(af:List aZ):fB (ns.map eR) af=fB ns af:=by
 funext f
 unfold fB;rw[CH]
theorem zJ(ns:List aH)(es:List bK)(q:aI)(b:Int):ew (ns.map eR) es q b=ew ns es q b:=by
 unfold ew;rw[B4,CE]
theorem CY(ns:List aH)(S:bF->Bool):qR (ns.map eR) S=qR ns S:=by
 funext x
 unfold qR;rw[mR,mR];cases nodeAt ns x.src<;>cases nodeAt ns x.dst<;>rfl
def oO(S:bF->Bool)(ns:List aH):List aH:=(gU S ns).map fun t=>⟨t.1,t.2.1,0,t.2.2⟩
def Ds(S:bF->Bool)(ns:List aH)(es:List bK):List bK:=es.filter (qR (oO S ns) S)
theorem Di{S:bF->Bool}{ns a:List aH}(h:a.map Lh=gU S ns):a.map eR=oO S ns:=by
 unfold oO;rw[<-h,F6]
 rfl
theorem LL{S:bF->Bool}{ns a:List aH}{es:List bK}(h:a.map Lh=gU S ns):es.filter (qR a S)=Ds S ns es:=by
 unfold Ds;rw[<-Di h,CY]
theorem C2{S:bF->Bool}{ns a:List aH}{es:List bK}(h:a.map Lh=gU S ns)(q:aI)(b:Int):ew a (es.filter (qR a S)) q b=ew (oO S ns) (Ds S ns es) q b:=by
 rw[LL h,<-Di h,zJ]
def uR(f:ByteArray->Option Int)(l:List (List UInt8)):Prop:=l.Nodup/\(∀x,x∈l↔x.length<=maxLen/\(f ⟨x.toArray⟩).isSome=true)/\l=l.mergeSort leB
theorem uR.one{f:ByteArray->Option Int}{l b:List (List UInt8)}(h:uR f l)(a:uR f b):l=b:=by
 rw[h.2.2,a.2.2];exact mergeSort_of_perm ((List.perm_ext_iff_of_nodup h.1 a.1).2 fun x=>by rw[h.2.1,a.2.1])
theorem Py{b n:Nat}{f:ByteArray->Option Int}{D:DataW Unit}(r:W.ownsMap prog 9 (plainElem prog 3) b n D)(w:∀s:ByteArray,s.size<=maxLen->Maps.has D (.string s.data.toList)=(f s).isSome){ss:List (List UInt8)}(hp:ss.Perm (strKeys D)):uR f (ss.mergeSort leB):=by
 have hle:=strKeys_le r underlying9;obtain⟨es,j,t,_⟩:=r.entries rX;obtain⟨l,d,m⟩:=r.keysOf;obtain rfl:es=l:=by rw[j] at d;simpa using d
 subst j;have hk:∀p∈es,∃x,p.1=.string x:=fun p hp=>by obtain⟨v,A⟩:=m p hp;obtain⟨x,_,k,_⟩:=Maps.keyOf_str underlying9 A;exact⟨x,k⟩
 have o:(strKeys (.map es)).Nodup:=by
  show (es.map fun p=>strOf p.1).Nodup;refine List.pairwise_map.2 (t.imp_of_mem fun {p q} c hq' hne e=>hne ?_);obtain⟨a,i⟩:=hk p c;obtain⟨b,z⟩:=hk q hq';rw[i,z] at e⊢;exact congrArg _ e
 have g:∀x,x∈strKeys (.map es)↔Maps.has (.map es) (.string x)=true:=fun x=>by
  rw[has_eq,List.any_eq_true];show x∈es.map (fun p=>strOf p.1)↔_;rw[List.mem_map];constructor
  ·rintro ⟨p,c,rfl⟩;obtain⟨a,i⟩:=hk p c;exact⟨p,c,by rw[i];simp[Lit.sameKey,strOf]⟩
  ·rintro ⟨p,c,y⟩;obtain⟨a,i⟩:=hk p c;rw[i] at y;exact⟨p,c,by rw[i];simpa [Lit.sameKey,strOf] using y⟩
 have h:=List.mergeSort_perm ss leB;refine⟨(h.trans hp).nodup_iff.2 o,fun x=>?_,(mergeSort_of_perm h).symm⟩;rw[(h.trans hp).mem_iff];constructor
 ·intro k;have h1:=hle x k;refine⟨h1,?_⟩;rw[<-w ⟨x.toArray⟩ (by simpa [ByteArray.size] using h1)];exact(g x).1 k
 ·rintro ⟨h1,u⟩;rw[<-w ⟨x.toArray⟩ (by simpa [ByteArray.size] using h1)] at u;exact(g x).2 u
def sQ(f:ByteArray->Option Int)(k:List UInt8):ByteArray:=⟨k.toArray⟩++⟨#[61]⟩++bP ((f ⟨k.toArray⟩).getD 0)
def ye(ts:List ByteArray):ByteArray:=⟨(Lib.join (ts.map (·.data.toList)) [32]).toArray⟩
theorem Fp(a:List ByteArray):(ye a).size=(Lib.join (a.map (·.data.toList)) [32]).length:=by unfold ye;simp[ByteArray.size]
def Nh(x:aH)(t:ByteArray):Prop:=(∃l,uR x.bf l/\t=ye ([bP x.num,x.ai]++l.map (sQ x.bf)))/\t.size<=2000000000
theorem S4{v:Value}{a:List ByteArray}(h:W.ownsRow B 9 1 v a.length (strs a))(o:0<a.length)(p:a.length<=10000000)(d:(Lib.join (a.map (·.data.toList)) [32]).length<=140737488355328):
  Calls prog 114 #[v,.string ⟨#[32]⟩] W fun e w'=>e=.returned (.string (ye a))/\Below W.heap.size W w':=by
 rcases h.2 with ⟨_,h1⟩|⟨k,j,n,g,l,b,m,_⟩
 ·exact absurd h1 (by omega)
 rw[g];refine Tryz.strings_Join k 0 j a ⟨#[32]⟩ W (fun i x hx=>?_) (lt_of_block b) (by omega) (by omega) d;have c:(strs a)[i]?=some (.string x):=by unfold strs;rw[F0,hx];rfl
 have f:i<a.length:=by
  by_cases h:i<a.length
  ·exact h
  ·rw[x7 (by omega)] at hx;cases hx
 rw[tH,<-c];rw[g] at h;exact h.cellAt i (by omega)
theorem zo:∀(xs:List (List UInt8)) (c:Nat),(∀x∈xs,x.length<=c)->(Lib.join xs [32]).length<=(c+1)*xs.length
 | [],c,_=>by simp[Lib.join_nil]
 | x::r,c,h=>by
  have ih:=zo r c (fun y hy=>h y (D2 _ hy));have b:=h x zi;cases r with
  | nil=>simp[Lib.join];omega
  | cons y r=>
   have e:(Lib.join (x::y::r) [32]).length=x.length+1+(Lib.join (y::r) [32]).length:=by
    simp[Lib.join,List.intercalate];omega
   rw[e];simp only[vw] at ih⊢;have a:(c+1)*(r.length+1+1)=(c+1)*(r.length+1)+(c+1):=by rw[Nat.mul_add (c+1) (r.length+1) 1,Nat.mul_one]
   omega
theorem Tryz.JW(args:Array Value)(w:World):(callFunc 93 args).run prog w=.ok (.enter 93 args) w:=by go_simp
theorem Ka{x:aH}{n:Nat}(hp:cK W x.bJ n x.bf)(hn:n<=1000000)(O:nY x.num)(M:x.ai.size<=1000)(L:∀s,(x.bf s).isSome=true->s.size<=1000)(ht:Fa W):
  Calls prog 67 #[.agg #[.int .i64 x.num,.string x.ai,.map (some x.bJ)]] W fun e W'=>(∃t,e=.returned (.string t)/\Nh x t)/\Below W.heap.size W W':=by
 obtain⟨num,ai,R,C⟩:=x;simp only at hp O M L⊢;obtain⟨i1,hj,B7,B8,B9⟩:=info_parts Tryz.gV;have V:=p9 (And.intro hj (And.intro B7 (And.intro B8 B9)));have HP:=p9 hp;have Al:=p9 O;have Bc:=p9 M;have Aj:=p9 L;have HT:=p9 ht;have q:=p9 ((r5 W.heap.size W).alloc (rm _) (.cells #[.int .i64 num,.string ai,.map (some R)] 138));have H:=p9 (Loc.new W #[.int .i64 num,.string ai,.map (some R)] 138);clear hp O M L ht hj B7 B8 B9;go_enter func67,ntmps67
 go_upto_region 1 with fail;obtain⟨Y,hY⟩:∃Y,Y=W.heap.size:=⟨_,rfl⟩;rw[<-hY] at H⊢;clear hY;generalize W.alloc (.cells #[.int .i64 num,.string ai,.map (some R)] 138)=W1 at q H⊢;have G:qv (∀w,Below W1.heap.size W1 w->w.cell? ⟨Y,0,none⟩=some (.int .i64 num)/\w.cell? ⟨Y,1,none⟩=some (.string ai)/\w.cell? ⟨Y,2,none⟩=some (.map (some R))):=p9 (fun w u=>by
  have h1:=H.o.grown (ag u none) (by simp);exact⟨(h1.cell 0).trans rfl,(h1.cell 1).trans rfl,(h1.cell 2).trans rfl⟩)
 have A9:qv (Below W1.heap.size W1 W1.drew):=p9 ⟨rfl,rfl,rfl,rm _,fun _ _=>rfl⟩;have Ai:=p9 (Ig Al.o (HT.o.below (q.o.trans (A9.o.mono q.o.size))));refine wp_region_noPanic ?_;refine wp_region_held_drew (S:=fun w=>w.cell? ⟨Y,0,none⟩=some (.int .i64 num)/\w.cell? ⟨Y,1,none⟩=some (.string ai)/\w.cell? ⟨Y,2,none⟩=some (.map (some R))) (by kernel_rfl) (G.o _ A9.o) (fun hHeld0=>?_);refine wpAnyH_take (i:=0) (v:=.pointer (some ⟨Y,0,none⟩)) rfl (by kernel_rfl) (by kernel_rfl) (by kernel_rfl) (fun _ _ _ h=>h) (ad ⟨by rfl,by intro w E;go_simp;(try with_reducible rfl)⟩) hHeld0 ?_;simp only[Act.put,tp,r9,vm,vk,ud];refine wpAnyH_take (i:=1) (v:=.int .i64 num) rfl (by kernel_rfl) (by kernel_rfl) (by kernel_rfl) (fun _ _ _ h=>h) (ad ⟨by rfl,by intro w E;obtain⟨Bi,Bj,_⟩:=E;go_simp;(try with_reducible rfl)⟩) hHeld0 ?_;simp only[Act.put,tp,r9,tk,vm,vk,ud];refine wpAnyH_take (i:=3) (v:=.pointer (some ⟨Y,1,none⟩)) rfl (by kernel_rfl) (by kernel_rfl) (by kernel_rfl) (fun _ _ _ h=>h) (ad ⟨by rfl,by intro w E;go_simp;(try with_reducible rfl)⟩) hHeld0 ?_;simp only[Act.put,tp,r9,tk,vm,vk,ud];refine wpAnyH_take (i:=4) (v:=.string ai) rfl (by kernel_rfl) (by kernel_rfl) (by kernel_rfl) (fun _ _ _ h=>h) (ad ⟨by rfl,by intro w E;obtain⟨Bi,Bj,_⟩:=E;go_simp;(try with_reducible rfl)⟩) hHeld0 ?_;simp only[Act.put,tp,r9,tk,vm,vk,ud];refine wpAnyH_ready (rs:=[2]) (by kernel_rfl) (by simp) ?_;refine AllReadyH.cons rfl (fun K hK=>?_) AllReadyH.nil;refine fb rfl 93 _ _ Tryz.JW rfl #[.int .i64 num] (by simp[Act.eval]) Ai.o (fun e W2 hp=>?_);obtain⟨rfl,At⟩:=hp;refine⟨_,rfl,?_⟩;have j:=p9 (A9.o.trans At);refine hK.out _ _ (G.o _ j.o) (fun hHeld1=>?_);clear hK K hHeld0 At Ai;simp only[Act.put,tp,r9,tk,vm,vk,ud];refine wpAnyH_ready (rs:=[5]) (by kernel_rfl) (by simp) ?_;refine AllReadyH.cons rfl (fun K hK=>?_) AllReadyH.nil;go_simp;have a:=p9 (j.o.alloc j.o.size (.cells #[.string (bP num),.string ai] 9));have A0:qv ((W2.alloc (.cells #[.string (bP num),.string ai] 9)).ownsRow W2.heap.size 9 1 (.slice (some ⟨W2.heap.size,0,none⟩) 2 2) 2 (strs [bP num,ai])):=p9 ⟨rfl,a6 ⟨W2.heap.size,2,#[.string (bP num),.string ai],rfl,rm _,heap_alloc_new W2 _,rm _,by unfold maxLen;omega,rfl,rfl⟩⟩;refine hK.out _ _ (G.o _ a.o) (fun hHeld2=>?_);clear hK K hHeld1;refine wpAnyH_take (i:=6) (v:=.slice (some ⟨W2.heap.size,0,none⟩) 2 2) rfl (by kernel_rfl) (by kernel_rfl) (by kernel_rfl) (fun _ _ _ h=>h) (ad ⟨by rfl,by intro w E;go_simp;(try with_reducible rfl)⟩) hHeld2 ?_;simp only[Act.put,tp,r9,tk,vm,vk,ud];refine wpAnyH_done (by kernel_rfl) ?_ _;refine NoPanic.normal ?_;clear hHeld2;go_simp;have B:=p9 (q.o.trans (a.o.mono q.o.size));obtain⟨Q,hQ⟩:∃Q,Q=W2.heap.size:=⟨_,rfl⟩;have Be:qv (W.heap.size<=Q):=p9 (by rw[hQ];exact r8 q.o.size j.o.size);have c2:=(G.o _ a.o).2.2;have A2:qv (Q<(W2.alloc (.cells #[.string (bP num),.string ai] 9)).heap.size):=p9 (by rw[hQ];simp);rw[<-hQ] at A0⊢;clear hQ j;generalize W2.alloc (.cells #[.string (bP num),.string ai] 9)=W3 at a A0 B A2 c2⊢;obtain⟨D,d,hD⟩:=HP.o;have Ab:=p9 (d.kept (ag (B.o.trans (((r5 W3.heap.size W3).alloc (rm _) (.cells #[.map (some R)] 136)).mono B.o.size)) none) (by simp));have Ah:=p9 (fun s (hs:s.size<=maxLen)=>(hD s hs).1);have A1:=p9 d;clear d hD;go_wp2_with fail;refine(Rx (some R) _).mono ?_;rintro e W4 ⟨rfl,P⟩;have r:qv (Below W3.heap.size W3 W4):=p9 (by rw[P];exact(r5 _ _).alloc (rm _) _);have Ar:=p9 (NT (b:=W3.heap.size) (by rw[<-P] at Ab;exact Ab.o) (by rw[P];simp) (by rw[P];exact(Loc.new W3 #[.map (some R)] 136).cell 0) hn);clear P Ab;go_wp2_with fail;refine Ar.o.mono ?_;rintro e W5 ⟨v5,ss,rfl,Af,A7,Au⟩;have X:=p9 (Py A1.o Ah.o Af);have A3:(ss.mergeSort leB).length=ss.length:=(List.mergeSort_perm ss leB).length_eq;have Bq:ss.length<=1000000:=by
  have h1:=A1.o.size_le;obtain⟨es,Bl,_⟩:=A1.o.keysOf;subst Bl;have h2:=Af.length_eq;have h3:(strKeys (.map es)).length=es.length:=tB _;have h4:Maps.size (.map es)=es.length:=rfl;omega
 obtain⟨l,hl⟩:∃l,ss.mergeSort leB=l:=⟨_,rfl⟩;have f:W5.ownsRow W4.heap.size 9 1 v5 l.length (l.map encStr):=by rw[<-hl,A3];exact A7
 rw[hl] at X A3;rw[<-A3] at Bq;obtain⟨ak,ck,rfl⟩:=aV f;have m:=r.o.trans (Au.mono r.o.size);have Am:=p9 (A0.o.kept (ag m none) (by cases (Value.ownBlock _)<;>simp));have Ag:=p9 (B.o.trans (m.mono B.o.size));have As:=p9 (H.o.grown (ag (a.o.trans (m.mono a.o.size)) none) (by simp));have Ap:=p9 f;have An:qv (Q<=W5.heap.size):=p9 (by have h1:=A2.o;have h2:=m.size;omega);have A5:qv (∀g,(Value.slice (some ⟨Q,0,none⟩) 2 2).ownBlock=some g->(Value.slice ak l.length ck).ownBlock≠some g):=p9 (fun g hg p=>by
  have h1:=(f.lt g p).1;have h2:Q=g:=Bm hg;have h3:=A2.o;have h4:=r.o.size;omega)
 clear A7 f Au m Ar hl A3 Af A0 B r a G A1 Ah c2 q H A2;go_wp2_with fail;go_loopg [3,17] l.length (fun c wv iv w=>∃k:Nat,iv=.int .i64 (k:Int)/\k+c=l.length/\w.ownsRow Q 9 1 wv (2+k) (strs ([bP num,ai]++(l.take k).map (sQ C)))/\w.ownsRow W4.heap.size 9 1 (.slice ak l.length ck) l.length (l.map encStr)/\(∀g,wv.ownBlock=some g->(Value.slice ak l.length ck).ownBlock≠some g)/\Below W.heap.size W w/\Loc w Y #[.int .i64 num,.string ai,.map (some R)] 138/\Q<=w.heap.size)
 case atStart=>exact⟨0,rfl,by omega,Am.o,Ap.o,A5.o,Ag.o,As.o,An.o⟩
 case round=>
  obtain⟨k,rfl,hk,ho,hr,B0,u,hy,B1⟩:=hrel;have HO:=p9 ho;have HR:=p9 hr;have Ak:=p9 B0;have HB:=p9 u;have HY:=p9 hy;have Ao:=p9 B1;clear ho hr B0 u hy B1 An Am Ap A5 Ag As;by_cases Ae:k<l.length
  ·have Bn:(k:Int)<(l.length:Int):=by omega
   obtain⟨x,hx⟩:∃x,l[k]=x:=⟨_,rfl⟩;have Bg:qv (l.take (k+1)=l.take k++[x]):=p9 (by rw[tt,r6 Ae,hx];rfl);have B6:=(X.o.2.1 x).1 (by rw[<-hx];exact sT Ae);obtain⟨_,Bu,Br,e',_,A⟩:=aJ HR.o HR.o.1;injection e' with e1 e8 e9
   clear e8 e9;obtain⟨g,oo,e2,Ax⟩:=A (by omega);obtain rfl:ak=some ⟨g,oo,none⟩:=e1.trans e2;have Aw:wr.cell? ⟨g,oo+k,none⟩=some (.string ⟨x.toArray⟩):=Ax k _ (by rw[F0,r6 Ae,hx];rfl);have Z:qv (sQ C x=⟨x.toArray⟩++⟨#[61]⟩++bP ((C ⟨x.toArray⟩).getD 0)):=p9 rfl;have Bo:=Aj.o _ B6.2;obtain⟨kx,Ay⟩:∃kx,(⟨x.toArray⟩:ByteArray)=kx:=⟨_,rfl⟩;rw[Ay] at Aw Z Bo;have Az:=(HP.o.kept (ag HB.o none) (by simp)).look (s:=kx) (by unfold maxLen;omega);have Ad:=p9 (Cb (HP.o.wf (s:=kx) (by unfold maxLen;omega)));obtain⟨vv,B5⟩:∃vv,(C kx).getD 0=vv:=⟨_,rfl⟩;rw[B5] at Az Ad Z;have Bk:(bP vv).size<=21:=by
    have h1:=sG (v:=some vv) (fun n hn=>by injection hn with hn;rw[<-hn];exact Ad.o);rw[A4] at h1;exact h1
   have m2:=HY.o.at_ 2 (.map (some R)) rfl;have Bp:(l.length:Int)<=9223372036854775807:=by omega
   clear hx B6 Ax A Ay B5 e1 e2;go_wp2_with fail;refine(Ig Ad.o (HT.o.below HB.o)).mono ?_;rintro e W7 ⟨rfl,F⟩;have Aa:=p9 (HO.o.kept (ag F none) (by cases (Value.ownBlock _)<;>simp));have Ac:=p9 (HR.o.kept (ag F none) (by cases (Value.ownBlock _)<;>simp));have A8:=p9 (HB.o.trans (F.mono HB.o.size));have Bh:=p9 (HY.o.grown (ag F none) (by simp));have Bt:=p9 (fun T (p:u3.ownBlock=some T)=>(HO.o.lt T p).2);have Aq:=p9 F.size;generalize bP vv=dv at Z Bk⊢;clear F Aw Az m2 HO HR HB HY;go_wp2_with (at_builtin;go_must (refine wpList_append_lies _ rfl _ _ 34 rfl Q 9 i1 (.string ⟨#[]⟩) 1 16 underlying34 V.o.1 V.o.2.1 V.o.2.2.1 V.o.2.2.2 rfl (by decide) _ _ _ rfl (Aa.o.alloc _) ⟨W7.heap.size,0,none⟩ 1 1 [.string (kx++⟨#[61]⟩++dv)] rfl rfl (World.news_of_block (heap_alloc_new W7 _)) (by simp[Value.oneCell']) (by omega) (by unfold maxLen;omega) (by omega) (by have h1:=Ao.o;have h2:=Aq.o;simp;omega) _ rfl ?_);intro g2 Bs w8 d J N _;have Bd:=p9 d;have U:=p9 J;have Bb:=p9 N;clear d J N)
   go_roundg (gk - 1)
   case rel=>
    refine⟨k+1,by simp,by omega,?_,?_,?_,?_,?_,?_⟩
    ·have h1:=Bd.o;rw[Bg.o,vb,<-wh,iO,List.map_singleton,Z.o];exact h1
    ·exact oh (Ac.o.alloc _) (fun T p=>U.o.block T ((Ac.o.alloc (.cells #[.string (kx++⟨#[61]⟩++dv)] 9)).lt T p).2 (fun e=>Ak.o T e.symm p))
    ·intro T p A6;have h2:g2=T:=Bm p;rcases Bb.o with h3|h3
     ·exact Ak.o T (by rw[<-h2];exact h3) A6
     ·have h4:=(Ac.o.lt T A6).2;have h5:g2=(W7.alloc (.cells #[.string (kx++⟨#[61]⟩++dv)] 9)).heap.size:=h3;rw[z6] at h5;omega
    ·exact(A8.o.alloc A8.o.size _).grown U.o (by have h1:=A8.o.size;simp;omega) (fun b u=>r8 Be.o ((Aa.o.alloc (.cells #[.string (kx++⟨#[61]⟩++dv)] 9)).lt b u).1)
    ·exact(Bh.o.alloc _).dY (Aa.o.alloc _) U.o (by decide)
    ·have h1:=U.o.size;have h2:=Ao.o;have h3:=Aq.o;rw[z6] at h1;omega
   case measure=>omega
  ·have Bn:¬(k:Int)<(l.length:Int):=by omega
   obtain rfl:k=l.length:=by omega
   have B4:[bP num,ai]++(l.take l.length).map (sQ C)=[bP num,ai]++l.map (sQ C):=by rw[uB (rm _)]
   have hlen:([bP num,ai]++l.map (sQ C)).length=2+l.length:=by simp;omega
   have hw:wr.ownsRow Q 9 1 u3 ([bP num,ai]++l.map (sQ C)).length (strs ([bP num,ai]++l.map (sQ C))):=by rw[hlen,<-B4];exact HO.o
   have I:∀z:Int,nY z->(bP z).data.toList.length<=21:=fun z hz=>sG (v:=some z) (fun n hn=>by injection hn with hn;rw[<-hn];exact hz);have B3:(Lib.join (([bP num,ai]++l.map (sQ C)).map (·.data.toList)) [32]).length<=2000000000:=by
    refine r8 (zo _ 1100 (fun x hx=>?_)) (by rw[tB,hlen];omega);obtain⟨b,u,rfl⟩:=List.mem_map.1 hx;rcases List.mem_append.1 u with u|u
    ·rcases List.mem_cons.1 u with rfl|u
     ·have:=I num Al.o;omega
     ·rw[List.mem_singleton.1 u];have h1:=Bc.o;have h2:ai.data.toList.length=ai.size:=by rw[A4];rfl
      omega
    ·obtain⟨y,hy,rfl⟩:=List.mem_map.1 u;have h1:=(X.o.2.1 y).1 hy;have h2:=Aj.o _ h1.2;have h3:=I ((C ⟨y.toArray⟩).getD 0) (Cb ((HP.o).wf (by simpa [ByteArray.size] using h1.1)));have h4:y.length<=1000:=by simpa [ByteArray.size] using h2
     unfold sQ;simp[ByteArray.data_append] at h3⊢;omega
   have B2:(Lib.join (([bP num,ai]++l.map (sQ C)).map (·.data.toList)) [32]).length<=140737488355328:=by omega
   have Bf:qv ((ye ([bP num,ai]++l.map (sQ C))).size<=2000000000):=p9 (by rw[Fp];exact B3);have HJ:=p9 (S4 hw (by rw[hlen];omega) (by rw[hlen];omega) B2);clear hw B2 B3 B4 hlen I;go_wp2_with fail;refine HJ.o.mono ?_;rintro e W8 ⟨rfl,Av⟩;have Ba:=p9 (HB.o.trans (Av.mono HB.o.size));clear Av HJ;go_wp2_with fail;go_ret;exact⟨⟨_,rfl,⟨l,X.o,rfl⟩,Bf.o⟩,Ba.o⟩
def vE(b:Int):Int:=min (max b 0) 5000
def yk(S:bF->Bool)(g:wO)(q:aI)(b:Int):(List ByteArray × Int) × wO:=
 if q.kind=1 then (ew (oO S g.ns) (Ds S g.ns g.es) q b,g) else if q.kind=6 then (([],5),g) else (Li S g q b,(Oa S g q b).2.2)
def mQ(pol:List db)(g:wO)(role text:ByteArray)(budget:Int):(List ByteArray × Int) × wO:=
 match kW pol role with
 | none=>(([],2),g)
 | some r=>if (parseText (dN text)).2=0 then yk r.2.2 g (parseText (dN text)).1 (vE budget) else (([],(parseText (dN text)).2),g)
theorem rq(b:Int):0<=vE b/\vE b<=5000:=by unfold vE;omega
theorem Tryz.PC(args:Array Value)(w:World):(callFunc 36 args).run prog w=.ok (.enter 36 args) w:=by go_simp
theorem Tryz.QJ(args:Array Value)(w:World):(callFunc 39 args).run prog w=.ok (.enter 39 args) w:=by go_simp
structure Ti(q:aI)(sa ca ia pa:Option Addr)(sc cc ic pc:Nat)(W:World):Prop where
 ss:dj W 5 (.slice sa q.ah.length sc) q.ah.length (q.ah.flatMap nG)
 sc:dj W 7 (.slice ca q.aq.length cc) q.aq.length (q.aq.flatMap pX)
 si:dj W 2 (.slice ia q.af.length ic) q.af.length (q.af.flatMap kk)
 sp:dj W 2 (.slice pa q.aj.length pc) q.aj.length (q.aj.flatMap dG)
theorem Ti.later{q:aI}{sc cc:Nat}(h:Ti q sa ca ia pa sc cc ic pc W)(a:Below W.heap.size W w):Ti q sa ca ia pa sc cc ic pc w:=⟨h.ss.below a,h.sc.below a,h.si.below a,h.sp.below a⟩
theorem RH{q:aI}{sc cc:Nat}(h:iJ B q (.slice sa q.ah.length sc) (.slice ca q.aq.length cc) (.slice ia q.af.length ic) (.slice pa q.aj.length pc) W):Ti q sa ca ia pa sc cc ic pc W:=
 ⟨aJ h.rs h.rs.1,aJ h.rc h.rc.1,aJ h.rt h.rt.1,aJ h.rp h.rp.1⟩
theorem GF{ns:List aH}{es:List bK}{q:aI}{b:Int}(d:0<=b/\b<=5000):(ew ns es q b).1.length<=10000:=by
 unfold ew;split
 ·simp only;rw[tB];have h1:=nB ns es q.aq q.ah ⟨#[]⟩ ⟨b,oU,[]⟩ d.1;have a:bZ ns es q.aq q.ah ⟨#[]⟩ ⟨b,oU,[]⟩=fU ns es q b:=rfl;rw[a] at h1;simp only[yd] at h1;have c:=ET q.af ((fU ns es q b).rows.map (fB ns q.af));rw[tB] at c;have f:(iq q.order q.down (mG q.af ((fU ns es q b).rows.map (fB ns q.af)))).length=(mG q.af ((fU ns es q b).rows.map (fB ns q.af))).length:=by
   unfold iq;rw[tB,(l8 _ _).length_eq,tB]
  unfold jC;split
  ·rw[x9];omega
  ·rw[v8,x9];omega
 ·simp
end
section
open Go.RowKit
def Tt:ByteArray:=⟨#[114,111,108,101,32,114,111,111,116,10,115,101,101,32,65,10,115,101,101,32,66,10,119,97,108,107,32,84,10,114,101,97,100,32,65,46,107,10,109,97,107,101,32,65,10,109,97,107,101,32,66,10,115,101,116,32,65,46,107,10,108,105,110,107,32,84,10]⟩
def TD:ByteArray:=⟨#[77,65,84,67,72,32,40,97,41,32,82,69,84,85,82,78,32,67,79,85,78,84]⟩
def Bu:ByteArray:=⟨#[114,111,111,116]⟩
def Tn:aI:=⟨1,[⟨⟨#[97]⟩,⟨#[]⟩,⟨#[]⟩,0,0⟩],[],[⟨⟨#[]⟩,⟨#[]⟩⟩],0,false,0,-1,⟨#[]⟩,⟨#[]⟩,⟨⟨#[]⟩,⟨#[]⟩,0⟩,⟨#[]⟩,⟨#[]⟩,⟨#[]⟩,[]⟩
theorem wq:parseText (dN TD)=(Tn,0):=by kernel_rfl
theorem BL:ew [] [] Tn 10=([⟨#[48]⟩],0):=by kernel_rfl
theorem Au:(gN Tt).map (fun p=>p.map fun x=>x.1)=some [Bu]:=by kernel_rfl
open Go.Maps Go.Sort
instance:Inhabited L6:=⟨⟨eQ,rfl⟩⟩
def e6(x:L6):List Value:=gZ x.1
theorem xr(x:L6):(e6 x).length=12:=rfl
theorem LO(d:Array L6):(flatK e6 12 d).toList=d.toList.flatMap e6:=by
 have hlen:(d.toList.flatMap e6).length=d.size*12:=by
  rw[List.length_flatMap];simp[xr,List.map_const',List.sum_replicate_nat]
 refine LX (by simp[hlen]) fun t h1 h2=>?_;have f:t<d.size*12:=by rw[hlen] at h2;exact h2
 have c:t / 12<d.toList.length:=by simp;omega
 have a:=lF e6 xr d.toList (t / 12) c (t % 12) (Nat.mod_lt _ (by decide));have e:t / 12*12+t % 12=t:=by omega
 rw[e,r6 h2] at a;have g:(e6 d.toList[t / 12])[t % 12]?=some ((e6 d.toList[t / 12])[t % 12]'(by rw[xr];exact Nat.mod_lt _ (by decide))):=r6 _;rw[g] at a;injection a with a
 rw[a];have b:=get_flatK e6 12 d t f;rw[getElem!_pos (flatK e6 12 d) t (by simpa using f)] at b;rw[Array.getElem_toList,b];have h:d[t / 12]! = d.toList[t / 12]:=by rw[getElem!_pos d (t / 12) (by simpa using c)];simp
 rw[h,getElem!_pos _ (t % 12) (by rw[xr];exact Nat.mod_lt _ (by decide))]
theorem K5{g cap n:Nat}{d:Array L6}(h:w.ownsRow 0 163 12 (.slice (some ⟨g,0,none⟩) n cap) n (d.toList.flatMap e6))(r:n=d.size):HoldsK e6 12 w g 0 d:=by
 intro j b;have m:j<d.size*12:=by simpa using b
 rcases h.2 with ⟨c,_⟩|⟨q,f,i,c,_,l,o,_,s,p⟩
 ·cases c
 ·injection c with h1 _ _
  injection h1 with h1
  injection h1 with h1 _
  subst h1;have k:Loc w g i 163:=l;refine⟨?_,by rw[tH];exact k.free j⟩;rw[tH,k.cell j];have a:(i.toList.take (n*12))[j]?=(d.toList.flatMap e6)[j]?:=by rw[p]
  rw[List.getElem?_take,a8 (by omega)] at a;rw[<-LO] at a;simp only[Array.getElem?_toList] at a;rw[a,Array.getElem?_eq_getElem b,getElem!_pos _ j b]
  rfl
end
end Go.Proofs.YtbfmmmjkjhjleaaGreatDoor
