/- Mine. -/
import Derived.Test.YtbfmmmjkjhjleaaGreatDoorC34
import Derived.Test.YtbfmmmjkjhjleaaGreatDoorC33
set_option maxRecDepth 100000
set_option maxHeartbeats 0
namespace Go.Proofs.YtbfmmmjkjhjleaaGreatDoor
open Go.Proofs.Tryz
variable {W w:World} {m n B k g gb b:Nat} {T:TypeId} {v rv nv vp:Value} {xs:List Value} {d:Array L6} {cs:Array Value} {ns:List NM} {os:Array Obj} {order:Int} {down:Bool}
section
open Go.RowKit Go.Maps Go.Sort
def M8(x:bK):ByteArray:=ye [bP x.src,x.type,bP x.dst]
def MI(ns:List aH)(ts:List ByteArray):Prop:=∀(i:Nat) (x:aH) (t:ByteArray),ns[i]?=some x->ts[i]?=some t->Nh x t
def Mf(ns:List aH)(es:List bK)(L:List ByteArray):Prop:=∃ts,ts.length=ns.length/\MI ns ts/\L=ts++es.map M8
structure TL(ns:List aH)(es:List bK):Prop where
 num:∀x∈ns,nY x.num
 Si:∀x∈ns,x.ai.size<=1000
 key:∀x∈ns,∀s,(x.bf s).isSome=true->s.size<=1000
 ends:∀x∈es,nY x.src/\nY x.dst
 ty:∀x∈es,x.type.size<=1000
 rY:ns.length<=1000/\es.length<=1000
theorem Td{G:Nat}{vn ve:Value}{ns:List aH}{es:List bK}{last:Int}(h:kN G 1 67 cs vn ve ns es last m W)(D:TL ns es)(hm:m<=1000000)(ht:Fa W)(U:es=[]):
  Calls prog 28 #[.pointer (some ⟨G,0,none⟩)] W fun e W'=>∃v L,e=.returned v/\W'.ownsRow W.heap.size 9 1 v L.length (strs L)/\Mf ns es L/\Below W.heap.size W W':=by
 obtain⟨i1,hj,A0,A1,A2⟩:=info_parts Tryz.gV;have B:=p9 (And.intro hj (And.intro A0 (And.intro A1 A2)));obtain⟨na,nc,rfl⟩:=aV h.on;obtain⟨ea,ec,rfl⟩:=aV h.oe;have g1:W.cell? ⟨G,1,none⟩=some (.slice na ns.length nc):=(h.bJ.cell 1).trans h.c0;have g2:W.cell? ⟨G,2,none⟩=some (.slice ea es.length ec):=(h.bJ.cell 2).trans h.c1;have O:=p9 g2;have A8:=p9 (aJ h.on h.on.1);have Ac:=p9 (aJ h.oe h.oe.1);have A7:=p9 h.bf;have K:=p9 D;have HT:=p9 ht;have Af:ns.length<=1000:=D.rY.1;have Ad:es.length<=1000:=D.rY.2;have A5:=p9 hm;have A3:=p9 U;clear h D ht hj A0 A1 A2 g2 hm U;go_enter func28,ntmps28
 go_wp2_with fail;clear g1;go_loopg [3,14] ns.length (fun c lv iv w=>∃(k:Nat) (z:List ByteArray),iv=.int .i64 (k:Int)/\k+c=ns.length/\z.length=k/\MI ns z/\w.ownsRow W.heap.size 9 1 lv k (strs z)/\Below W.heap.size W w)
 case atStart=>exact⟨0,[],rfl,by omega,rfl,(fun i x t _ ht=>by simp at ht),tj _ _ _ _,r5 _ _⟩
 case round=>
  obtain⟨k,z,rfl,hk,X,s,V,M⟩:=hrel;have P:=p9 s;have q:=p9 X;have R:=p9 V;have E:=p9 M;clear s V M X;by_cases n:k<ns.length
  ·have Ab:(k:Int)<(ns.length:Int):=by omega
   obtain⟨g,oo,rfl,a⟩:=bC (l:=ns) jO (fun _=>rfl) (A8.o.below E.o) n;obtain⟨y,hy⟩:∃y,ns[k]=y:=⟨_,rfl⟩;have u:y∈ns:=by rw[<-hy];exact sT n
   have A9:qv (ns[k]?=some y):=p9 (by rw[r6 n,hy]);rw[hy] at a;have T:=p9 (A7.o y u);have C:=p9 (And.intro (K.o.num y u) (And.intro (K.o.Si y u) (K.o.key y u)));obtain⟨num,ai,F,bf⟩:=y;simp only at T C;have p0:wr.cell? ⟨g,oo+k*3,none⟩=some (.int .i64 num):=a 0 (by decide);have p1:wr.cell? ⟨g,oo+k*3+1,none⟩=some (.string ai):=a 1 (by decide);have p2:wr.cell? ⟨g,oo+k*3+2,none⟩=some (.map (some F)):=a 2 (by decide);have d:=p9 (E.o.alloc E.o.size (.cells #[.int .i64 num,.string ai,.map (some F)] 138));have J:=p9 (R.o.alloc (.cells #[.int .i64 num,.string ai,.map (some F)] 138));have f:=p9 (Loc.new wr #[.int .i64 num,.string ai,.map (some F)] 138);clear a hy u E R;go_upto_region 5 with fail;obtain⟨Z,hZ⟩:∃Z,Z=wr.heap.size:=⟨_,rfl⟩;rw[<-hZ] at f⊢;clear hZ p0 p1 p2;generalize wr.alloc (.cells #[.int .i64 num,.string ai,.map (some F)] 138)=W2 at d J f⊢;have z0:=f.o.at_ 0 (.int .i64 num) rfl;have z1:=f.o.at_ 1 (.string ai) rfl;have z2:=f.o.at_ 2 (.map (some F)) rfl;have I:=p9 (Ka (x:=⟨num,ai,F,bf⟩) (T.o.kept (ag d.o none) (by simp)) A5.o C.o.1 C.o.2.1 C.o.2.2 (HT.o.below d.o));simp only at I;go_wp2_with fail;refine I.o.mono ?_;rintro e W3 ⟨⟨t,rfl,s⟩,N⟩;have Q:=p9 s;have S:=p9 (J.o.kept (ag N none) (by cases (Value.ownBlock _)<;>simp));have A:=p9 (d.o.trans (N.mono d.o.size));clear s N z0 z1 z2 I d J f;go_wp2_with (at_builtin;go_must (refine wpList_append_own _ rfl _ _ 34 rfl W.heap.size 9 i1 (.string ⟨#[]⟩) 1 16 underlying34 B.o.1 B.o.2.1 B.o.2.2.1 B.o.2.2.2 rfl (by decide) _ _ _ rfl (S.o.alloc _) ⟨W3.heap.size,0,none⟩ 1 1 [.string t] rfl rfl (World.news_of_block (heap_alloc_new W3 _)) (by simp[Value.oneCell']) (by unfold maxLen;omega) (by omega) (by have h1:=A.o.size;simp;omega) ?_);intro v4 w4 H r _;have A6:=p9 H;have A4:=p9 r;clear H r)
   go_roundg (gk - 1)
   case rel=>
    refine⟨k+1,z++[t],by simp,by omega,by rw[r7,q.o];rfl,?_,?_,?_⟩
    ·intro i x t' Y p;by_cases hi:i<z.length
     ·rw[Mc hi] at p;exact P.o i x t' Y p
     ·have hlen:i<(z++[t]).length:=by
       rcases ua i (z++[t]).length with h|h
       ·exact h
       ·rw[x7 h] at p;cases p
      have Aa:i=k:=by rw[r7] at hlen;have:=q.o;simp at hlen;omega
      subst Aa;have e1:ns[i]?=some ⟨num,ai,F,bf⟩:=A9.o;rw[e1] at Y;injection Y with Y
      rw[F7 (by omega),q.o] at p;have e2:t=t':=by simpa using p
      rw[<-Y,<-e2];exact Q.o
    ·have h1:=A6.o;rw[iO];exact h1
    ·exact(A.o.alloc A.o.size _).grown A4.o (by have h1:=A.o.size;simp;omega) (fun b M=>((S.o.alloc (.cells #[.string t] 9)).lt b M).1)
   case measure=>omega
  ·have Ab:¬(k:Int)<(ns.length:Int):=by omega
   obtain rfl:k=ns.length:=by omega
   have g2:wr.cell? ⟨G,2,none⟩=some (.slice ea es.length ec):=(E.o.cell (block_lt_of_cell O.o)).trans O.o;clear n;go_wp2_with fail;clear g2;go_loopg [3,30] es.length (fun c lv iv w=>∃(j:Nat),iv=.int .i64 (j:Int)/\j+c=es.length/\w.ownsRow W.heap.size 9 1 lv (ns.length+j) (strs (z++(es.take j).map M8))/\Below W.heap.size W w)
   case atStart=>exact⟨0,rfl,by omega,by have h1:=R.o;simpa using h1,E.o⟩
   case round=>
    obtain⟨j,rfl,hj,V,M⟩:=hrel;have R:=p9 V;have E:=p9 M;clear V M;by_cases n:j<es.length
    ·exact absurd n (by rw[A3.o];simp)
    ·have Ae:¬(j:Int)<(es.length:Int):=by omega
     obtain rfl:j=es.length:=by omega
     go_wp2_with fail;go_ret;refine⟨_,rfl,z++es.map M8,?_,⟨z,q.o,P.o,rfl⟩,E.o⟩;have h1:=R.o;rw[uB (rm _)] at h1;rw[r7,tB,q.o];exact h1
end
section
open Go.RowKit
theorem Tryz.xR(args:Array Value)(w:World):(callFunc 102 args).run prog w=.ok (.enter 102 args) w:=by go_simp
def qn(rs:List dX)(q:aI):Nat->Bool
 | 0=>jo rs (D7,q.ai,⟨#[]⟩)
 | n+1=>qn rs q n&&jo rs (JE,q.ai,(q.aj[n]?).elim ⟨#[]⟩ fun p=>p.key)
def ow(rs:List dX)(q:aI)(bud:Int)(n:Nat):Int:=if bud<1 then 6 else if qn rs q q.aj.length then (if 40<=n then 8 else 0) else 7
theorem EY(rs:List dX)(q:aI):∀n,n<=q.aj.length->qn rs q n=(((q.aj.take n).all fun p=>jo rs (JE,q.ai,p.key))&&jo rs (D7,q.ai,⟨#[]⟩))
 | 0,_=>by simp[qn]
 | n+1,h=>by
  unfold qn;rw[EY rs q n (by omega),tt,r6 (by omega),F2,List.all_append];simp only[A5,List.all_cons,List.all_nil,Bool.and_true];rw[Bool.and_right_comm]
theorem Cw{a:kj}{S:bF->Bool}{nm:ByteArray}(c:mq a (nm,S))(q:aI)(bud:Int)(n:Nat):ow a.2 q bud n=jz S q bud n:=by
 have e:qn a.2 q q.aj.length=jw S q:=by
  rw[EY _ _ _ (rm _),yt];unfold jw
  congr 1
  ·rw[Ft,List.all_eq_true,List.all_eq_true];have b:∀k,S (5,q.ai,k)=jo a.2 (JE,q.ai,k):=fun k=>by rw[<-c.2 JE q.ai k (a6 (a6 (a6 rfl))),tU.2.2.2]
   exact⟨fun h p hp=>by rw[b];exact h p hp,fun h p hp=>by rw[<-b];exact h p hp⟩
  ·rw[<-c.2 D7 q.ai ⟨#[]⟩ (a6 (a6 (ad rfl))),tU.2.2.1]
 unfold ow jz;rw[e]
theorem Tryz.Hm:(prog.info? 145).map (fun i=>(i.zero,i.size,i.bytes))=some (some (.agg #[.int .i64 0,.string ⟨#[]⟩,.slice none 0 0]),3,48):=Tryz.Bd
theorem RG.tick{a:List eT}{last:Int}(h:RG gb rv a nv ns last w)(m:Int):RG gb rv a nv ns m (w.setCell ⟨gb,3,none⟩ (.int .i64 m)):=by
 have g:=aE w gb 3 (.int .i64 m);exact⟨h.bJ.set 3 _,h.vZ.kept g (a6 fun e=>aR h.vZ h.bJ (by decide) e),fun x hx=>(h.AQ x hx).kept g (a6 fun e=>aR (h.AQ x hx) h.bJ (by decide) e),⟨h.nodes.row.kept g (a6 fun e=>aR h.nodes.row h.bJ (by decide) e),fun x hx=>(h.nodes.Ni x hx).kept g (a6 fun e=>aR (h.nodes.Ni x hx) h.bJ (by decide) e)⟩⟩
theorem RG.add{b:Value}{l:List eT}{last:Int}{x:NM}{c:World}(h:RG gb rv l nv ns last w)(m:w.ownsRow 0 120 2 x.pv x.aj.length (x.aj.flatMap dG))(i:w.grownBy c nv.ownBlock)(j:c.ownsRow 0 145 3 b (ns.length+1) (ns.flatMap Fi++Fi x)):RG gb rv l b (ns++[x]) last (c.setCell ⟨gb,1,none⟩ b):=by
 have g:=aE c gb 1 b;have d:=h.bJ.dY h.nodes.row i (by decide);have k:∀{T:TypeId} {s n:Nat} {u:Value} {xs:List Value},T≠145->T≠73->w.ownsRow 0 T s u n xs->(c.setCell ⟨gb,1,none⟩ b).ownsRow 0 T s u n xs:=fun h1 h2 hu=>by
  have f:=hu.kept i (bT hu h.nodes.row h1);exact f.kept g (a6 fun e=>aR f d h2 e)
 refine⟨d.set 1 _,k (by decide) (by decide) h.vZ,fun y a=>k (by decide) (by decide) (h.AQ y a),⟨?_,fun y a=>?_⟩⟩
 ·rw[r7,As];have:=j.kept g (a6 fun e=>aR j d (by decide) e)
  simpa using this
 ·rcases List.mem_append.1 a with a|a
  ·exact k (by decide) (by decide) (h.nodes.Ni y a)
  ·rw[List.mem_singleton.1 a];exact k (by decide) (by decide) m
theorem OQ(h:w.ownsRow B T k v n xs):n<=maxLen:=by
 rcases h.2 with ⟨_,c⟩|⟨g,cap,b,_,_,_,a,hm,_⟩
 ·omega
 ·exact r8 a hm
def BH(gb:Nat)(nv:Value)(b:Nat):Prop:=b=gb\/nv.ownBlock=some b
def Rw(gb:Nat)(rv nv:Value)(rl:List eT)(ns:List NM)(last:Int)(q:aI)(er:Int)(W:World)(e:Ending)(W':World):Prop:=
 (er=0/\(∃v,e=.returned (.tuple #[v,.int .i64 0])/\W'.ownsRow W.heap.size 9 1 v 1 [.string (bP (last+1))])/\∃nv' pv,RG gb rv rl nv' (ns++[⟨last+1,q.ai,pv,jg q.aj q.aj.length⟩]) (last+1) W'/\Kept (BH gb nv) W W'/\∀b,nv'.ownBlock=some b->nv.ownBlock=some b\/W.heap.size<=b)\/
 (er≠0/\e=.returned (.tuple #[.slice none 0 0,.int .i64 er])/\Below W.heap.size W W')
theorem QZ{rl:List eT}{last:Int}{nm:ByteArray}{U:Value}{rs:List dX}{q:aI}{vs vc vi:Value}{bud:Int}(h:RG gb rv rl nv ns last W)(hs:dj W 3 U rs.length (rs.flatMap DU))(hr:rs.length<=1000000)(Bx:0<=last/\last<=1000000)(A8:W.ownsRow 0 120 2 vp q.aj.length (q.aj.flatMap dG))(C0:q.aj.length<=1000):
  Calls prog 60 #[.pointer (some ⟨gb,0,none⟩),.agg #[.string nm,U],.agg (qC q vs vc vi vp),.int .i64 bud] W (Rw gb rv nv rl ns last q (ow rs q bud ns.length) W):=by
 obtain⟨i1,hj,C1,C2,C3⟩:=info_parts Tryz.gV;obtain⟨i2,hk,Bl,Bm,Bn⟩:=info_parts Tryz.Hm;have A1:=p9 (And.intro hk (And.intro Bl (And.intro Bm Bn)));clear hj C1 C2 C3 hk Bl Bm Bn;obtain⟨pa,pc,Bk⟩:=aV A8;have Al:=(r5 W.heap.size W).alloc (rm _) (.cells #[.string nm,U] 81);have HB:=p9 (Al.alloc Al.size (.cells (qC q vs vc vi vp) 49));have HR:=p9 ((Loc.new W #[.string nm,U] 81).alloc (.cells (qC q vs vc vi vp) 49));have HQ:=p9 (Loc.new (W.alloc (.cells #[.string nm,U] 81)) (qC q vs vc vi vp) 49);have HG:=p9 (h.below HB.o);have A6:=p9 (hs.below HB.o);have Ag:=p9 (A8.kept (ag HB.o none) (by cases (Value.ownBlock _)<;>simp));have D:=p9 Bk;have Bv:qv (q.aj=[]->vp=.slice none 0 0\/∃g cap,vp=.slice (some ⟨g,0,none⟩) 0 cap):=p9 (fun he=>by
  rcases A8.2 with ⟨hv,_⟩|⟨g,cap,fL,hv,_⟩
  ·exact ad hv
  ·exact a6 ⟨g,cap,by rw[hv,he];rfl⟩)
 have Bc:qv (gb<W.heap.size):=p9 h.bJ.lt;have I:qv (ow rs q bud ns.length=if bud<1 then 6 else if qn rs q q.aj.length then (if 40<=ns.length then 8 else 0) else 7):=p9 rfl;have By:ns.length<=1000000\/40<=ns.length:=by omega
 clear h hs A8 Al By Bk;go_enter func60,ntmps60
 go_upto_region 1 with fail;obtain⟨Y,hY⟩:∃Y,Y=(W.alloc (.cells #[.string nm,U] 81)).heap.size:=⟨_,rfl⟩;rw[<-hY] at HQ;rw[size_alloc] at hY;have Bb:qv (Y≠gb):=p9 (by have:=Bc.o;omega);obtain⟨X,hX⟩:∃X,X=W.heap.size:=⟨_,rfl⟩;rw[<-hX] at HR hY⊢;rw[<-hY];clear hX hY;generalize (W.alloc (.cells #[.string nm,U] 81)).alloc (.cells (qC q vs vc vi vp) 49)=W1 at HB HR HQ HG A6 Ag⊢;have r0:=HR.o.at_ 0 (.string nm) rfl;have r1:=HR.o.at_ 1 U rfl;have A9:=HQ.o.at_ 15 (.string q.ai) rfl;by_cases Bf:bud<1
 ·rw[a8 Bf] at I;go_wp2_with fail;go_ret2;exact a6 ⟨by rw[I.o];decide,by rw[I.o];rfl,HB.o⟩
 rw[bk Bf] at I;go_wp2_with fail;refine(Hz (ti:=q.ai) A6.o hr).mono ?_;rintro e W2 ⟨rfl,G⟩;have B8:=p9 (HR.o.grown (ag G none) (by simp));have Aj:=p9 (HQ.o.grown (ag G none) (by simp));have Ax:=p9 (HG.o.below G);have B9:=p9 (A6.o.below G);have Ah:=p9 (Ag.o.kept (ag G none) (by cases (Value.ownBlock _)<;>simp));have Ac:=p9 (HB.o.trans (G.mono HB.o.size));have B3:qv (jo rs (⟨#[109,97,107,101]⟩,q.ai,⟨#[]⟩)=qn rs q 0):=p9 rfl;rw[B3.o];clear G r0 r1 A9 HR HQ HG A6 Ag HB B3;go_upto_block 0 with fail;go_cut [10] (fun bv z=>bv=.bool (qn rs q q.aj.length)/\Below W2.heap.size W2 z)
 case first=>
  go_wp2_with fail;go_loopg [10,11] q.aj.length (fun c bv jv z=>∃j:Nat,bv=.bool (qn rs q j)/\jv=.int .i64 (j:Int)/\j+c=q.aj.length/\Below W2.heap.size W2 z)
  case atStart=>exact⟨0,rfl,rfl,by omega,r5 _ _⟩
  case round=>
   obtain⟨j,rfl,rfl,C5,s⟩:=hrel;have f:=p9 s;clear s;have Aq:=Aj.o.grown (ag f.o none) (by simp);have A9:=Aq.at_ 15 (.string q.ai) rfl;have Bo:wr.cell? ⟨Y,16,none⟩=some (.slice pa q.aj.length pc):=(Aq.cell 16).trans (by rw[<-D.o];rfl);clear Aq;by_cases Bg:j<q.aj.length
   ·have Bw:(j:Int)<(q.aj.length:Int):=by omega
    have Au:=B8.o.grown (ag f.o none) (by simp);have r0:=Au.at_ 0 (.string nm) rfl;have r1:=Au.at_ 1 U rfl;have As:=(aJ Ah.o (nf _)).below f.o;rw[D.o] at As;obtain⟨pg,po,rfl,hc⟩:=bC (l:=q.aj) dG (fun _=>rfl) As Bg;have u:qv (qn rs q (j+1)=(qn rs q j&&jo rs (⟨#[115,101,116]⟩,q.ai,q.aj[j].key))):=p9 (by
     conv=>lhs;unfold qn
     rw[r6 Bg]
     rfl)
    obtain⟨⟨key,val⟩,Bj⟩:∃p,q.aj[j]=p:=⟨_,rfl⟩;rw[Bj] at hc u;have p0:wr.cell? ⟨pg,po+j*2,none⟩=some (.string key):=hc 0 (by omega);have B4:qv (∀d os,Calls prog 101 #[.agg #[.string nm,U],.string ⟨#[115,101,116]⟩,.string q.ai,.string key] (Go.Sort.grow (redrawn wr d) os) fun e w''=>e=.returned (.bool (jo rs (⟨#[115,101,116]⟩,q.ai,key)))/\∃p:Regrown,w''=Go.Sort.grow (redrawn wr p.d) p.os):=p9 (fun d os=>Calls.regrown_of (Hz ((B9.o.below f.o).below (below_regrown wr d os)) hr));have u:qv (qn rs q (j+1)=(qn rs q j&&jo rs (⟨#[115,101,116]⟩,q.ai,key))):=u;generalize jo rs (⟨#[115,101,116]⟩,q.ai,key)=mb at u B4;have s0:=cell_regrown r0;have s1:=cell_regrown r1;have s2:=cell_regrown A9;have s3:=cell_regrown Bo;have s4:=cell_regrown p0;clear hc Bj As Au;go_upto_region 7 with fail;refine wp_region_quiet_below (by kernel_rfl) (by kernel_rfl) ?_
    iterate 9 (quiet_step (fail))
    quiet_step (exact B4.o _ _)
    quiet_step (fail)
    refine wpQuiet_nil ?_;intro W4 hw;have Av:qv (Below wr.heap.size wr W4):=p9 (by obtain⟨⟨dq,C4⟩,rfl⟩:=hw;exact below_regrown wr dq C4);clear hw s0 s1 s2 s3 s4 r0 r1 A9 Bo p0;cases Bh:qn rs q j with
    | false=>
     rw[Bh] at u;go_wp2_with fail;go_roundg (gk - 1)
     case measure=>omega
     case rel=>exact⟨j+1,by rw[u.o];rfl,by simp,by omega,f.o.trans (Av.o.mono f.o.size)⟩
    | true=>
     rw[Bh] at u;go_wp2_with fail;go_roundg (gk - 1)
     case measure=>omega
     case rel=>exact⟨j+1,by rw[u.o];simp,by simp,by omega,f.o.trans (Av.o.mono f.o.size)⟩
   ·have Bw:¬(j:Int)<(q.aj.length:Int):=by omega
    obtain rfl:j=q.aj.length:=by omega
    go_wp2_with fail;go_meet
    case rel=>exact⟨rfl,f.o⟩
 case rest=>
 obtain⟨rfl,R⟩:=hcut;have B7:=p9 (Aj.o.grown (ag R none) (by simp));have t:=p9 (Ax.o.below R);have Ai:=p9 (Ah.o.kept (ag R none) (by cases (Value.ownBlock _)<;>simp));have f:=p9 (Ac.o.trans (R.mono Ac.o.size));clear R B8 Aj Ax B9 Ah Ac;obtain⟨na,nc,Ar⟩:=aV t.o.nodes.row;have C:=p9 Ar;have g1:wc.cell? ⟨gb,1,none⟩=some (.slice na ns.length nc):=(t.o.bJ.cell 1).trans (by rw[<-Ar];rfl);clear Ar;cases Bi:qn rs q q.aj.length with
 | false=>
  have N:qv (ow rs q bud ns.length=7):=p9 (by rw[I.o,Bi];rfl);go_wp2_with fail;go_ret2;exact a6 ⟨by rw[N.o];decide,by rw[N.o];rfl,f.o⟩
 | true=>
 have N:qv (ow rs q bud ns.length=if 40<=ns.length then 8 else 0):=p9 (by rw[I.o,Bi];rfl);have Bz:ns.length<=maxLen:=OQ t.o.nodes.row;unfold maxLen at Bz;by_cases Bd:40<=ns.length
 ·have A2:qv (ow rs q bud ns.length=8):=p9 (by rw[N.o,a8 Bd]);have Be:(40:Int)<=(ns.length:Int):=by omega
  go_wp2_with fail;go_ret2;exact a6 ⟨by rw[A2.o];decide,by rw[A2.o];rfl,f.o⟩
 have A2:qv (ow rs q bud ns.length=0):=p9 (by rw[N.o,bk Bd]);have Be:¬(40:Int)<=(ns.length:Int):=by omega
 have g3:=t.o.bJ.at_ 3 (.int .i64 last) rfl;have f3:=t.o.bJ.free 3;obtain⟨C6,C7⟩:=Bx;go_upto_region 14 with fail;have A0:=p9 (t.o.tick (last+1));have A4:=p9 (B7.o.aY Bb.o 3 (.int .i64 (last+1)));have B6:=p9 (Ai.o.kept (aE wc gb 3 (.int .i64 (last+1))) (a6 fun e=>aR Ai.o t.o.bJ (by decide) e));have Af:qv (Kept (BH gb nv) W (wc.setCell ⟨gb,3,none⟩ (.int .i64 (last+1)))):=p9 (((Kept.refl _ W).below f.o).then (aE wc gb 3 _) (fun b s=>ad (ad (by injection s with s;exact s.symm))));clear g1 g3 f3 t B7 Ai f;generalize wc.setCell ⟨gb,3,none⟩ (.int .i64 (last+1))=E at A0 A4 B6 Af⊢;have Z:qv (Below E.heap.size E E.drew):=p9 (below_drewN (r5 E.heap.size E) 1);have L:qv (RG gb rv rl nv ns (last+1) E.drew):=p9 (A0.o.below Z.o);have Aa:qv (Loc E.drew Y (qC q vs vc vi vp) 49):=p9 A4.o;have Ba:=p9 (Mx (v:=.slice pa q.aj.length pc) (W:=E.drew) (by rw[<-D.o];exact(aJ B6.o (nf _)).below Z.o) (fun he=>by rw[<-D.o];exact Bv.o he) C0);have HS:qv (∀z,RG gb rv rl nv ns (last+1) z->Loc z Y (qC q vs vc vi vp) 49->z.cell? ⟨gb,3,none⟩=some (.int .i64 (last+1))/\z.cell? ⟨Y,15,none⟩=some (.string q.ai)/\z.cell? ⟨Y,16,none⟩=some (.slice pa q.aj.length pc)):=p9 (fun z hz hy=>⟨(hz.bJ.cell 3).trans rfl,(hy.cell 15).trans rfl,(hy.cell 16).trans (by rw[<-D.o];rfl)⟩);refine wp_region_noPanic ?_;refine wp_region_held_drew (S:=fun w=>w.cell? ⟨gb,3,none⟩=some (.int .i64 (last+1))/\w.cell? ⟨Y,15,none⟩=some (.string q.ai)/\w.cell? ⟨Y,16,none⟩=some (.slice pa q.aj.length pc)) (by kernel_rfl) (HS.o _ L.o Aa.o) (fun hHeld0=>?_);refine mB [0,1,2,3,5,6,7,8,9,10,11,12] (by kernel_rfl) hHeld0 ?_
 iterate 12
  apply eH.one rfl (by rfl)
  ·intro w F;obtain⟨Am,An,Ao⟩:=F;go_simp;(try with_reducible rfl)
  simp only[Act.put,tp,r9,tk,vm,vk,ud]
 refine wpAnyH_ready (rs:=[4,13]) (by kernel_rfl) (by simp) ?_;refine AllReadyH.cons rfl (fun K hK=>?_) (AllReadyH.cons rfl (fun K hK=>?_) AllReadyH.nil);have cL:E.drew.cell? ⟨gb,1,none⟩=some (.slice na ns.length nc):=(L.o.bJ.cell 1).trans (by rw[C.o];rfl);rw[a8 (by simp[Region.wanted])];unfold Oper.wp execOp;go_simp;refine hK.out _ _ (HS.o _ L.o Aa.o) (fun hHeldL=>?_);clear hK K cL
 (try simp only[Act.put,tp,r9,tk])
 clear hHeld0;refine wpAnyH_ready (rs:=[13]) (by kernel_rfl) (by simp) ?_;refine AllReadyH.cons rfl (fun K hK=>?_) AllReadyH.nil;refine fb rfl 102 _ _ Tryz.xR rfl #[.slice pa q.aj.length pc] (by simp[Act.eval]) Ba.o (fun e W6 hp=>?_);obtain⟨⟨pv,rfl,H⟩,Q⟩:=hp;refine⟨_,rfl,?_⟩;have k:qv (Below E.heap.size E W6):=p9 (Z.o.trans Q);obtain⟨va,vc,At⟩:=aV H;subst At;have O:=p9 (fo H (tJ E.drew.heap.size));have n:=p9 (A0.o.below k.o);have y:=p9 (A4.o.grown (ag k.o none) (by simp));clear H Q;refine hK.out _ _ (HS.o _ n.o y.o) (fun hHeld1=>?_);clear hK K hHeldL
 (try simp only[Act.put,tp,r9,tk])
 refine wpAnyH_take (i:=14) (v:=?v13) rfl (by kernel_rfl) (by kernel_rfl) (by kernel_rfl) (fun _ _ _ h=>h) (ad ⟨by rfl,?y13⟩) hHeld1 ?r13
 case y13=>(intro w F;obtain⟨Am,An,Ao⟩:=F;go_simp;(try with_reducible rfl))
 (try simp only[Act.put,tp,r9,tk])
 refine wpAnyH_ready (rs:=[15]) (by kernel_rfl) (by simp) ?_;refine AllReadyH.cons rfl (fun K hK=>?_) AllReadyH.nil;rw[a8 (by simp[Region.wanted])];unfold Oper.wp execOp;go_simp;have a:Below W6.heap.size W6 (W6.alloc (.cells #[.int .i64 (last+1),.string q.ai,.slice va q.aj.length vc] 145)):=(r5 _ _).alloc (rm _) _;have m:=p9 (n.o.below a);have A:=p9 (y.o.grown (ag a none) (by simp));have A7:=p9 (O.o.kept (ag a none) (by cases (Value.ownBlock _)<;>simp));have V:=p9 (k.o.trans (a.mono k.o.size));clear a;refine hK.out _ _ (HS.o _ m.o A.o) (fun hHeld2=>?_);clear hK K hHeld1
 (try simp only[Act.put,tp,r9,tk])
 rotate_left
 refine fb rfl 102 _ _ Tryz.xR rfl #[.slice pa q.aj.length pc] (by simp[Act.eval]) Ba.o (fun e W6 hp=>?_);obtain⟨⟨pv,rfl,H⟩,Q⟩:=hp;refine⟨_,rfl,?_⟩;have k:qv (Below E.heap.size E W6):=p9 (Z.o.trans Q);obtain⟨va,vc,At⟩:=aV H;subst At;have O:=p9 (fo H (tJ E.drew.heap.size));have n:=p9 (A0.o.below k.o);have y:=p9 (A4.o.grown (ag k.o none) (by simp));clear H Q;refine hK.out _ _ (HS.o _ n.o y.o) (fun hHeld1=>?_);clear hK K hHeld0
 (try simp only[Act.put,tp,r9,tk])
 refine wpAnyH_take (i:=14) (v:=?v16) rfl (by kernel_rfl) (by kernel_rfl) (by kernel_rfl) (fun _ _ _ h=>h) (ad ⟨by rfl,?y16⟩) hHeld1 ?r16
 case y16=>(intro w F;obtain⟨Am,An,Ao⟩:=F;go_simp;(try with_reducible rfl))
 (try simp only[Act.put,tp,r9,tk])
 refine wpAnyH_ready (rs:=[4,15]) (by kernel_rfl) (by simp) ?_;refine AllReadyH.cons rfl (fun K hK=>?_) (AllReadyH.cons rfl (fun K hK=>?_) AllReadyH.nil);have cL:W6.cell? ⟨gb,1,none⟩=some (.slice na ns.length nc):=(n.o.bJ.cell 1).trans (by rw[C.o];rfl);rw[a8 (by simp[Region.wanted])];unfold Oper.wp execOp;go_simp;refine hK.out _ _ (HS.o _ n.o y.o) (fun hHeldM=>?_);clear hK K cL
 (try simp only[Act.put,tp,r9,tk])
 clear hHeld1;refine wpAnyH_ready (rs:=[15]) (by kernel_rfl) (by simp) ?_;refine AllReadyH.cons rfl (fun K hK=>?_) AllReadyH.nil;rw[a8 (by simp[Region.wanted])];unfold Oper.wp execOp;go_simp;have a:Below W6.heap.size W6 (W6.alloc (.cells #[.int .i64 (last+1),.string q.ai,.slice va q.aj.length vc] 145)):=(r5 _ _).alloc (rm _) _;have m:=p9 (n.o.below a);have A:=p9 (y.o.grown (ag a none) (by simp));have A7:=p9 (O.o.kept (ag a none) (by cases (Value.ownBlock _)<;>simp));have V:=p9 (k.o.trans (a.mono k.o.size));clear a;refine hK.out _ _ (HS.o _ m.o A.o) (fun hHeld2=>?_);clear hK K hHeldM
 (try simp only[Act.put,tp,r9,tk])
 rotate_left
 rw[a8 (by simp[Region.wanted])];unfold Oper.wp execOp;go_simp;have a:Below W6.heap.size W6 (W6.alloc (.cells #[.int .i64 (last+1),.string q.ai,.slice va q.aj.length vc] 145)):=(r5 _ _).alloc (rm _) _;have m:=p9 (n.o.below a);have A:=p9 (y.o.grown (ag a none) (by simp));have A7:=p9 (O.o.kept (ag a none) (by cases (Value.ownBlock _)<;>simp));have V:=p9 (k.o.trans (a.mono k.o.size));clear a;refine hK.out _ _ (HS.o _ m.o A.o) (fun hHeldN=>?_);clear hK K hHeld1
 (try simp only[Act.put,tp,r9,tk])
 refine wpAnyH_ready (rs:=[4]) (by kernel_rfl) (by simp) ?_;refine AllReadyH.cons rfl (fun K hK=>?_) AllReadyH.nil;have cL:(W6.alloc (.cells #[.int .i64 (last+1),.string q.ai,.slice va q.aj.length vc] 145)).cell? ⟨gb,1,none⟩=some (.slice na ns.length nc):=(m.o.bJ.cell 1).trans (by rw[C.o];rfl);rw[a8 (by simp[Region.wanted])];unfold Oper.wp execOp;go_simp;refine hK.out _ _ (HS.o _ m.o A.o) (fun hHeld2=>?_);clear hK K cL
 (try simp only[Act.put,tp,r9,tk])
 clear hHeldN
 all_goals
  have A3:qv ((W6.alloc (.cells #[.int .i64 (last+1),.string q.ai,.slice va q.aj.length vc] 145)).ownsRow 0 145 3 (.slice na ns.length nc) ns.length (ns.flatMap Fi)):=p9 (by rw[<-C.o];exact m.o.nodes.row);refine wpAnyH_ready (rs:=[16]) (by kernel_rfl) (by simp) ?_;refine AllReadyH.cons rfl (fun K hK=>?_) AllReadyH.nil;refine step_append_lies _ rfl _ _ 69 rfl 0 145 i2 (.agg #[.int .i64 0,.string ⟨#[]⟩,.slice none 0 0]) 3 48 underlying69 A1.o.1 A1.o.2.1 A1.o.2.2.1 A1.o.2.2.2 rfl (by decide) (.slice na ns.length nc) _ _ (by simp[Act.eval]) A3.o ⟨W6.heap.size,0,none⟩ 1 1 [.int .i64 (last+1),.string q.ai,.slice va q.aj.length vc] (by simp[Act.eval]) rfl (World.news_of_block (heap_alloc_new W6 _)) (by simp[Value.oneCell']) (by omega) (by unfold maxLen;omega) (by omega) (tJ _) _ rfl ?_;intro g2 B w8 Ab r T _;have Ad:=p9 r;have B5:=p9 Ab;have B2:=p9 T;have M:=p9 (m.o.bJ.dY A3.o r (by decide));have A5:=p9 (A.o.dY A3.o r (by decide));clear Ab r T;refine hK.out _ _ ⟨(M.o.cell 3).trans rfl,(A5.o.cell 15).trans rfl,(A5.o.cell 16).trans (by rw[D.o];rfl)⟩ (fun hHeld3=>?_);clear hK K hHeld2
  (try simp only[Act.put,tp,r9,tk])
  refine mB [17,18] (by kernel_rfl) hHeld3 ?_
  iterate 2
   apply eH.one rfl (by rfl)
   ·intro w F;obtain⟨Am,An,Ao⟩:=F;go_simp;(try with_reducible rfl)
   simp only[Act.put,tp,r9,tk,vm,vk,ud]
  have c8:=M.o.at_ 1 nv rfl;have f8:w8.frozen? ⟨gb,1,none⟩=false:=M.o.free 1;have B1:=p9 (M.o.set 1 (.slice (some ⟨g2,0,none⟩) (ns.length+1) B));have Ak:=p9 (A5.o.aY Bb.o 1 (.slice (some ⟨g2,0,none⟩) (ns.length+1) B));refine wpAnyH_ready (rs:=[19]) (by kernel_rfl) (by simp) ?_;refine AllReadyH.cons rfl (fun K hK=>?_) AllReadyH.nil;rw[a8 (by simp[Region.wanted])];unfold Oper.wp execOp;go_simp;refine hK.out _ _ ⟨(B1.o.cell 3).trans rfl,(Ak.o.cell 15).trans rfl,(Ak.o.cell 16).trans (by rw[D.o];rfl)⟩ (fun hHeld4=>?_);clear hK K hHeld3
  (try simp only[Act.put,tp,r9,tk])
  refine wpAnyH_done (by kernel_rfl) ?_ _;refine NoPanic.normal ?_;clear hHeld4 c8 f8;go_simp;have Ae:=p9 (m.o.add (x:=⟨last+1,q.ai,.slice va q.aj.length vc,jg q.aj q.aj.length⟩) (by rw[oQ];exact A7.o) (by rw[C.o];exact Ad.o) B5.o);have Az:qv (Kept (BH gb nv) W (w8.setCell ⟨gb,1,none⟩ (.slice (some ⟨g2,0,none⟩) (ns.length+1) B))):=p9 (((Af.o.below V.o).then Ad.o (fun b s=>ad (a6 (by rw[C.o];exact s)))).then (aE w8 gb 1 _) (fun b s=>ad (ad (by injection s with s;exact s.symm))));have Bt:qv (∀b,(Value.slice (some ⟨g2,0,none⟩) (ns.length+1) B).ownBlock=some b->nv.ownBlock=some b\/W.heap.size<=b):=p9 (fun b s=>by
   injection s with s
   have s:g2=b:=s;subst s;rcases B2.o with h2|h2
   ·exact ad (by rw[C.o];exact h2)
   ·refine a6 ?_;have h3:=Af.o.size;have h4:=k.o.size;rw[z6] at h2;omega)
  clear n y O k m A A7 V A3 Ad B5 B2 M A5 B1 Ak;generalize w8.setCell ⟨gb,1,none⟩ (.slice (some ⟨g2,0,none⟩) (ns.length+1) B)=W9 at Ae Az⊢;have c9:=Ae.o.bJ.at_ 3 (.int .i64 (last+1)) rfl;have Ay:qv (nY (last+1)):=p9 (by unfold nY;omega);have Aw:=p9 (qP (W:=W9) Ay.o);obtain⟨dx,Ap⟩:∃dx,bP (last+1)=dx:=⟨_,rfl⟩;have Bp:=p9 Ap;rw[Ap] at Aw;clear Ap;go_wp2_with fail;refine Aw.o.mono ?_;rintro e J ⟨rfl,P⟩;have Bq:=p9 (Ae.o.below P);have B0:=p9 (Az.o.below P);have a:Below J.heap.size J (J.alloc (.cells #[.string dx] 9)):=(r5 _ _).alloc (rm _) _;have Br:=p9 (Bq.o.below a);have Bs:=p9 (B0.o.below a);have Bu:qv ((J.alloc (.cells #[.string dx] 9)).ownsRow W.heap.size 9 1 (.slice (some ⟨J.heap.size,0,none⟩) 1 1) 1 [.string dx]):=p9 (World.ownsRow_lit J #[.string dx] 1 B0.o.size (by unfold maxLen;omega) rfl);clear P a c9;go_wp2_with fail;go_ret2;exact ad ⟨A2.o,⟨_,rfl,by rw[Bp.o];exact Bu.o⟩,_,_,Br.o,Bs.o,Bt.o⟩
open Go.Maps Go.Sort
theorem Nv(a F:Array Value)(h:F.size<=a.size):(putCells id 0 F a).toList.take F.size=F.toList:=by
 refine LX (by simp[putCells];omega) fun t h1 h2=>?_;have b:t<F.size:=by simpa using h2
 rw[List.getElem_take,Array.getElem_toList];simp[putCells,b]
theorem DJ{b:Array Value}(c:w.heap[g]?=some (.cells b T (0,0))):
  (sortWorldK e6 12 w g 0 m d os).heap[g]?=some (.cells (putCells id 0 (flatK e6 12 d) b) T (0,0)):=by
 have a:g<w.heap.size:=lt_of_block c;have e:(sortWorldK e6 12 w g 0 m d os).heap=(w.heap.modify g (onCells (putCells id 0 (flatK e6 12 d))))++os:=rfl;rw[e,Array.getElem?_append_left (by simpa using a),Array.getElem?_modify,a8 rfl,c]
 rfl
theorem wz :Kept (fun k=>k=g) w (sortWorldK e6 12 w g 0 m d os):=by
 have e:(sortWorldK e6 12 w g 0 m d os).heap=(w.heap.modify g (onCells (putCells id 0 (flatK e6 12 d))))++os:=rfl;refine⟨rfl,rfl,rfl,by rw[e];simp,fun k hk hn=>?_⟩;rw[e,Array.getElem?_append_left (by simpa using hk),Array.getElem?_modify,bk (fun h=>hn h.symm)]
theorem G0{cap:Nat}(h:w.ownsRow 0 163 12 (.slice (some ⟨g,0,none⟩) n cap) n xs)(i:d.size=n):(sortWorldK e6 12 w g 0 m d os).ownsRow 0 163 12 (.slice (some ⟨g,0,none⟩) n cap) n (d.toList.flatMap e6):=by
 have f:(flatK e6 12 d).size=n*12:=by simp[i]
 refine⟨by rw[<-LO];simp[i],?_⟩;rcases h.2 with ⟨b,_⟩|⟨q,c,k,b,o,p,a,hm,j,_⟩
 ·cases b
 ·injection b with h1 _ l
  injection h1 with h1
  injection h1 with h1 _
  subst h1 l;refine a6 ⟨g,cap,_,rfl,o,DJ p,a,hm,by simp[putCells,j],?_⟩;rw[<-f,Nv k _ (by rw[f,j];exact Nat.mul_le_mul_right 12 a),LO]
theorem Tryz.QA(args:Array Value)(w:World):(callFunc 85 args).run prog w=.ok (.enter 85 args) w:=by go_simp
theorem Sv{cap Q:Nat}(q:W.ownsRow 0 163 12 (.slice (some ⟨g,0,none⟩) d.size cap) d.size (d.toList.flatMap e6))(s:Loc W Q cs 49)(o:Q≠g)(B:cs.size=17)(w:cs[4]?=some (.int .i64 order))(z:cs[5]?=some (.bool down))(A:0<=order/\order<=6)(C:d.size<=1000000):
  Calls prog 84 #[.slice (some ⟨g,0,none⟩) d.size cap,.func (.func 85) #[] #[.pointer (some ⟨Q,0,none⟩)]] W fun e W'=>e=.returned (.tuple #[])/\∃d':Array L6,d'.size=d.size/\d'.toList.Perm d.toList/\d'.toList.Pairwise (fun a b=>ltOf (fun a b:L6=>kz order down a.1 b.1) b a=false)/\W'.ownsRow 0 163 12 (.slice (some ⟨g,0,none⟩) d.size cap) d.size (d'.toList.flatMap e6)/\Kept (fun k=>k=g) W W':=by
 have h:CmpLays prog 85 #[.pointer (some ⟨Q,0,none⟩)] e6 12 (fun a b:L6=>kz order down a.1 b.1) g 0 d.size W:=by
  intro m os t _ x y;have p:Loc (sortWorldK e6 12 W g 0 m t os) Q cs 49:=(wz.block Q s.lt o).trans s;exact PV p B x.2 y.2 w z A
 have l:g<W.heap.size:=(q.lt g rfl).2;have f:=AnyQ.slices_SortFunc Tryz.C7 12 isAgg163 sizeOf163 e6 xr (fun x=>xk x.1) (fun a b:L6=>kz order down a.1 b.1) (pM order down).swo 85 #[.pointer (some ⟨Q,0,none⟩)] g 0 cap d W Tryz.QA h (K5 q rfl) l (by omega);change Calls prog 84 _ _ _ at f;refine f.mono ?_;rintro e W' ⟨rfl,d',n,os,hp,r,rfl⟩;have c:d'.size=d.size:=hp.1;refine⟨rfl,d',c,?_,?_,G0 q c,wz⟩
 ·have h1:=hp.2.2;have u:d'.extract 0 d.size=d':=by rw[<-c];simp
  have v:d.extract 0 d.size=d:=by simp
  rwa [u,v] at h1
 ·refine List.pairwise_iff_getElem.2 fun i j hi hj hij=>?_;have h1:=r i j (tJ _) hij (by rw[<-c];simpa using hj);rw[getElem!_pos d' j (by simpa using hj),getElem!_pos d' i (by simpa using hi)] at h1
  simpa using h1
theorem Iv(d:List L6):d.flatMap e6=(d.map (·.1)).flatMap gZ:=by
 rw[List.flatMap_map]
 rfl
theorem Ce{c told:List bY}(h:c.Perm told):iq order down c=iq order down told:=by
 unfold iq
 congr 1
 refine sI (pM order down) (fun a b h=>BC h) ((l8 _ _).trans (h.map sN)) ?_;have h1:=sf (pM order down) (c.map sN);exact h1
theorem QI{Q:Nat}{d:List bY}(n:W.ownsRow 0 163 12 v d.length (d.flatMap gZ))(B:∀l∈d,l.length=6)(t:Loc W Q cs 49)(I:cs.size=17)(z:cs[4]?=some (.int .i64 order))(A:cs[5]?=some (.bool down))(H:0<=order/\order<=6)(q:d.length<=1000000):
  Calls prog 84 #[v,.func (.func 85) #[] #[.pointer (some ⟨Q,0,none⟩)]] W fun e W'=>e=.returned (.tuple #[])/\W'.ownsRow 0 163 12 v d.length ((iq order down d).flatMap gZ)/\Kept (fun k=>v.ownBlock=some k) W W':=by
 rcases n.2 with ⟨s,y⟩|⟨g,cap,x,s,J,F,G,hm,C,L⟩
 ·subst s;have i:d=[]:=by cases d with|nil=>rfl|cons a r=>simp at y
  subst i;have c:=AnyF.slices_SortFunc_none Tryz.C7 none 0 (.func (.func 85) #[] #[.pointer (some ⟨Q,0,none⟩)]) W;change Calls prog 84 _ _ _ at c;refine c.mono ?_;rintro e W' ⟨rfl,hw⟩;obtain rfl:=hw.symm;refine⟨rfl,?_,Kept.refl _ _⟩;have e:iq order down []=[]:=by unfold iq ru;simp
  rw[e];exact tj _ _ _ _
 ·subst s;have j:((d.map sN).toArray).size=d.length:=by simp
  have w:((d.map sN).toArray).toList.flatMap e6=d.flatMap gZ:=by rw[Iv,List.toList_toArray,Ar B]
  have o:W.ownsRow 0 163 12 (.slice (some ⟨g,0,none⟩) ((d.map sN).toArray).size cap) ((d.map sN).toArray).size (((d.map sN).toArray).toList.flatMap e6):=by
   rw[j,w];exact n
  have K:Loc W g x 163:=F;have m:Q≠g:=by
   intro e;subst e;exact aR n t (by decide) rfl
  have c:=Sv o t m I z A H (by rw[j];exact q);rw[j] at c;refine c.mono ?_;rintro e W' ⟨rfl,u,E,hp,p,f,hk⟩;refine⟨rfl,?_,⟨hk.os,hk.tape,hk.output,hk.size,fun k hk1 hk2=>hk.block k hk1 (fun e=>hk2 (by rw[e];rfl))⟩⟩;have D:u.toList=ru (fun a b:L6=>kz order down a.1 b.1) (d.map sN):=sI (pM order down) (fun a b h=>BC h) (by simpa using hp) p;rw[D,Iv] at f;exact f
theorem dl.MG{W:World}{S:bF->Bool}(h:dl W b n S){B m:Nat}(c:W.ownsRow B T k v m xs):v.ownBlock≠some b:=by
 rcases c.2 with ⟨rfl,_⟩|⟨g,cap,d,rfl,_,a,_⟩
 ·simp[Value.ownBlock]
 ·intro e;injection e with e
  exact h.cJ a e.symm
theorem dl.by{W w:World}{b n:Nat}{S:bF->Bool}(h:dl W b n S)(he:w.heap[b]?=W.heap[b]?):dl w b n S:=by
 obtain⟨D,⟨es,c,d,r⟩,a⟩:=h;exact⟨D,⟨es,c,he.trans d,r⟩,a⟩
theorem sP{W:World}{B f m n':Nat}{c:TypeId}{d:Value}{a:List Value}(h:W.ownsRow B T k v n xs)(i:W.ownsRow f c m d n' a)(j:T≠c)(e:v.ownBlock=some b):d.ownBlock≠some b:=by
 rcases h.2 with ⟨rfl,_⟩|⟨g,cap,o,rfl,_,l,_⟩
 ·cases e
 ·injection e with e
  have e:g=b:=e;subst e;exact aR i l (Ne.symm j)
structure VG(B G:Nat)(pol:List db)(cs:Array Value)(vn ve:Value)(ns:List aH)(es:List bK)(last:Int)(m:Nat)(W:World):Prop where
 own:kN G 1 67 cs vn ve ns es last m W
 size:cs.size=6
 Te:∃vp mp,cs[0]?=some vp/\sA vp pol mp W
 Nj:cs[4]?=some (.slice none 0 0)
 NW:cs[5]?=some (.slice none 0 0)
 apart:∀x∈pol,∀y∈ns,x.2.1≠y.bJ
 base:∀b,Ma G vn ve ns b->B<=b
variable {B G m:Nat} {pol:List db} {cs:Array Value} {vn ve:Value} {ns:List aH} {es:List bK} {last:Int} {W w:World}
theorem VG.later(h:VG B G pol cs vn ve ns es last m W)(a:Below W.heap.size W w):VG B G pol cs vn ve ns es last m w:=by
 obtain⟨vp,mp,b,hp⟩:=h.Te;exact⟨h.own.later a,h.size,⟨vp,mp,b,hp.later a⟩,h.Nj,h.NW,h.apart,h.base⟩
theorem VG.row{b:Nat}(h:VG B G pol cs vn ve ns es last m W)(a:W.ownsRow b T k v n xs)(h1:T≠67)(c:T≠138)(d:T≠141)(hk:Kept (Ma G vn ve ns) W w):w.ownsRow b T k v n xs:=by
 refine oh a (fun g hg=>hk.block g (a.lt g hg).2 (fun e=>?_));rcases e with e|e|e|⟨x,f,e⟩
 ·subst e;exact aR a h.own.bJ h1 hg
 ·exact sP a h.own.on c hg e
 ·exact sP a h.own.oe d hg e
 ·subst e;exact(h.own.bf x f).j6 a hg.symm
theorem VG.S5{mp:Nat}(h:VG B G pol cs vn ve ns es last m W)(hp:sA vp pol mp W)(hk:Kept (Ma G vn ve ns) W w):sA vp pol mp w:=by
 refine⟨h.row hp.own (by decide) (by decide) (by decide) hk,fun x hx=>?_,hp.rY⟩;have a:=hp.right x hx;refine a.by (hk.block _ a.lt (fun e=>?_))
 rcases e with e|e|e|⟨y,b,e⟩
 ·exact a.cJ h.own.bJ e
 ·exact a.MG h.own.on e
 ·exact a.MG h.own.oe e
 ·exact h.apart x hx y b e.symm
theorem VG.under(h:VG B G pol cs vn ve ns es last m W)(hk:Kept (Ma G vn ve ns) W w)(a:B<=W.heap.size):Below B W w:=
 ⟨hk.os,hk.tape,hk.output,hk.size,fun b hb=>hk.block b (vH hb a) (fun e=>by have:=h.base b e;omega)⟩
end
section
open Go.RowKit Go.Maps Go.Sort
theorem Ln{G:Nat}{l:List db}(d:B<=G)(f:Loc W G #[vp,.slice none 0 0,.slice none 0 0,.int .i64 0,.slice none 0 0,.slice none 0 0] 67)(hp:sA vp l m W):VG B G l #[vp,.slice none 0 0,.slice none 0 0,.int .i64 0,.slice none 0 0,.slice none 0 0] (.slice none 0 0) (.slice none 0 0) [] [] 0 6 W:=by
 refine⟨⟨f,rfl,rfl,rfl,tj _ _ _ _,tj _ _ _ _,fun x c=>(by cases c),List.nodup_nil,List.Pairwise.nil,fun x c=>(by cases c),by decide⟩,rfl,⟨vp,m,rfl,hp⟩,rfl,rfl,fun x _ y hy=>(by cases hy),fun b a=>?_⟩;rcases a with rfl|a|a|⟨x,c,_⟩
 ·exact d
 ·cases a
 ·cases a
 ·cases c
theorem Qy:Rc ⟨[],[],0⟩:=⟨by decide,by decide,fun x hx=>(by cases hx),fun x hx=>(by cases hx),fun x hx=>(by cases hx),fun x hx=>(by cases hx),by decide⟩
end
end Go.Proofs.YtbfmmmjkjhjleaaGreatDoor
