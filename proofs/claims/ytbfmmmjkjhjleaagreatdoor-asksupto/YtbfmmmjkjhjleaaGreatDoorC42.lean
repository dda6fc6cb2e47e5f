/- Mine. -/
import Derived.Test.YtbfmmmjkjhjleaaGreatDoorC36
import Derived.Test.YtbfmmmjkjhjleaaGreatDoorC41
import Derived.Test.YtbfmmmjkjhjleaaGreatDoorC39
set_option maxRecDepth 100000
set_option maxHeartbeats 0
namespace Go.Proofs.YtbfmmmjkjhjleaaGreatDoor
open Go.Proofs.Tryz
variable {α:Type} {F:SF} {rv:Value} {W:World}
section
open Go.RowKit
theorem vU{P:Program}{ops:Array Oper}{C:World->Prop}{Q:Act->Prop}{a:Act}{o:Oper}{rest:List Oper}(hw:Region.wanted o (yielded ops a.tmps)=true)(c:TypeId)(x:Operand)(g:o.op=.load c x)(b k:Nat)(i:a.eval x=.pointer (some ⟨b,k,none⟩))(cs:List Value)(d:TypeDesc)(hC:∀w,C w->w.rangeAt b k cs)(hu:P.underlying c=some d)(f:d.isRow=true)(hi:(P.info? c).map (·.size)=some cs.length)
  (h:wpQuiet P ops C Q rest (a.put o.dst (.agg cs.toArray))):wpQuiet P ops C Q (o::rest) a:=by
 unfold wpQuiet;rw[a8 hw];refine⟨_,fun w hcw=>?_,h⟩;unfold Oper.quietAt execOp;simp only[g,i,Instr.loadAt,Instr.sureAddr,Sem.run_bind,Sem.run_pure,Result.andThen_ok,run_loadVar_mid w b k c cs d (hC w hcw) hu f hi];exact⟨rfl,rfl⟩
structure Kc(B:Nat)(ov:Value)(vals:List Value)(outs:List VL)(w:World):Prop where
 row:w.ownsRow B 204 1 ov outs.length vals
 each:∀(i:Nat) (h:i<outs.length),∃v,vals[i]?=some v/\w.ownsRow B 209 2 v outs[i].length (outs[i].flatMap vC)
variable {B:Nat} {ov:Value} {vals:List Value} {outs:List VL} {w w2:World}
theorem Kc.below(h:Kc B ov vals outs w)(a:Below w.heap.size w w2):Kc B ov vals outs w2:=
 ⟨h.row.kept (ag a none) (by cases ov.ownBlock<;>simp),fun i hi=>by
  obtain⟨v,c,b⟩:=h.each i hi;exact⟨v,c,b.kept (ag a none) (by cases v.ownBlock<;>simp)⟩⟩
theorem Kc.at_{a f:Nat}(h:Kc B (.slice (some ⟨a,0,none⟩) outs.length f) vals outs w){j:Nat}(c:j<outs.length)(hp:0<outs[j].length):∃g cap,w.cell? ⟨a,j,none⟩=some (.slice (some ⟨g,0,none⟩) outs[j].length cap)/\w.ownsRow B 209 2 (.slice (some ⟨g,0,none⟩) outs[j].length cap) outs[j].length (outs[j].flatMap vC)/\w.frozen? ⟨a,j,none⟩=false:=by
 obtain⟨v,d,b⟩:=h.each j c;obtain⟨g,cap,rfl⟩:=pI b hp;refine⟨g,cap,?_,b,h.row.frozenAt _⟩;rw[h.row.cellAt j (by omega)];exact d
theorem Kc.put{b c j:Nat}{v:Value}{y:VL}(h:Kc B (.slice (some ⟨b,0,none⟩) outs.length c) vals outs w)(g:w.ownsRow B 209 2 v y.length (y.flatMap vC))(k:j<outs.length):Kc B (.slice (some ⟨b,0,none⟩) (outs.set j y).length c) (vals.set j v) (outs.set j y) (w.setCell ⟨b,j,none⟩ v):=by
 have g2:=aE w b j v;have hk:∀{n:Nat} {u:Value} {x:List Value},w.ownsRow B 209 2 u n x->(w.setCell ⟨b,j,none⟩ v).ownsRow B 209 2 u n x:=fun hu=>hu.kept g2 (bT hu h.row (by decide));have f:vals.length=outs.length:=by have:=h.row.1;omega
 refine⟨by rw[zp];exact(h.row.stored j v).1,fun i hi=>?_⟩;rw[zp] at hi;by_cases a:j=i
 ·subst a;refine⟨v,by rw[List.getElem?_set_self (by omega)],?_⟩;rw[List.getElem_set_self];exact hk g
 ·obtain⟨u,hu,d⟩:=h.each i hi;refine⟨u,by rw[List.getElem?_set_ne a];exact hu,?_⟩;rw[List.getElem_set_ne a];exact hk d
theorem Jl{lt:α->α->Bool}{k:Nat}{l:List α}{a b:α}(c:l[k+1]?=some a)(d:l[k]?=some b)(h:lt a b=true):kR lt (k+1) l=kR lt k ((l.set (k+1) b).set k a):=by
 conv=>lhs;unfold kR
 rw[c,d];simp only;rw[a8 h]
theorem MB{lt:α->α->Bool}{k:Nat}{l:List α}{a b:α}(c:l[k+1]?=some a)(d:l[k]?=some b)(h:lt a b=false):kR lt (k+1) l=l:=by
 unfold kR;rw[c,d];simp only;rw[bk (by simp[h])]
theorem K7(lt:α->α->Bool)(l:List α):∀n,n<=l.length->(gY lt l n).length=l.length:=fun n hn=>by
 rw[rU lt l n hn,r7,List.length_reverse,xe lt l n hn,x9];omega
theorem xw{rows:List (List Nat)}(a:qp F)(c:rows.length<=5001):(iI F rows).length<=5002/\∀l∈iI F rows,l.length=F.q.af.length/\∀m,some m∈l->nY m:=by
 have h1:=xm a rows rows.length (rm _) (by omega);have b:=rQ F rows rows.length (rm _);rw[yt] at h1 b;unfold iI vP;split
 ·refine⟨by simp,fun l hl=>?_⟩;rw[List.mem_singleton.1 hl];refine⟨by simp,fun m hm=>?_⟩;have:=(List.mem_replicate.1 hm).2;injection this with this
  rw[this];unfold nY;omega
 ·exact⟨by omega,fun l hl=>⟨(h1 l hl).1,(h1 l hl).2.1⟩⟩
theorem Bl{α:Type}(skip aX:Int)(l:List α):∀n,(iM skip aX l n).length<=n
 | 0=>rm _
 | n+1=>by
  unfold iM;have:=Bl skip aX l n;rw[r7];split
  ·cases l[n]?<;>simp<;>omega
  ·simp;omega
def jK(F:SF)(rows:List (List Nat)):List VL:=gY (gG F.q.order F.q.down) (iI F rows) (iI F rows).length
def vF(F:SF)(rows:List (List Nat)):List ByteArray:=(iM F.q.skip F.q.aX (jK F rows) (jK F rows).length).map sd
theorem Pr{S:Nat}{W0:World}{cost:Int}{Ag:List Value}{rows:List (List Nat)}(h:kM S F W0 cost rv Ag rows W)(A3:∀r∈rows,r.length=F.q.ah.length/\∀i∈r,i<F.sm.length)(Bq:0<F.q.ah.length)(hit:0<F.q.af.length)(Q:qp F)(B2:rows.length<=5001)(Bn:F.q.order<=F.q.af.length)(C5:0<=F.q.skip/\F.q.skip<=1000000000)(C2:-1<=F.q.aX/\F.q.aX<=1000000000):
  Calls prog 63 #[.pointer (some ⟨S,0,none⟩)] W fun e W'=>(∃v,e=.returned v/\W'.ownsRow W.heap.size 9 1 v (vF F rows).length (strs (vF F rows)))/\Below W.heap.size W W':=by
 obtain⟨i1,hj,B3,B4,B6⟩:=info_parts Tryz.gV;have T:=p9 (And.intro hj (And.intro B3 (And.intro B4 B6)));clear hj B3 B4 B6;have I:=p9 (xw (rows:=rows) Q B2);have Aj:=p9 (JP h A3 Bq hit Q B2);have Bj:=h.fx.small.2.2.1;have Ao:qv (∀z,Below W.heap.size W z->z.rangeAt S 0 (qC F.q F.vs F.vc F.vi F.vp).toList/\z.cell? ⟨S,6,none⟩=some (.int .i64 F.q.skip)/\z.cell? ⟨S,7,none⟩=some (.int .i64 F.q.aX)):=p9 (fun z hz=>by
  have hl:=(h.below hz).bJ;refine⟨fun j u hu=>?_,(hl.cell 6).trans rfl,(hl.cell 7).trans rfl⟩;refine hl.range j u ?_;have e:(sC F cost rv).toList=(qC F.q F.vs F.vc F.vi F.vp).toList++[F.nv,.slice none 0 0,.int .i64 cost,.int .i64 F.bud,rv]:=rfl;rw[e,Mc (List.getElem?_eq_some_iff.1 hu).1];exact hu)
 have Be:qv ((prog.info? 49).map (fun i=>i.size)=some (qC F.q F.vs F.vc F.vi F.vp).toList.length):=p9 (by kernel_rfl);clear h A3 Q;go_enter func63,ntmps63
 go_wp2_with fail;refine Aj.o.mono ?_;rintro e W1 ⟨⟨ov,Br,rfl,s⟩,Av⟩;have K:=p9 s;have B7:=p9 Av;clear s Av Aj;have M:qv (jK F rows=gY (gG F.q.order F.q.down) (iI F rows) (iI F rows).length):=p9 rfl;have Au:qv (vF F rows=(iM F.q.skip F.q.aX (jK F rows) (jK F rows).length).map sd):=p9 rfl;obtain⟨outs,B1⟩:∃outs,iI F rows=outs:=⟨_,rfl⟩;rw[B1] at K I M;clear B1;have C4:=I.o.1;have Ba:qv (∀n,gY (gG F.q.order F.q.down) outs (n+1)=kR (gG F.q.order F.q.down) n (gY (gG F.q.order F.q.down) outs n)):=p9 (fun _=>rfl);have N:qv (∀n,n<=outs.length->(gY (gG F.q.order F.q.down) outs n).length=outs.length/\∀o∈gY (gG F.q.order F.q.down) outs n,o.length=F.q.af.length):=p9 (fun n hn=>⟨K7 _ _ n hn,fun o s=>(I.o.2 o ((ma (lt:=gG F.q.order F.q.down) (lt':=gG F.q.order F.q.down) (l:=outs) (fun _ _ _ _=>rfl) n).2 o s)).1⟩);obtain⟨oa,oc,Bo⟩:=aV K.o.row;subst Bo;go_upto_block 0 with fail;go_cut [] (fun z=>∃a,Kc W.heap.size (.slice oa outs.length oc) a (gY (gG F.q.order F.q.down) outs outs.length) z/\Below W.heap.size W z)
 case first=>
  go_wp2_with fail;go_loopg [4] outs.length (fun c iv z=>∃(n:Nat) (a:List Value),iv=.int .i64 (n:Int)/\n+c=outs.length/\Kc W.heap.size (.slice oa outs.length oc) a (gY (gG F.q.order F.q.down) outs n) z/\Below W.heap.size W z)
  case atStart=>exact⟨0,Br,rfl,by omega,⟨K.o.row,K.o.each⟩,B7.o⟩
  case round=>
   obtain⟨n,a,rfl,Az,ht,E⟩:=hrel;have HT:=p9 ht;have HB:=p9 E;clear ht E;by_cases C3:n<outs.length
   ·have Bm:(n:Int)<(outs.length:Int):=by omega
    obtain⟨gO,Bi⟩:∃gO,gO=gk:=⟨_,rfl⟩;subst Bi;have Y:=p9 Az;clear Az;obtain⟨t,rfl⟩:∃t,oa=some ⟨t,0,none⟩:=by
     have hr:=HT.o.row;rw[(N.o n (by omega)).1] at hr;obtain⟨g,cap,hv⟩:=pI hr (by omega);injection hv with hv
     exact⟨g,hv⟩
    go_wp2_with fail;go_loopg [5] n (fun c kv z=>∃(m:List VL) (a:List Value),kv=.int .i64 (c:Int)/\c<=n/\m.length=outs.length/\(∀o∈m,o.length=F.q.af.length)/\kR (gG F.q.order F.q.down) c m=gY (gG F.q.order F.q.down) outs (n+1)/\Kc W.heap.size (.slice (some ⟨t,0,none⟩) outs.length oc) a m z/\Below W.heap.size W z)
    case atStart=>exact⟨gY (gG F.q.order F.q.down) outs n,a,rfl,rm _,(N.o n (by omega)).1,(N.o n (by omega)).2,rfl,HT.o,HB.o⟩
    case round=>
     obtain⟨m,a,rfl,Bh,Ay,Ax,A4,ht,E⟩:=hrel;have J:=p9 Ay;have X:=p9 Ax;have A8:=p9 A4;have HM:=p9 ht;have D:=p9 E;clear Ay Ax A4 ht E HT HB;go_upto_region 6 with fail;by_cases Ac:gk=0
     ·have HE:qv (m=gY (gG F.q.order F.q.down) outs (n+1)):=p9 (by have:=A8.o;rw[Ac] at this;exact this);rw[show ((gk:Nat):Int)=0 by omega];clear Ac Bh;refine wp_region_noPanic ?_;refine wp_region_held_drew (S:=fun _=>True) (by kernel_rfl) trivial (fun hHeld0=>?_);refine mB [0,1,2,3,4,5,6,7,8,9,10,11,12,13,14,15,16,17] (by kernel_rfl) hHeld0 ?_
      iterate 3
       apply eH.one rfl (by rfl)
       ·intro w A9;obtain _:=A9;go_simp;(try with_reducible rfl)
       simp only[Act.put,tp,r9,tk,vm,vk,ud]
      iterate 14
       refine eH.skip rfl (by kernel_rfl) ?_;simp only[Act.put,tp,r9,tk,vm,vk,ud]
      iterate 1
       apply eH.one rfl (by rfl)
       ·intro w A9;obtain _:=A9;go_simp;(try with_reducible rfl)
       simp only[Act.put,tp,r9,tk,vm,vk,ud]
      refine wpAnyH_done (by kernel_rfl) ?_ _;refine NoPanic.normal ?_;clear hHeld0;go_simp;have A:qv (Below wr.heap.size wr wr.drew):=p9 (below_drewN (r5 wr.heap.size wr) 1);go_wp2_with fail;go_roundg (gO - 1)
      case measure=>have:=Y.o;omega
      case rel=>exact⟨n+1,a,by simp,by have:=Y.o;omega,by rw[<-HE.o];exact HM.o.below A.o,D.o.trans (A.o.mono D.o.size)⟩
     ·obtain⟨k,rfl⟩:∃k,gk=k+1:=⟨gk - 1,by omega⟩;clear Ac;have hz:(0:Int)<(k:Int)+1:=by omega
      have Bw:0<=(k:Int):=by omega
      have By:0<=(k:Int)+1:=by omega
      have Bx:(k:Int)<=5002:=by omega
      have C1:(k:Int)<(outs.length:Int):=by omega
      have Bs:(k:Int)+1<(outs.length:Int):=by omega
      have C6:IntKind.i64.wrap ((k:Int)+1 - 1)=(k:Int):=by rw[IntKind.wrap_i64];omega
      have Bt:IntKind.i64.wrap (k:Int)=(k:Int):=by rw[IntKind.wrap_i64];omega
      have A0:k+1<m.length:=by rw[J.o];omega
      have Z:k<m.length:=by omega
      have f:=p9 (X.o m[k+1] (sT A0));have B:=p9 (X.o m[k] (sT Z));have V:qv (Kc W.heap.size (.slice (some ⟨t,0,none⟩) m.length oc) a m wr):=p9 (by rw[J.o];exact HM.o);obtain⟨g1,c1,a1,r1,-⟩:=V.o.at_ A0 (by rw[f.o];exact hit);obtain⟨g2,c2,a2,r2,-⟩:=V.o.at_ Z (by rw[B.o];exact hit);obtain⟨x,hx⟩:∃x,m[k+1]=x:=⟨_,rfl⟩;obtain⟨y,hy⟩:∃y,m[k]=y:=⟨_,rfl⟩;have HX:qv (m[k+1]?=some x):=p9 (by rw[r6 A0,hx]);have HY:qv (m[k]?=some y):=p9 (by rw[r6 Z,hy]);rw[hx] at a1 r1 f;rw[hy] at a2 r2 B;rw[f.o] at a1 r1;rw[B.o] at a2 r2;have Ap:=p9 r1;have Aq:=p9 r2;have HS:qv (∀z,Below wr.heap.size wr z->z.cell? ⟨t,k,none⟩=some (.slice (some ⟨g2,0,none⟩) F.q.af.length c2)/\z.cell? ⟨t,k+1,none⟩=some (.slice (some ⟨g1,0,none⟩) F.q.af.length c1)/\z.rangeAt S 0 (qC F.q F.vs F.vc F.vi F.vp).toList):=p9 (fun z hz=>⟨(hz.cell (block_lt_of_cell a2)).trans a2,(hz.cell (block_lt_of_cell a1)).trans a1,(Ao.o z (D.o.trans (hz.mono D.o.size))).1⟩);have Am:qv (∀d os,Calls prog 106 #[.agg (qC F.q F.vs F.vc F.vi F.vp),.slice (some ⟨g1,0,none⟩) F.q.af.length c1,.slice (some ⟨g2,0,none⟩) F.q.af.length c2] (Go.Sort.grow (redrawn wr d) os) fun e w''=>e=.returned (.bool (gG F.q.order F.q.down x y))/\∃p:Regrown,w''=Go.Sort.grow (redrawn wr p.d) p.os):=p9 (fun d os=>Calls.regrown_of (QF (by rw[f.o];exact(aJ r1 (by rw[B5,f.o])).below (below_regrown wr d os)) (by rw[B.o];exact(aJ r2 (by rw[B5,B.o])).below (below_regrown wr d os)) (by rw[f.o,B.o]) (by rw[f.o];omega) (by rw[f.o];exact Bn)));have q1:=cell_regrown a1;have q2:=cell_regrown a2;clear hx hy r1 r2 a1 a2;refine wp_region_quiet_below (by kernel_rfl) (by kernel_rfl) ?_
      iterate 6 (quiet_step (fail))
      refine vU (by first|rfl|go_simp) 49 _ rfl S 0 rfl (qC F.q F.vs F.vc F.vi F.vp).toList _ (fun w hw=>by obtain⟨⟨dq,Af⟩,rfl⟩:=hw;exact(HS.o _ (below_regrown wr dq Af)).2.2) underlying49 rfl Be.o ?_;rw[DI]
      iterate 9 (quiet_step (fail))
      quiet_step (exact Am.o _ _)
      quiet_step (fail)
      refine wpQuiet_nil ?_;intro W5 hw;have A:qv (Below wr.heap.size wr W5):=p9 (by obtain⟨⟨dq,Af⟩,rfl⟩:=hw;exact below_regrown wr dq Af);clear hw q1 q2;have G:=p9 (V.o.below A.o);have A2:=p9 (Ap.o.kept (ag A.o none) (by cases (Value.ownBlock _)<;>simp));have Ar:=p9 (Aq.o.kept (ag A.o none) (by cases (Value.ownBlock _)<;>simp));have A1:=p9 (D.o.trans (A.o.mono D.o.size));obtain⟨b2,b1,-⟩:=HS.o W5 A.o;clear HS Am HM V Ap Aq D A;cases Aw:gG F.q.order F.q.down x y with
      | false=>
       have HE:qv (m=gY (gG F.q.order F.q.down) outs (n+1)):=p9 (by rw[<-A8.o,MB HX.o HY.o Aw]);go_wp2_with fail;go_roundg (gO - 1)
       case measure=>have:=Y.o;omega
       case rel=>exact⟨n+1,a,by simp,by have:=Y.o;omega,by rw[<-HE.o,<-J.o];exact G.o,A1.o⟩
      | true=>
       have HE:=p9 (Jl HX.o HY.o Aw);have f1:=G.o.row.frozenAt (k+1);have f0:=G.o.row.frozenAt k;have A7:=p9 (G.o.put (v:=.slice (some ⟨g2,0,none⟩) F.q.af.length c2) (y:=y) (by rw[B.o];exact Ar.o) A0);have B9:qv ((W5.setCell ⟨t,k+1,none⟩ (.slice (some ⟨g2,0,none⟩) F.q.af.length c2)).ownsRow W.heap.size 209 2 (.slice (some ⟨g1,0,none⟩) F.q.af.length c1) F.q.af.length (x.flatMap vC)):=p9 (A2.o.kept (aE W5 t (k+1) _) (bT A2.o G.o.row (by decide)));have Bd:=p9 (A7.o.put (j:=k) (v:=.slice (some ⟨g1,0,none⟩) F.q.af.length c1) (y:=x) (by rw[f.o];exact B9.o) (by rw[zp];omega));have f2:(W5.setCell ⟨t,k+1,none⟩ (.slice (some ⟨g2,0,none⟩) F.q.af.length c2)).frozen? ⟨t,k,none⟩=false:=A7.o.row.frozenAt k;have b3:((W5.setCell ⟨t,k+1,none⟩ (.slice (some ⟨g2,0,none⟩) F.q.af.length c2)).cell? ⟨t,k,none⟩).isSome=true:=by
        obtain⟨gg,cc,h3,-⟩:=A7.o.at_ (j:=k) (by rw[zp];omega) (by rw[List.getElem_set_ne (by omega)];rw[X.o _ (sT Z)];exact hit);rw[h3];rfl
       have Ak:qv (W.heap.size<=t):=p9 (G.o.row.lt t rfl).1;go_wp2_with fail;go_roundg k
       case measure=>omega
       case rel=>
        refine⟨(m.set (k+1) y).set k x,(a.set (k+1) (.slice (some ⟨g2,0,none⟩) F.q.af.length c2)).set k (.slice (some ⟨g1,0,none⟩) F.q.af.length c1),by simp,by omega,by rw[zp,zp];exact J.o,fun o s=>?_,by rw[<-HE.o];exact A8.o,?_,(A1.o.setCell (p:=⟨t,k+1,none⟩) Ak.o _).setCell (p:=⟨t,k,none⟩) Ak.o _⟩
        ·rcases RN s with s|s
         ·rcases RN s with s|s
          ·exact X.o o s
          ·rw[s];exact B.o
         ·rw[s];exact f.o
        ·have:=Bd.o;rw[zp,zp,J.o] at this;exact this
   ·have Bm:¬(n:Int)<(outs.length:Int):=by omega
    obtain rfl:n=outs.length:=by omega
    go_wp2_with fail;go_meet
    case rel=>exact⟨a,HT.o,HB.o⟩
 case rest=>
  obtain⟨a,ht,E⟩:=hcut;obtain⟨W2,rfl⟩:∃W2,W2=wc:=⟨_,rfl⟩;have A6:qv ((jK F rows).length=outs.length):=p9 (by rw[M.o];exact(N.o _ (rm _)).1);have Al:qv (∀o∈jK F rows,o.length=F.q.af.length/\∀n,some n∈o->nY n):=p9 (fun o s=>by
   rw[M.o] at s;exact I.o.2 o ((ma (lt:=gG F.q.order F.q.down) (lt':=gG F.q.order F.q.down) (l:=outs) (fun _ _ _ _=>rfl) outs.length).2 o s))
  rw[<-M.o] at ht;have HT:=p9 ht;have HB:=p9 E;clear ht E K N I Ba;obtain⟨L,hL⟩:∃L,jK F rows=L:=⟨_,rfl⟩;rw[hL] at HT A6 Al Au;clear hL M;go_wp2_with fail;go_loopg [7,8] L.length (fun c tv kv z=>∃k:Nat,kv=.int .i64 (k:Int)/\k+c=L.length/\z.ownsRow W2.heap.size 9 1 tv (iM F.q.skip F.q.aX L k).length (strs ((iM F.q.skip F.q.aX L k).map sd))/\Below W2.heap.size W2 z)
  case atStart=>exact⟨0,rfl,by omega,tj _ _ _ _,r5 _ _⟩
  case round=>
   obtain⟨k,rfl,C0,s,E⟩:=hrel;have HO:=p9 s;have H:=p9 E;have Ai:=p9 (HB.o.trans (E.mono HB.o.size));clear s E;have Bv:=A6.o;by_cases Ad:k<L.length
   ·have Bk:(k:Int)<(outs.length:Int):=by omega
    obtain⟨-,q6,q7⟩:=Ao.o wr Ai.o;have C:qv (iM F.q.skip F.q.aX L (k+1)=iM F.q.skip F.q.aX L k++(if F.q.skip<=(k:Int)/\(F.q.aX<0\/(k:Int) - F.q.skip<F.q.aX) then [L[k]] else [])):=p9 (by
     conv=>lhs;unfold iM
     rw[r6 Ad]
     rfl)
    have Bp:(iM F.q.skip F.q.aX L k).length<=k:=Bl _ _ _ _;have Bz:(k:Int)<=5002:=by omega
    have U:=p9 (Al.o L[k] (sT Ad));have As:qv (Kc W.heap.size (.slice oa L.length oc) a L wr):=p9 (by rw[A6.o];exact HT.o.below H.o);obtain⟨t,rfl⟩:∃t,oa=some ⟨t,0,none⟩:=by
     obtain⟨g,cap,hv⟩:=pI As.o.row (by omega);injection hv with hv
     exact⟨g,hv⟩
    obtain⟨g,cp,aL,rL,-⟩:=As.o.at_ Ad (by rw[U.o.1];exact hit);obtain⟨l,hl⟩:∃l,L[k]=l:=⟨_,rfl⟩;rw[hl] at C U aL rL;clear hl;have Bf:=p9 rL;clear rL;generalize iM F.q.skip F.q.aX L k=pk at C HO Bp;have Bu:qv (∀nq,iM F.q.skip F.q.aX L (k+1)=pk->∃k':Nat,Value.int .i64 ((k:Int)+1)=.int .i64 (k':Int)/\k'+(gk - 1)=L.length):=p9 (fun _ _=>⟨k+1,by simp,by omega⟩);go_upto_region 15 with fail;by_cases h1:F.q.skip<=(k:Int)
    ·by_cases h2:F.q.aX<0\/(k:Int) - F.q.skip<F.q.aX
     ·rw[a8 ⟨h1,h2⟩] at C;go_cut [90] (fun bv z=>bv=.bool true/\Below wr.heap.size wr z)
      case first=>
       by_cases h3:F.q.aX<0
       ·go_quiet (fail)
        go_wp2_with fail;go_meet
        case rel=>exact⟨rfl,Joins.below_draws _ wr nq⟩
       ·have h4:(k:Int) - F.q.skip<F.q.aX:=h2.resolve_left h3;go_quiet (fail)
        go_wp2_with fail;go_meet
        case rel=>exact⟨rfl,Joins.below_draws _ wr nq⟩
      case rest=>
       obtain⟨rfl,O⟩:=hcut;have Ah:=p9 (H.o.trans (O.mono H.o.size));have aL:wc.cell? ⟨t,k,none⟩=some (.slice (some ⟨g,0,none⟩) l.length cp):=(O.cell (block_lt_of_cell aL)).trans aL;have Bc:=p9 (HO.o.kept (ag O none) (by cases (Value.ownBlock _)<;>simp));have At:=p9 (QQ (W:=wc) ((aJ Bf.o (B5 l)).below O) (by rw[U.o.1];exact Bj) U.o.2);obtain⟨tx,Ae⟩:∃tx,sd l=tx:=⟨_,rfl⟩;have Bg:=p9 Ae;rw[Ae] at At;clear O Ae;go_wp2_with (first|(go_at_call 107;refine At.o.mono ?_;rintro e w5 ⟨rfl,Aa⟩;have An:=p9 ((Bc.o.kept (ag Aa none) (by cases (Value.ownBlock _)<;>simp)).alloc (.cells #[.string tx] 9));have Ab:=Ah.o.trans (Aa.mono Ah.o.size);have A5:=p9 (Ab.alloc Ab.size (.cells #[.string tx] 9));clear Aa Ab)|(at_builtin;go_must (refine wpList_append_own _ rfl _ _ 34 rfl W2.heap.size 9 i1 (.string ⟨#[]⟩) 1 16 underlying34 T.o.1 T.o.2.1 T.o.2.2.1 T.o.2.2.2 rfl (by decide) _ _ _ rfl An.o ⟨w5.heap.size,0,none⟩ 1 1 [.string tx] rfl rfl (World.news_of_block (heap_alloc_new w5 _)) (by simp[Value.oneCell']) (by unfold maxLen;omega) (by omega) A5.o.size ?_);intro v' w6 R P B0;have Bb:=p9 R;have B8:=p9 P;clear R P B0))
       go_roundg (gk - 1)
       case measure=>omega
       case rel=>
        refine⟨k+1,by simp,by omega,?_,A5.o.grown B8.o A5.o.size fun b E=>(An.o.lt b E).1⟩;rw[C.o,r7,vb];have:=Bb.o
        simpa [strs,Bg.o] using this
     ·rw[bk (fun h=>h2 h.2),x8] at C;have h3:¬F.q.aX<0:=fun h=>h2 (ad h);have h4:¬(k:Int) - F.q.skip<F.q.aX:=fun h=>h2 (a6 h);clear h2;go_quiet (fail)
      go_wp2_with fail;go_roundg (gk - 1)
      case measure=>omega
      case rel=>exact⟨k+1,by simp,by omega,by rw[C.o];exact HO.o.kept (fh _ nq none) (by cases (Value.ownBlock _)<;>simp),H.o.trans (Joins.below_draws _ wr nq)⟩
    ·rw[bk (fun h=>h1 h.1),x8] at C;go_quiet (fail)
     go_wp2_with fail;go_roundg (gk - 1)
     case measure=>omega
     case rel=>exact⟨k+1,by simp,by omega,by rw[C.o];exact HO.o.kept (fh _ nq none) (by cases (Value.ownBlock _)<;>simp),H.o.trans (Joins.below_draws _ wr nq)⟩
   ·have Bk:¬(k:Int)<(outs.length:Int):=by omega
    obtain rfl:k=L.length:=by omega
    go_wp2_with fail;go_ret;refine⟨⟨_,rfl,?_⟩,Ai.o⟩;rw[Au.o,tB];exact fo HO.o HB.o.size
end
section
open Go.RowKit
theorem KF{q:aI}(h:fF q=true):∀n∈lO q,lj q.ah n:=by
 intro n a;unfold fF at h;rw[wa] at h;have h1:=List.all_eq_true.1 h.1 n a;rw[zd] at h1;rcases h1 with h1|h1
 ·exact ad h1
 ·unfold dQ at h1;obtain⟨s,b,he⟩:=List.any_eq_true.1 h1;obtain⟨k,hk,rfl⟩:=zc b;unfold jb at he;exact a6 ⟨k,hk,(jX (by simpa using he)).trans (jX rfl).symm⟩
theorem Af{α:Type}{skip aX:Int}{l:List α}:∀n,∀x∈iM skip aX l n,x∈l
 | 0,x,h=>by cases h
 | n+1,x,h=>by
  unfold iM at h;rcases List.mem_append.1 h with h|h
  ·exact Af n x h
  ·split at h
   ·cases hx:l[n]? with
    | none=>rw[hx] at h;cases h
    | some y=>
     rw[hx] at h;have hxy:x=y:=by simpa using h
     rw[hxy];exact zs hx
   ·cases h
theorem JG{b:List aH}(y:nO F.sm b)(D:0<=F.bud)(r:fF F.q=true)(a:∀s,F.q.ah[0]?=some s->s.type.toList.isEmpty=true)(B:0<F.q.af.length)(w:F.q.af.length<=6)(t:0<=F.q.skip)(d:qp F)(m:(fk F).2.length<=5001):
  ((fk F).1<=F.bud->ew b [] F.q F.bud=(vF F (fk F).2,0))/\(¬(fk F).1<=F.bud->ew b [] F.q F.bud=([],6)):=by
 have p:=KF r;have i:=Kz y D (fun c hc=>⟨p _ (by unfold lO;simp only[Is,List.mem_flatMap];exact ad (ad ⟨c,hc,by simp⟩)),p _ (by unfold lO;simp only[Is,List.mem_flatMap];exact ad (ad ⟨c,hc,by simp⟩))⟩) a;have hit:∀x∈F.q.af,lj F.q.ah x.name:=fun x hx=>p _ (by unfold lO;simp only[Is,List.mem_map];exact ad (a6 ⟨x,hx,rfl⟩));rcases i with ⟨h1,v,C⟩|⟨h1,v⟩
 ·refine⟨fun _=>?_,fun h=>absurd h1 h⟩;unfold ew;rw[a8 v,C,F6];have j:=Hh y B w hit (fk F).2 (wx a);have g:=xw (rows:=(fk F).2) d m;have u:=CX (order:=F.q.order) (down:=F.q.down) (n:=F.q.af.length) w (fun o ho=>(g.2 o ho).1) j;have z:(fk F).2.map ((fB b F.q.af) ∘ (eO b F.q.ah))=(fk F).2.map (nt F b):=rfl;rw[z,<-u]
  congr 1
  have k:∀o∈jK F (fk F).2,o.length=F.q.af.length:=fun o ho=>(g.2 o ((ma (lt:=gG F.q.order F.q.down) (lt':=gG F.q.order F.q.down) (l:=iI F (fk F).2) (fun _ _ _ _=>rfl) _).2 o ho)).1;unfold vF;have A:jC F.q.skip F.q.aX ((jK F (fk F).2).map lU)=(iM F.q.skip F.q.aX (jK F (fk F).2) (jK F (fk F).2).length).map lU:=by
   rw[E6,<-tB (f:=lU),Pp t]
   rfl
  show (jC F.q.skip F.q.aX ((jK F (fk F).2).map lU)).map _=_;rw[A,F6];refine P4 fun o ho=>?_;show iG F.q.af.length (lU o)=sd o;rw[PT,k o (Af _ o ho)]
 ·refine⟨fun h=>absurd h (by omega),fun _=>?_⟩;unfold ew;rw[bk (by omega)]
def pF(gb:Nat)(rv nv:Value)(rl:List eT)(pol:List db)(W:World)(R:(List ByteArray × Int) × wO)(e:Ending)(W':World):Prop:=
 (∃v,e=.returned (.tuple #[v,.int .i64 R.1.2])/\W'.ownsRow W.heap.size 9 1 v R.1.1.length (strs R.1.1))/\∃nv' ns' last',RG gb rv rl nv' ns' last' W'/\ml rl ns' last' pol R.2/\Kept (BH gb nv) W W'/\∀b,nv'.ownBlock=some b->nv.ownBlock=some b\/W.heap.size<=b
theorem pF.same{gb:Nat}{b v:Value}{c:List eT}{ns:List NM}{last er:Int}{pol:List db}{g:wO}{w:World}{l:List ByteArray}(h:RG gb rv c b ns last W)(f:ml c ns last pol g)(a:Below W.heap.size W w)(d:w.ownsRow W.heap.size 9 1 v l.length (strs l)):pF gb rv b c pol W ((l,er),g) (.returned (.tuple #[v,.int .i64 er])) w:=
 ⟨⟨v,rfl,d⟩,b,ns,last,h.below a,f,(Kept.refl _ _).below a,fun _ a=>ad a⟩
theorem Ss{gb:Nat}{nv:Value}{D:List eT}{ns:List NM}{last:Int}{pol:List db}{g:wO}{role text:ByteArray}{budget:Int}(h:RG gb rv D nv ns last W)(hr:ml D ns last pol g)(hs:text.size<=maxLen)(Br:nY budget)(hk:(parseText (dN text)).2=0->(parseText (dN text)).1.kind=1\/(parseText (dN text)).1.kind=5):
  Calls prog 25 #[.pointer (some ⟨gb,0,none⟩),.string role,.string text,.int .i64 budget] W (pF gb rv nv D pol W (mQ pol g role text budget)):=by
 have At:=p9 (Lo (nm:=role) h.bJ rfl (aJ h.vZ (xD D)) (by have:=hr.rY;omega));have H:=p9 h;have d:=p9 hr;have HS:=p9 hs;have HK:=p9 hk;obtain⟨C0,C1⟩:=Br;clear h hr hs hk;go_enter func25,ntmps25
 go_wp2_with fail;refine At.o.mono ?_;rintro e W1 ⟨⟨r,rfl,B2⟩,hw⟩;obtain rfl:=hw.symm;have Bv:=d.o.role B2;clear B2 At;rcases Bv with ⟨rfl,hf⟩|⟨k,h1,h2,rfl,hf,hrel⟩
 ·have HR:qv (mQ pol g role text budget=(([],2),g)):=p9 (by unfold mQ;rw[hf]);clear hf;go_wp2_with fail;go_ret2;rw[HR.o];exact pF.same H.o d.o (r5 _ _) (tj _ _ _ _)
 have HR:qv (mQ pol g role text budget=if (parseText (dN text)).2=0 then yk pol[k].2.2 g (parseText (dN text)).1 (vE budget) else (([],(parseText (dN text)).2),g)):=p9 (by unfold mQ;rw[hf]);have i:qv (mq (zE D[k]) (pol[k].1,pol[k].2.2)):=p9 hrel;have u:=p9 (d.o.AQ D[k] (sT h1));have P:=p9 (H.o.AQ D[k] (sT h1));have C4:(k:Int)<6:=by have:=d.o.rY;omega
 have C5:(k:Int)<(D.length:Int):=by omega
 have C6:¬(k:Int)<0:=by omega
 obtain⟨ra,rc,Ah⟩:=aV H.o.vZ;have Bn:qv (∀z,Below W.heap.size W z->z.cell? ⟨gb,0,none⟩=some (.slice ra D.length rc)/\dj z 2 (.slice ra D.length rc) D.length (D.flatMap Eb)):=p9 (fun z hz=>by
  have hg:=H.o.below hz;refine⟨(hg.bJ.cell 0).trans (by rw[<-Ah];rfl),?_⟩;rw[<-Ah];exact aJ hg.vZ (xD D))
 obtain⟨⟨A,tv,rs⟩,Ag⟩:∃x,D[k]=x:=⟨_,rfl⟩;have Bo:=p9 Ag;rw[Ag] at i u P;generalize pol[k].2.2=S at HR i;generalize pol[k].1=pn at i;have i:qv (mq (A,rs) (pn,S)):=i;have u:qv (rs.length<=1000000):=u;have P:qv (W.ownsRow 0 83 3 tv rs.length (rs.flatMap DU)):=P;obtain⟨ta,tc,Bx⟩:=aV P.o;subst Bx;clear hf hrel Ah Ag;go_wp2_with fail;refine(DY text W HS.o).mono ?_;have A6:=qO text;have A5:=HK.o;generalize Bq:parseText (dN text)=PQ at HR A6 A5⊢;obtain⟨q,er⟩:=PQ;rintro e W3 ⟨hb,vs,vc,vi,vp,rfl,c⟩;simp only at c HR A6 A5⊢;obtain⟨sa,sc,rfl,m1⟩:=aQ (l:=q.ah) c.rs;obtain⟨ca,cc,rfl,m2⟩:=aQ (l:=q.aq) c.rc;obtain⟨ia,ic,rfl,m3⟩:=aQ (l:=q.af) c.rt;obtain⟨pa,pc,rfl,m4⟩:=aQ (l:=q.aj) c.rp;clear m1 m2 m3 m4 Bq;have An:=p9 (fo c.rp (tJ W.heap.size));obtain⟨E,J⟩:∃E,qC q (.slice sa q.ah.length sc) (.slice ca q.aq.length cc) (.slice ia q.af.length ic) (.slice pa q.aj.length pc)=E:=⟨_,rfl⟩;have A7:E.size=17:=by rw[<-J];rfl
 have Bc:E.all (·.oneCell')=true:=by rw[<-J];exact mW q
 have q0:E[0]?=some (.int .i64 q.kind):=by rw[<-J];rfl
 have Ap:=p9 J;rw[J];have Aq:qv ((prog.info? 49).map (·.size)=some E.toList.length):=p9 (by rw[Tryz.bp,A4,A7]);have kb:=tu (w:=W3) (cs:=E) (T:=49) zq;have A0:=p9 ((MA c).below kb);have Z:=p9 (An.o.kept (ag kb none) (by cases (Value.ownBlock _)<;>simp));have O:qv (Loc ((W3.alloc (.cells zq 49)).setCells W3.heap.size 0 E.toList) W3.heap.size E 49):=p9 ((Loc.new W3 zq 49).fC (new:=E) (by rw[A7];rfl));have B:=p9 (hb.trans (kb.mono hb.size));clear hb c kb J An;rename_i KK Az;refine Az _ _ ?_;clear Az KK;refine ej rfl rfl ?_;refine iu rfl rfl rfl rfl ?_;refine iu rfl rfl rfl rfl ?_;refine jl rfl rfl ?_;refine wpList_store_mid rfl 49 _ _ rfl W3.heap.size 0 E rfl rfl (by rw[A7];exact(Loc.new W3 zq 49).there) (by rw[A7];exact Tryz.bp) Bc ?_;obtain⟨X,hX⟩:∃X,X=W3.heap.size:=⟨_,rfl⟩;rw[<-hX] at O A0 Z B⊢;clear hX Bc;generalize (W3.alloc (.cells zq 49)).setCells X 0 E.toList=U at O A0 Z B⊢;by_cases he:er=0
 ·subst he;have Ad:qv (mQ pol g role text budget=yk S g q (vE budget)):=p9 (by rw[HR.o,a8 rfl]);have B4:pW q/\fF q=true:=by
   rcases A6 with h1|h1|h1
   ·exact h1.2
   ·cases h1
   ·cases h1
  have Ac:=p9 B4;have Bi:=p9 (A5 rfl);have L:=p9 (rq budget);have k0:U.cell? ⟨X,0,none⟩=some (.int .i64 q.kind):=(O.o.cell 0).trans q0;obtain⟨c0,Be⟩:=Bn.o U B.o;obtain⟨rg,ro,rfl,hc⟩:=bC (l:=D) Eb (fun _=>rfl) Be h1;rw[Bo.o] at hc;have p0:U.cell? ⟨rg,ro+k*2,none⟩=some (.string A):=hc 0 (by omega);have p1:U.cell? ⟨rg,ro+k*2+1,none⟩=some (.slice ta rs.length tc):=hc 1 (by omega);clear B4 A6 A5 HR hc Be;go_upto_region 8 with fail;have n:=p9 (B.o.alloc B.o.size (.cells #[.string A,.slice ta rs.length tc] 81));have ha:=(r5 U.heap.size U).alloc (rm _) (.cells #[.string A,.slice ta rs.length tc] 81);have A1:=p9 (Loc.new U #[.string A,.slice ta rs.length tc] 81);have V:=p9 (O.o.grown (ag ha none) (by simp));have Ao:=p9 (A0.o.below ha);have Am:=p9 (Z.o.kept (ag ha none) (by cases (Value.ownBlock _)<;>simp));have k0:(U.alloc (.cells #[.string A,.slice ta rs.length tc] 81)).cell? ⟨X,0,none⟩=some (.int .i64 q.kind):=(V.o.cell 0).trans q0;obtain⟨R,hR⟩:∃R,R=U.heap.size:=⟨_,rfl⟩;rw[<-hR] at A1⊢;clear hR ha c0 p0 p1 O A0 Z B;generalize U.alloc (.cells #[.string A,.slice ta rs.length tc] 81)=W5 at n A1 V Ao Am k0⊢;have Ak:=p9 (H.o.below n.o);have Ax:=p9 ((aJ P.o (RV rs)).below n.o);have Av:qv ((prog.info? 81).map (·.size)=some ([Value.string A,.slice ta rs.length tc]:List Value).length):=p9 (by kernel_rfl);go_upto_region 9 with fail;have B1:min (max budget 0) 5000=vE budget:=rfl;rw[B1];generalize vE budget=t at L Ad⊢;clear B1;rcases Bi.o with m|j
  ·have Bu:qN q:=by
    rcases Ac.o.1 with hk|hk|hk|hk|hk|hk
    ·exact hk
    ·rw[(xM hk).2.1] at m;cases m
    ·rw[(uh hk).2.1] at m;cases m
    ·rw[(tP hk).2.1] at m;cases m
    ·rw[(pL hk).1] at m;cases m
    ·have e:=hk.2;rw[e] at m;cases m
   obtain⟨A3,_,B5,B7,C7,Bt,_,Bd,Bw,Ba,_⟩:=Bu;have B6:0<q.af.length:=List.length_pos_iff.2 B5;obtain⟨s0,sr,Q,Bf⟩:=A3.first;have Ab:qv (∀s,q.ah[0]?=some s->s.type.toList.isEmpty=true):=p9 (fun s hs=>by
    rw[Q] at hs;injection hs with hs
    rw[<-hs,Bf]
    decide +kernel)
   have A8:0<q.ah.length:=by rw[Q];simp
   have N:=OI (nm:=A) (rs:=rs) (q:=q) (bud:=t) Ak.o Ax.o u.o d.o.n40 (fun x hx=>(d.o.ok x hx).1.2.2.1) Ao.o ⟨A8,A3.wo⟩ (by have:=A3.wi;omega) B7 L.o Ab.o;rw[Ap.o] at N;have N:=p9 N;have Ar:qv (mQ pol g role text budget=(ew (oO S g.ns) [] q t,g)):=p9 (by rw[Ad.o];unfold yk;rw[a8 m,d.o.es];rfl);have Bs:-1<=q.aX/\q.aX<=1000000000:=by rcases Ba with h|h<;>omega
   rw[m] at k0;clear A3 B5 Q Bf Ba m q0;go_upto_region 14 with fail;refine wp_region_lit ?_;refine ej rfl rfl ?_;refine wpList_load_mid rfl 81 _ rfl R 0 rfl [.string A,.slice ta rs.length tc] _ A1.o.range underlying81 rfl Av.o ?_;refine wpList_load_mid rfl 49 _ rfl X 0 rfl E.toList _ V.o.range underlying49 rfl Aq.o ?_;simp only[DI];go_wp2_with fail;refine N.o.mono ?_;rintro e W6 ⟨⟨Sb,Bz,sm,W0,C8,C2,rfl,Ai,Aj⟩,I⟩;obtain⟨F,hF⟩:∃F:SF,F=⟨q,.slice sa q.ah.length sc,.slice ca q.aq.length cc,.slice ia q.af.length ic,.slice pa q.aj.length pc,Bz,sm,t⟩:=⟨_,rfl⟩;rw[<-hF] at Aj⊢;have f:F.q=q/\F.sm=sm/\F.bud=t:=by rw[hF];exact⟨rfl,rfl,rfl⟩
   have Aw:=p9 Aj;have G:=p9 (n.o.trans (I.mono n.o.size));have k6:W6.cell? ⟨X,0,none⟩=some (.int .i64 1):=(I.cell (block_lt_of_cell k0)).trans k0;have Bm:qv (nO F.sm (oO S g.ns)):=p9 (by
    rw[f.2.1];refine Qs ?_ (KH d.o.RQ);rw[Ai];exact MM (a:=(A,rs)) i.o d.o.nodes)
   have Al:qv (qp F):=p9 (fun x hx=>by
    rw[f.2.1] at hx;have h1:x.er∈me rs (ns.map NM.er):=by rw[<-Ai];exact List.mem_map.2 ⟨x,hx,rfl⟩
    unfold me at h1;obtain⟨y,hy,he⟩:=List.mem_map.1 h1;obtain⟨z,hz,rfl⟩:=List.mem_map.1 (List.mem_filter.1 hy).1;have ok:=(d.o.ok z hz).1;have e1:x.num=z.num:=(congrArg mz.num he).symm;have e2:x.aj=iN rs z.ai z.aj:=(congrArg mz.aj he).symm;rw[e1,e2];exact⟨ok.1,fun p hp=>(ok.2.2.2 p (List.mem_filter.1 hp).1).2⟩)
   have A9:=zC (F:=F) F.q.ah.length [] (0,[]) (by
    refine⟨?_,by rw[f.2.2];have:=L.o.1;simp only;omega⟩;rw[bk (by rw[f.1];omega)];simp)
   have c:(fk F).2.length<=5001:=by
    have h1:=A9.1;have h2:=A9.2;have h3:=L.o.2;rw[f.2.2] at h2;simp only[Nat.one_ne_zero,if_false] at h1;show (kI F F.q.ah.length [] (0,[])).2.length<=5001;omega
   have K:=p9 (JG Bm.o (by rw[f.2.2];exact L.o.1) (by rw[f.1];exact Ac.o.2) (by rw[f.1];exact Ab.o) (by rw[f.1];exact B6) (by rw[f.1];exact B7) (by rw[f.1];exact Bd) Al.o c);rw[f.1,f.2.2] at K;have Ay:=p9 (Pr Aw.o (wx (by rw[f.1];exact Ab.o)) (by rw[f.1];exact A8) (by rw[f.1];exact B6) Al.o c (by rw[f.1];exact Bt) (by rw[f.1];exact⟨Bd,Bw⟩) (by rw[f.1];exact Bs));generalize vF F (fk F).2=tl at K Ay;generalize (fk F).1=cost at K;clear hF Aj Ai I f A9 c k0 N Aw;by_cases A2:cost<=t
   ·have HA:=p9 (K.o.1 A2);rw[decide_eq_true A2];go_wp2_with fail;refine Ay.o.mono ?_;rintro e W7 ⟨⟨v,rfl,ho⟩,B0⟩;have HO:=p9 ho;have Bg:=p9 (G.o.trans (B0.mono G.o.size));clear ho B0;go_wp2_with fail;go_ret2;rw[Ar.o,HA.o];exact pF.same H.o d.o Bg.o (fo HO.o G.o.size)
   ·have HA:=p9 (K.o.2 A2);rw[decide_eq_false A2];go_wp2_with fail;go_ret2;rw[Ar.o,HA.o];exact pF.same H.o d.o G.o (tj _ _ _ _)
  ·have Ae:kG q:=by
    rcases Ac.o.1 with hk|hk|hk|hk|hk|hk
    ·rw[(Cc hk).2.2] at j;cases j
    ·rw[(xM hk).2.1] at j;cases j
    ·rw[(uh hk).2.1] at j;cases j
    ·rw[(tP hk).2.1] at j;cases j
    ·exact hk
    ·have e:=hk.2;rw[e] at j;cases j
   have Bl:=p9 Ae;have Y:=QZ (nm:=A) (rs:=rs) (q:=q) (bud:=t) (vs:=.slice sa q.ah.length sc) (vc:=.slice ca q.aq.length cc) (vi:=.slice ia q.af.length ic) Ak.o Ax.o u.o (by have h1:=d.o.Sg;have h2:=d.o.last;have h3:=d.o.n40;have h4:=d.o.len;omega) Am.o (by have:=Ae.2.2.1;omega);rw[Ap.o] at Y;have Y:=p9 Y;have As:qv (mQ pol g role text budget=(Li S g q t,(Oa S g q t).2.2)):=p9 (by rw[Ad.o];unfold yk;rw[bk (by rw[j];decide),bk (by rw[j];decide)]);have Aa:qv (Oa S g q t=xZ S g q t):=p9 (rfl);rw[j] at k0;clear Ae j q0;go_upto_region 11 with fail;refine wp_region_lit ?_;refine ej rfl rfl ?_;refine wpList_load_mid rfl 81 _ rfl R 0 rfl [.string A,.slice ta rs.length tc] _ A1.o.range underlying81 rfl Av.o ?_;refine wpList_load_mid rfl 49 _ rfl X 0 rfl E.toList _ V.o.range underlying49 rfl Aq.o ?_;simp only[DI];go_wp2_with fail;refine Y.o.mono ?_;rintro e W6 Af;rcases Af with ⟨h0,⟨v,rfl,ho⟩,By,pv,B3,B8,B9⟩|⟨Bb,rfl,I⟩
   ·have C:jz S q t g.ns.length=0:=by
     have:=Cw (a:=(A,rs)) i.o q t g.ns.length;rw[<-this,<-d.o.len];exact h0
    have Au:=p9 (d.o.make Bl.o C pv);have M:qv (Li S g q t=([bP (last+1)],0)):=p9 (by unfold Li;rw[Aa.o];unfold xZ;rw[a8 C,d.o.last];rfl);have HO:=p9 ho;have Bh:=p9 B3;have Bj:=p9 (((Kept.refl (BH gb nv) W).below n.o).trans B8);have Bk:=p9 B9;clear h0 C ho B3 B8 B9;go_wp2_with fail;go_ret2;rw[As.o];exact⟨⟨v,by rw[M.o];rfl,by rw[M.o];exact fo HO.o n.o.size⟩,By,_,_,Bh.o,by rw[Aa.o];exact Au.o,Bj.o,fun b hb=>(Bk.o b hb).imp id (fun h=>r8 n.o.size h)⟩
   ·have C:¬jz S q t g.ns.length=0:=by
     have:=Cw (a:=(A,rs)) i.o q t g.ns.length;rw[<-this,<-d.o.len];exact Bb
    have M:qv ((Li S g q t,(Oa S g q t).2.2)=(([],ow rs q t ns.length),g)):=p9 (by
     unfold Li;rw[Aa.o];unfold xZ;rw[bk C];simp only;rw[bk C];have:=Cw (a:=(A,rs)) i.o q t g.ns.length;rw[<-this,<-d.o.len])
    generalize ow rs q t ns.length=er at M;have G:=p9 (n.o.trans (I.mono n.o.size));clear Bb C I;go_wp2_with fail;go_ret2;rw[As.o,M.o];exact pF.same H.o d.o G.o (tj _ _ _ _)
 ·have Bp:qv (mQ pol g role text budget=(([],er),g)):=p9 (by rw[HR.o,bk he]);have C3:(er != 0)=true:=by simpa using he
  go_wp2_with fail;go_ret2;rw[Bp.o];exact pF.same H.o d.o B.o (tj _ _ _ _)
theorem KN{b:wF}{l:List db}(h:gN Tt=some b)(he:l.map er=b):mQ l ⟨[],[],0⟩ Bu TD 10=(([⟨#[48]⟩],0),⟨[],[],0⟩):=by
 have h1:=Au;rw[h] at h1;have a:b.map (fun x=>x.1)=[Bu]:=Bm h1;subst he
 match l,a with
 | [],a=>exact absurd (congrArg List.length a) (by simp)
 | x::y::r,a=>exact absurd (congrArg List.length a) (by simp)
 | [x],a=>
  have f:x.1=Bu:=by
   have:=List.cons.inj a;exact this.1
  have d:kW [x] Bu=some x:=by
   unfold kW;rw[List.find?_cons_of_pos (by rw[f];simp)]
  unfold mQ;rw[d];simp only;rw[wq];simp only[if_true];have c:yk x.2.2 ⟨[],[],0⟩ Tn (vE 10)=(ew [] [] Tn 10,⟨[],[],0⟩):=rfl;rw[c,BL]
theorem Rz{W0:World}{L:Int}{ev:Value}(hm:W0.cell? ⟨1,0,none⟩=some (.int .i64 L))(E:Fa W0)(i:W0.cell? ⟨7,0,none⟩=some ev)(p:ev=.nilIface\/∃te pe,ev=.iface te pe):
  Calls prog 5 #[.bool false] W0 fun e W'=>e=.returned (.bool true)/\Below W0.heap.size W0 W':=by
 have F:qv (∀w,Below W0.heap.size W0 w->Fa w):=p9 (fun w hb=>E.below hb);have x:qv (∀w,Below W0.heap.size W0 w->w.cell? ⟨7,0,none⟩=some ev):=p9 (fun w hb=>(hb.cell (block_lt_of_cell i)).trans i);have v:=p9 p;have C:=p9 (SK (s:=Tt) hm);clear E i p hm;go_enter func5,ntmps5
 go_wp2_with fail;refine C.o.mono ?_;rintro e O ⟨k,h1⟩;rcases h1 with ⟨J,_⟩|⟨Q,l,G,vp,m,r,n,K,D,rfl,d,f⟩
 ·have:=Au;rw[J] at this;cases this
 have y:=p9 (KN r n);have c:=p9 k;have j:=p9 (Ln D d f);have h:=p9 (Qn (role:=Bu) (text:=TD) (budget:=10) j.o Qy c.o.size (by unfold maxLen;decide) ⟨by omega,by omega⟩ (fun w hw=>F.o w (c.o.trans hw)) (fun w hw=>x.o w (c.o.trans hw)) v.o (fun _=>ad (by rw[wq];rfl)));rw[y.o] at h;clear r n d f k D C;go_wp2_with fail;refine h.o.mono ?_;rintro e H ⟨⟨v1,rfl,a⟩,M,I,N,t,A,q,z⟩;simp only at a;have u:=p9 (c.o.trans (j.o.under (q.pT fun b hb=>hb.elim ad fun hb=>a6 (ad hb)) c.o.size));obtain⟨g,cap,B⟩:=pI a (by decide);subst B;have P:H.cell? ⟨g,0,none⟩=some (.string ⟨#[48]⟩):=a.cellAt 0 (by decide);clear t A a q z h;go_wp2_with fail;go_ret;exact⟨rfl,u.o⟩
end
end Go.Proofs.YtbfmmmjkjhjleaaGreatDoor
