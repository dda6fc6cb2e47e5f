/- Mine. -/
import Derived.Test.YtbfmmmjkjhjleaaGreatDoorC18
set_option maxRecDepth 100000
set_option maxHeartbeats 0
namespace Go.Proofs.YtbfmmmjkjhjleaaGreatDoor
open Go.Proofs.Tryz
section
open Go.RowKit
theorem Rq{gb:Nat}{rv nv:Value}{rl:List eT}{ns:List NM}{last:Int}{W:World}{nm:ByteArray}{tv:Value}{rs:List dX}(h:RG gb rv rl nv ns last W)(hs:dj W 3 tv rs.length (rs.flatMap DU))(hr:rs.length<=1000000)(hn:ns.length<=1000)(hp:∀x∈ns,x.aj.length<=1000):
  Calls prog 103 #[.pointer (some ⟨gb,0,none⟩),.agg #[.string nm,tv]] W fun e W'=>(∃v sm,e=.returned (.tuple #[v,.slice none 0 0])/\ux W.heap.size v sm W'/\sm.map NM.er=me rs (ns.map NM.er))/\Below W.heap.size W W':=by
 obtain⟨i1,hj,Bi,Bj,Bk⟩:=info_parts Tryz.Bd;obtain⟨i2,hk,Bf,Bg,Bh⟩:=info_parts Tryz.tL;obtain⟨na,nc,Bc⟩:=aV h.nodes.row;subst Bc;have HB:=p9 ((r5 W.heap.size W).alloc (rm _) (.cells #[.string nm,tv] 81));have HR:=p9 (Loc.new W #[.string nm,tv] 81);have HS:=p9 (hs.below HB.o);have HG:=p9 (h.below HB.o);have HP:=p9 hp;clear hs h hp;go_enter func103,ntmps103
 go_upto_region 1 with fail;obtain⟨R,hR⟩:∃R,R=W.heap.size:=⟨_,rfl⟩;rw[<-hR] at HR⊢;clear hR;generalize W.alloc (.cells #[.string nm,tv] 81)=W1 at HB HR HS HG⊢;have c1:=HG.o.bJ.at_ 1 (.slice na ns.length nc) rfl;go_wp2_with fail;go_loopg [6,8] ns.length (fun g lv iv w=>∃(k:Nat) (sm:List NM),iv=.int .i64 (k:Int)/\k+g=ns.length/\ux W1.heap.size lv sm w/\sm.length<=k/\sm.map NM.er=me rs ((ns.take k).map NM.er)/\Below W1.heap.size W1 w)
 case atStart=>exact⟨0,[],rfl,by omega,ux.nil _ _,by simp,rfl,r5 _ _⟩
 case round=>
  obtain⟨k,sm,rfl,Ao,hm,Bb,Aw,U⟩:=hrel;have HM:=p9 hm;have A2:=p9 Aw;have HW:=p9 U;clear hm Aw U;have r:=p9 (HG.o.below HW.o);have Af:=p9 (HR.o.grown (ag HW.o none) (by simp));have Ah:=p9 (HS.o.below HW.o);have c1:=r.o.bJ.at_ 1 (.slice na ns.length nc) rfl;by_cases S:k<ns.length
  ·have B9:(k:Int)<(ns.length:Int):=by omega
   obtain⟨g,o,rfl,F⟩:=bC (l:=ns) Fi (fun _=>rfl) (aJ r.o.nodes.row (Gt ns)) S;have A3:qv ((ns.take (k+1)).map NM.er=(ns.take k).map NM.er++[ns[k].er]):=p9 (by rw[tt,r6 S,vb];rfl);have y:=p9 (HP.o ns[k] (sT S));have J:=p9 (r.o.nodes.Ni ns[k] (sT S));obtain⟨⟨num,ai,pv,aj⟩,n⟩:∃x,ns[k]=x:=⟨_,rfl⟩;rw[n] at F A3 y J;have d0:wr.cell? ⟨g,o+k*3,none⟩=some (.int .i64 num):=F 0 (by omega);have d1:wr.cell? ⟨g,o+k*3+1,none⟩=some (.string ai):=F 1 (by omega);have d2:wr.cell? ⟨g,o+k*3+2,none⟩=some pv:=F 2 (by omega);clear F n;obtain⟨pa,pc,Av⟩:=aV J.o
   dsimp only at Av
   subst Av;have y:qv (aj.length<=1000):=y;go_upto_region 7 with fail;have P:=(r5 wr.heap.size wr).alloc (rm _) (.cells #[.int .i64 num,.string ai,.slice pa aj.length pc] 145);have HN:=p9 (Loc.new wr #[.int .i64 num,.string ai,.slice pa aj.length pc] 145);have A:=p9 (Af.o.grown (ag P none) (by simp));have K:=p9 (Ah.o.below P);have A0:=p9 (HM.o.below P);have L:=p9 (HW.o.trans (P.mono HW.o.size));have z:=p9 (J.o.kept (ag P none) (by cases (Value.ownBlock _)<;>simp));obtain⟨N,hN⟩:∃N,N=wr.heap.size:=⟨_,rfl⟩;rw[<-hN] at HN⊢;clear hN P d0 d1 d2 c1 Af Ah HM HW J r;generalize wr.alloc (.cells #[.int .i64 num,.string ai,.slice pa aj.length pc] 145)=W3 at HN A K A0 L z⊢;have r0:=A.o.at_ 0 (.string nm) rfl;have r1:=A.o.at_ 1 tv rfl;have n1:=HN.o.at_ 1 (.string ai) rfl;go_wp2_with fail;refine(Hz (ti:=ai) K.o hr).mono ?_;rintro e q ⟨rfl,i⟩;have s:=p9 (HN.o.grown (ag i none) (by simp));have B2:=p9 (A.o.grown (ag i none) (by simp));have B3:=p9 (K.o.below i);have A8:=p9 (A0.o.below i);have M:=p9 (L.o.trans (i.mono L.o.size));have Ae:=p9 (z.o.kept (ag i none) (by cases (Value.ownBlock _)<;>simp));have Aj:=p9 (Gw rs ((ns.take k).map NM.er) (NM.er ⟨num,ai,.slice pa aj.length pc,aj⟩));clear i r0 r1 n1 HN A K A0 L z;have Ab:qv (jo rs (Aa,ai,⟨#[]⟩)=jo rs (⟨#[115,101,101]⟩,ai,⟨#[]⟩)):=p9 rfl;cases At:jo rs (⟨#[115,101,101]⟩,ai,⟨#[]⟩) with
   | false=>
    go_wp2_with fail;go_roundg (gk - 1)
    case measure=>omega
    case rel=>
     refine⟨k+1,sm,by simp,by omega,A8.o,by omega,?_,M.o⟩;rw[A3.o,Aj.o];show _=if jo rs (Aa,ai,_)=true then _ else _
     rw[Ab.o,At];exact A2.o
   | true=>
    have n0:=s.o.at_ 0 (.int .i64 num) rfl;have n1:=s.o.at_ 1 (.string ai) rfl;go_upto_region 10 with fail;have P:=(r5 q.heap.size q).alloc (rm _) (.cells #[.int .i64 num,.string ai,.slice none 0 0] 145);have HX:=p9 (Loc.new q #[.int .i64 num,.string ai,.slice none 0 0] 145);have HA:=p9 P;obtain⟨X,hX⟩:∃X,X=q.heap.size:=⟨_,rfl⟩;have B6:=p9 (Nat.le_of_eq hX.symm);rw[<-hX] at HX⊢;clear hX P n0 n1;generalize q.alloc (.cells #[.int .i64 num,.string ai,.slice none 0 0] 145)=W5 at HX HA⊢;have B4:=p9 (aJ Ae.o (nf aj));have n2:W5.cell? ⟨N,2,none⟩=some (.slice pa aj.length pc):=(HA.o.cell s.o.lt).trans ((s.o.cell 2).trans rfl);obtain⟨gO,B7⟩:∃gO,gO=gk:=⟨_,rfl⟩;subst B7;have A6:=p9 Ao;clear Ao;go_wp2_with fail;go_loopg [12] aj.length (fun c jv w=>∃(j:Nat) (v:Value),jv=.int .i64 (j:Int)/\j+c=aj.length/\Loc w X #[.int .i64 num,.string ai,v] 145/\w.ownsRow q.heap.size 120 2 v (iN rs ai (aj.take j)).length ((iN rs ai (aj.take j)).flatMap dG)/\Below q.heap.size q w)
    case atStart=>exact⟨0,_,rfl,by omega,HX.o,tj _ _ _ _,HA.o⟩
    case round=>
     obtain⟨j,v,rfl,Bl,Aq,f,Am⟩:=hrel;have B:=p9 Aq;have t:=p9 f;have d:=p9 Am;clear Aq f Am HX HA n2;have Ac:=p9 (s.o.grown (ag d.o none) (by simp));have Ag:=p9 (B2.o.grown (ag d.o none) (by simp));have n2:=Ac.o.at_ 2 (.slice pa aj.length pc) rfl;by_cases An:j<aj.length
     ·have B8:(j:Int)<(aj.length:Int):=by omega
      obtain⟨pg,po,Be,F⟩:=bC (l:=aj) dG (fun _=>rfl) (B4.o.below d.o) An;subst Be;have A1:qv (aj.take (j+1)=aj.take j++[aj[j]]):=p9 (by rw[tt,r6 An];rfl);obtain⟨⟨key,val⟩,n⟩:∃x,aj[j]=x:=⟨_,rfl⟩;rw[n] at F A1;have p0:wr.cell? ⟨pg,po+j*2,none⟩=some (.string key):=F 0 (by omega);have p1:wr.cell? ⟨pg,po+j*2+1,none⟩=some (.int .i64 val):=F 1 (by omega);clear F n;have r0:=Ag.o.at_ 0 (.string nm) rfl;have r1:=Ag.o.at_ 1 tv rfl;have n1:=Ac.o.at_ 1 (.string ai) rfl;have Ai:=p9 ((B3.o.below d.o).below (below_drewN (r5 _ _) 1));go_upto_region 13 with fail;go_cut [10] (fun b w=>b=.bool (jo rs (qJ,ai,key))/\Below wr.heap.size wr w)
      case first=>
       go_region_with (go_at_call 101;refine(Hz (nm:=nm) (wd:=qJ) (ti:=ai) (ky:=key) Ai.o hr).mono ?_;rintro e w7 ⟨rfl,Al⟩;have Ax:=p9 Al;clear Al)
       all_goals
        go_wp2_with fail;go_meet
        case rel=>exact⟨rfl,(below_drewN (r5 _ _) 1).trans Ax.o⟩
      case rest=>
       obtain⟨rfl,m⟩:=hcut;have C:=p9 (B.o.grown (ag m none) (by simp));have u:=p9 (t.o.kept (ag m none) (by cases (Value.ownBlock _)<;>simp));have G:=p9 (d.o.trans (m.mono d.o.size));have n2:wc.cell? ⟨N,2,none⟩=some (.slice (some ⟨pg,po,none⟩) aj.length pc):=(m.cell (block_lt_of_cell n2)).trans n2;have p0:wc.cell? ⟨pg,po+j*2,none⟩=some (.string key):=(m.cell (block_lt_of_cell p0)).trans p0;have p1:wc.cell? ⟨pg,po+j*2+1,none⟩=some (.int .i64 val):=(m.cell (block_lt_of_cell p1)).trans p1;clear m r0 r1 n1 Ai B t d;have Bm:=y.o;cases Ar:jo rs (qJ,ai,key) with
       | false=>
        have H:qv (iN rs ai (aj.take (j+1))=iN rs ai (aj.take j)):=p9 (by rw[A1.o];exact M6 Ar);go_wp2_with fail;go_roundg (gk - 1)
        case measure=>omega
        case rel=>exact⟨j+1,v,by simp,by omega,C.o,by rw[H.o];exact u.o,G.o⟩
       | true=>
        have H:qv (iN rs ai (aj.take (j+1))=iN rs ai (aj.take j)++[⟨key,val⟩]):=p9 (by rw[A1.o];exact Ji Ar);obtain⟨xa,xc,hv⟩:=aV u.o;subst hv;have Ba:(iN rs ai (aj.take j)).length<=1000:=r8 (NK _ _) (by rw[v8];have:=y.o;omega);generalize iN rs ai (aj.take j)=T at H u C Ba⊢;have x2:=C.o.at_ 2 (.slice xa T.length xc) rfl;have A4:Below wc.heap.size wc (wc.alloc (.cells #[.string key,.int .i64 val] 120)):=(r5 _ _).alloc (rm _) _;have Bn:(wc.alloc (.cells #[.string key,.int .i64 val] 120)).cell? ⟨N,2,none⟩=some (.slice (some ⟨pg,po,none⟩) aj.length pc):=(A4.cell (block_lt_of_cell n2)).trans n2;have Bo:(wc.alloc (.cells #[.string key,.int .i64 val] 120)).cell? ⟨X,2,none⟩=some (.slice xa T.length xc):=(A4.cell (block_lt_of_cell x2)).trans x2;have A7:qv (Loc (wc.alloc (.cells #[.string key,.int .i64 val] 120)).drew X #[.int .i64 num,.string ai,.slice xa T.length xc] 145):=p9 (C.o.alloc _);have I:qv ((wc.alloc (.cells #[.string key,.int .i64 val] 120)).drew.ownsRow q.heap.size 120 2 (.slice xa T.length xc) T.length (T.flatMap dG)):=p9 (u.o.alloc _).drew;have V:qv (Below q.heap.size q (wc.alloc (.cells #[.string key,.int .i64 val] 120)).drew):=p9 (below_drewN (G.o.alloc G.o.size _) 1);clear A4 C u G;go_upto_region 15 with fail;go_region_law (go_must (refine step_append_lies _ rfl _ _ 47 rfl q.heap.size 120 i2 (.agg #[.string ⟨#[]⟩,.int .i64 0]) 2 24 underlying47 hk Bf Bg Bh rfl (by decide) (.slice xa T.length xc) _ _ (by simp[Act.eval]) I.o ⟨wc.heap.size,0,none⟩ 1 1 [.string key,.int .i64 val] (by simp[Act.eval]) rfl (World.news_of_block (heap_alloc_new wc _)) (by simp[Value.oneCell']) (by omega) (by unfold maxLen;omega) (by omega) V.o.size _ rfl ?_);intro g2 Ak w8 f a _ _;have Z:=A7.o.dY I.o a (by decide);have c8:w8.cell? ⟨X,2,none⟩=some (.slice xa T.length xc):=(Z.cell 2).trans rfl;have f8:w8.frozen? ⟨X,2,none⟩=false:=Z.free 2;have A5:=p9 a;have Ad:=p9 f;clear Z f a)
        all_goals
         go_wp2_with fail;go_roundg (gk - 1)
         case measure=>omega
         case rel=>
          have Ap:=A7.o.dY I.o A5.o (by decide);refine⟨j+1,_,by simp,by omega,Ap.set 2 _,?_,?_⟩
          ·rw[H.o,As];have:=Ad.o.kept (aE w8 X 2 (.slice (some ⟨g2,0,none⟩) (T.length+1) Ak)) (a6 fun e=>aR Ad.o Ap (by decide) e)
           simpa [dG] using this
          ·exact(V.o.grown A5.o V.o.size (fun b U=>(I.o.lt b U).1)).setCell (p:=⟨X,2,none⟩) B6.o _
     ·have B8:¬(j:Int)<(aj.length:Int):=by omega
      have Ay:qv (iN rs ai (aj.take j)=iN rs ai aj):=p9 (by rw[uB (by omega)]);rw[Ay.o] at t;have x0:=B.o.at_ 0 (.int .i64 num) rfl;have x1:=B.o.at_ 1 (.string ai) rfl;have x2:=B.o.at_ 2 v rfl;have A9:=p9 (A8.o.below d.o);have B0:=p9 Bb;have Az:=p9 (A9.o.row.alloc (.cells #[.int .i64 num,.string ai,v] 145));have O:=p9 (M.o.trans (d.o.mono M.o.size));obtain⟨va,vc,hv⟩:=aV t.o;subst hv;go_wp2_with (at_builtin;go_must (refine wpList_append_own _ rfl _ _ 69 rfl W1.heap.size 145 i1 (.agg #[.int .i64 0,.string ⟨#[]⟩,.slice none 0 0]) 3 48 underlying69 hj Bi Bj Bk rfl (by decide) _ _ _ rfl Az.o ⟨wr.heap.size,0,none⟩ 1 1 [.int .i64 num,.string ai,.slice va (iN rs ai aj).length vc] rfl rfl (World.news_of_block (heap_alloc_new wr _)) (by simp[Value.oneCell']) (by unfold maxLen;omega) (by omega) (by have:=O.o.size;simp;omega) ?_);intro v' w7 E a _;have B1:=p9 E;have Y:=p9 a;clear E a)
      go_roundg (gO - 1)
      case measure=>have:=A6.o;omega
      case rel=>
       have Q:Below wr.heap.size wr (wr.alloc (.cells #[.int .i64 num,.string ai,.slice va (iN rs ai aj).length vc] 145)):=(r5 _ _).alloc (rm _) _;have D:=A9.o.below Q;have Au:=t.o.kept (ag Q none) (by cases (Value.ownBlock _)<;>simp);refine⟨k+1,sm++[⟨num,ai,.slice va (iN rs ai aj).length vc,iN rs ai aj⟩],by simp,by have:=A6.o;omega,⟨by simpa [Fi] using B1.o,fun x n=>?_⟩,by have:=B0.o;simp;omega,?_,?_⟩
       ·rcases List.mem_append.1 n with n|n
        ·exact(D.Ni x n).kept Y.o (bT (D.Ni x n) D.row (by decide))
        ·simp only[vA] at n;subst n;exact fo (Au.kept Y.o (bT Au D.row (by decide))) M.o.size
       ·rw[A3.o,Aj.o,vb,A2.o];show _=if jo rs (Aa,ai,_)=true then _ else _
        rw[Ab.o,At]
        rfl
       ·exact(O.o.trans (Q.mono O.o.size)).grown Y.o (r8 O.o.size Q.size) (fun b U=>(D.row.lt b U).1)
  ·have B9:¬(k:Int)<(ns.length:Int):=by omega
   have c2:=r.o.bJ.at_ 2 (.slice none 0 0) rfl;have HE:qv (sm.map NM.er=me rs (ns.map NM.er)):=p9 (by rw[A2.o,uB (by omega)]);have B5:=p9 (HB.o.trans (HW.o.mono HB.o.size));go_wp2_with fail;go_loopg [7,13] 0 (fun _ ev iv w=>ev=.slice none 0 0/\iv=.int .i64 0/\w.cell? ⟨gb,2,none⟩=some (.slice none 0 0)/\ux W.heap.size u6 sm w/\Below W.heap.size W w)
   case atStart=>exact⟨rfl,rfl,c2,HM.o.mono HB.o.size,B5.o⟩
   case round=>
    obtain⟨rfl,rfl,c2,hm,U⟩:=hrel;go_wp2_with fail;go_ret2;exact⟨⟨_,sm,rfl,hm,HE.o⟩,U⟩
end
end Go.Proofs.YtbfmmmjkjhjleaaGreatDoor
