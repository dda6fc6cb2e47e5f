/- Mine. -/
import Derived.Test.YtbfmmmjkjhjleaaGreatDoorC12
set_option maxRecDepth 100000
set_option maxHeartbeats 0
namespace Go.Proofs.YtbfmmmjkjhjleaaGreatDoor
open Go.Proofs.Tryz
variable {st:RS} {n:Nat}
section
open Go.RowKit
theorem Ct{out:List aZ}(h:st.bad=true):gm n out st=(out,st):=by
 cases n with
 | zero=>rfl
 | succ n=>simp only[gm];rw[h];rfl
theorem z7{out:List aZ}{l:aZ}{s2:RS}(h:st.bad=false)(hp:lR st=(l,s2))(a:s2.bad=false)(b:aO aN s2=true):gm (n+1) out st=gm n (out++[l]) (bz aN s2):=by
 simp only[gm];rw[h,hp];simp only[a,b];rfl
theorem sq{out:List aZ}{l:aZ}{s2:RS}(h:st.bad=false)(hp:lR st=(l,s2))(a:s2.bad=true\/aO aN s2=false):gm (n+1) out st=(out++[l],s2):=by
 simp only[gm];rw[h,hp];rcases a with a|a
 ·simp[a]
 ·simp[a]
theorem Jv(st:RS):(lR st).2.rest.length<=st.rest.length:=by
 unfold lR;have h1:=mT st;split
 ·exact gz _ _
 ·simp only;split
  ·have a:=mT (bz eN (cI st).2);have b:=gz eN (cI st).2;simp only;omega
  ·exact h1
theorem af{b x:Nat}{G vs vc:Value}{sp:List aK}{cd:List bW}{D:List Tok}{st:RS}{W0 W:World}(h:fN W0 b G D st x (qC {aB with kind:=1} vs vc (.slice none 0 0) (.slice none 0 0)) ⟨vs,sp,vc,cd,(.slice none 0 0),[],(.slice none 0 0),[]⟩ W):
  Calls prog 57 #[.pointer (some ⟨b,0,none⟩),.pointer (some ⟨x,0,none⟩)] W fun e W'=>e=.returned (.tuple #[])/\∃vi,fN W0 b G D (jE st).2 x (qC {aB with kind:=1,order:=(jE st).1.order,down:=(jE st).1.down,skip:=(jE st).1.skip,aX:=(jE st).1.aX} vs vc vi (.slice none 0 0)) ⟨vs,sp,vc,cd,vi,(jE st).1.af,(.slice none 0 0),[]⟩ W':=by
 obtain⟨i1,hj,Au,Av,Aw⟩:=info_parts Tryz.DW;have HI:=p9 h;have hlen:=h.ri.len;have B1:st.rest.length<=D.length:=by obtain⟨_,_,_,_,_,_,_,e,_⟩:=h.ri.seen;exact e
 clear h;go_enter func57,ntmps57
 go_upto_block 0 with fail;go_cut [4,5,6,7] (fun _ _ _ _ w=>∃vi it y,fN W0 b G D y x (qC {aB with kind:=1} vs vc vi (.slice none 0 0)) ⟨vs,sp,vc,cd,vi,it,(.slice none 0 0),[]⟩ w/\gm (st.rest.length+1) [] st=(it,y)/\it.length+y.rest.length<=2002)
 case first=>
  go_wp2_with fail;go_loopg [4] (st.rest.length+1) (fun n more w=>∃vi it y m,more=.bool m/\fN W0 b G D y x (qC {aB with kind:=1} vs vc vi (.slice none 0 0)) ⟨vs,sp,vc,cd,vi,it,(.slice none 0 0),[]⟩ w/\(m=true->gm (st.rest.length+1) [] st=gm n it y/\y.rest.length+1<=n/\it.length+y.rest.length<=2001)/\(m=false->gm (st.rest.length+1) [] st=(it,y)/\it.length+y.rest.length<=2002))
  case atStart=>exact⟨_,[],_,true,rfl,HI.o,fun _=>⟨rfl,by omega,by simp;omega⟩,fun h=>by cases h⟩
  case round=>
   obtain⟨vi,it,y,m,rfl,X,hT,hF⟩:=hrel;have B:=p9 X;have q2:=X.ri.box.at_ 2 (.bool y.bad) rfl;clear X HI;cases m with
   | false=>
    obtain⟨e1,e2⟩:=hF rfl;have E1:=p9 e1;clear e1 hT hF;go_wp2_with fail;go_meet
    case rel=>exact⟨vi,it,y,B.o,E1.o,e2⟩
   | true=>
    obtain⟨e1,e2,e3⟩:=hT rfl;have E1:=p9 e1;clear e1 hT hF;cases f:y.bad with
    | true=>
     have A:=p9 f;rw[f] at q2;clear f;go_wp2_with fail;go_meet
     case rel=>exact⟨vi,it,y,B.o,by rw[E1.o];exact Ct A.o,by omega⟩
    | false=>
     have A:=p9 f;rw[f] at q2;clear f;obtain⟨n,hn⟩:∃n,gk=n+1:=⟨gk - 1,by omega⟩;subst hn;go_upto_block 1 with fail;go_cut [5,6,7] (fun _ _ _ w=>∃v i s2,fN W0 b G D s2 x (qC {aB with kind:=1} vs vc v (.slice none 0 0)) ⟨vs,sp,vc,cd,v,(it++[i]),(.slice none 0 0),[]⟩ w/\lR y=(i,s2))
     case first=>
      clear q2;go_wp2_with fail;obtain⟨ct,Ad⟩:∃ct,aO iw y=ct:=⟨_,rfl⟩;have A6:=p9 Ad;clear Ad;refine(has B.o.ri iw ct A6.o).mono ?_;rintro e W3 ⟨rfl,h3,g3⟩;have O:=p9 ((B.o.call h3 g3).more #[.string ⟨#[]⟩,.string ⟨#[]⟩] 129);clear h3 g3;go_upto_if 31 with fail;generalize W3.alloc (.cells #[.string ⟨#[]⟩,.string ⟨#[]⟩] 129)=W4 at O⊢;generalize W3.heap.size=Y at O⊢;go_cut [7] (fun _ w=>∃(i:aZ) (s2:RS),QY W0 b G D s2 x (qC {aB with kind:=1} vs vc vi (.slice none 0 0)) ⟨vs,sp,vc,cd,vi,it,(.slice none 0 0),[]⟩ Y #[.string i.name,.string i.key] 129 w/\lR y=(i,s2))
      case first=>
       cases ct with
       | true=>
        have HK:=A6;go_wp2_with fail;go_meet
        case rel=>exact⟨⟨⟨#[]⟩,⟨#[]⟩⟩,_,O.o,by unfold lR;rw[HK.o];rfl⟩
       | false=>
        have HK:=A6;rw[eG HK.o] at O;obtain⟨nm,p,Ah⟩:∃nm p,cI y=(nm,p):=⟨_,_,rfl⟩;have A2:=p9 Ah;clear Ah;go_wp2_with fail;refine(lD O.o.q.ri A2.o).mono ?_;rintro e W5 ⟨rfl,R,g5⟩;have a:=O.o.call R g5;have c0:=a.ly.at_ 0 (.string ⟨#[]⟩) rfl;have f0:=a.ly.free 0;have r:=p9 (a.fS 0 (.string nm));clear R g5 a;go_upto_region 7 with fail;generalize W5.setCell ⟨Y,0,none⟩ (.string nm)=W6 at r⊢;clear c0 f0 O B;have q6:=r.o.q.ri.box.at_ 2 (.bool p.bad) rfl;cases L:p.bad with
        | true=>
         have A1:=p9 L;rw[L] at q6;clear L;go_wp2_with fail;go_meet
         case rel=>exact⟨⟨nm,⟨#[]⟩⟩,p,r.o,by unfold lR;rw[HK.o];simp only[A2.o,A1.o];rfl⟩
        | false=>
         have A1:=p9 L;rw[L] at q6;clear L;cases hd:aO eN p with
         | false=>
          have J:=p9 hd;clear hd;go_wp2_with fail;refine(has r.o.q.ri eN false J.o).mono ?_;rintro e W7 ⟨rfl,C,g7⟩;rw[eG J.o] at C;have V:=p9 (r.o.call C g7);clear C g7 r q6;go_wp2_with fail;go_meet
          case rel=>exact⟨⟨nm,⟨#[]⟩⟩,p,V.o,by unfold lR;rw[HK.o];simp only[A2.o,A1.o,J.o];rfl⟩
         | true=>
          have J:=p9 hd;obtain⟨ky,s2,Ae⟩:∃ky s2,cI (bz eN p)=(ky,s2):=⟨_,_,rfl⟩;have Aa:=p9 Ae;clear hd Ae;go_wp2_with fail;refine(has r.o.q.ri eN true J.o).mono ?_;rintro e W7 ⟨rfl,C,g7⟩;have V:=p9 (r.o.call C g7);clear C g7 r q6;go_wp2_with fail;refine(lD V.o.q.ri Aa.o).mono ?_;rintro e W8 ⟨rfl,h8,g8⟩;have A0:=V.o.call h8 g8;have c1:=A0.ly.at_ 1 (.string ⟨#[]⟩) rfl;have f1:=A0.ly.free 1;have H9:=p9 (A0.fS 1 (.string ky));clear h8 g8 A0;go_wp2_with fail;go_meet
          case rel=>exact⟨⟨nm,ky⟩,s2,H9.o,by unfold lR;rw[HK.o];simp only[A2.o,A1.o,J.o,Aa.o];rfl⟩
      case rest=>
       obtain⟨⟨nm,ky⟩,s2,Al,hit⟩:=hcut;have P:=p9 hit;have HY:=p9 Al;clear Al hit O B;go_upto_region 10 with fail;have y0:=HY.o.ly.at_ 0 (.string nm) rfl;have y1:=HY.o.ly.at_ 1 (.string ky) rfl;have x3:=HY.o.q.lq.at_ 3 vi rfl;have Ay:wc.frozen? ⟨x,3,none⟩=false:=HY.o.q.lq.free 3;have HD:qv (fN W0 b G D s2 x (qC {aB with kind:=1} vs vc vi (.slice none 0 0)) ⟨vs,sp,vc,cd,vi,it,(.slice none 0 0),[]⟩ ((wc.alloc (.cells #[.string nm,.string ky] 129)).drew)):=(HY.o.q.alloc _).drew 1;have B2:(wc.alloc (.cells #[.string nm,.string ky] 129)).cell? ⟨x,3,none⟩=some vi:=(HD.o.lq.cell 3).trans rfl;clear HY;go_region_law (refine step_append_lies _ rfl _ _ 44 rfl W0.heap.size 129 i1 (.agg #[.string ⟨#[]⟩,.string ⟨#[]⟩]) 2 32 underlying44 hj Au Av Aw rfl (by decide) vi _ _ (by simp[Act.eval]) HD.o.rt ⟨wc.heap.size,0,none⟩ 1 1 [.string nm,.string ky] (by simp[Act.eval]) rfl (World.news_of_block (heap_alloc_new wc _)) uv (by omega) (by unfold maxLen;simp only;omega) (by simp only;omega) HD.o.grown.size _ rfl ?_;intro g2 Ac w5 A3 S _ _;have a:=HD.o.af (l:=[⟨nm,ky⟩]) S (by rw[qY,r7];exact A3);have c5:w5.cell? ⟨x,3,none⟩=some vi:=(a.lq.cell 3).trans rfl;have f5:w5.frozen? ⟨x,3,none⟩=false:=a.lq.free 3;have z:=p9 (a.set 3 (.slice (some ⟨g2,0,none⟩) (it.length+1) Ac));clear a A3 S)
       all_goals
        go_wp2_with fail;go_meet
        case rel=>exact⟨_,⟨nm,ky⟩,s2,z.o,P.o⟩
     case rest=>
      obtain⟨v,i,s2,s,hit⟩:=hcut;have r:=p9 s;have P:=p9 hit;have q6:=s.ri.box.at_ 2 (.bool s2.bad) rfl;have As:=Jv y;rw[hit] at As;clear s hit B q2;have Az:(it++[i]).length=it.length+1:=by simp
      cases K:s2.bad with
      | true=>
       have A5:=p9 K;rw[K] at q6;clear K;go_wp2_with fail;go_roundg n
       case measure=>omega
       case rel=>exact⟨_,it++[i],s2,false,rfl,r.o,fun h=>(by cases h),fun _=>⟨by rw[E1.o];exact sq A.o P.o (ad A5.o),by omega⟩⟩
      | false=>
       have A5:=p9 K;rw[K] at q6;clear K;cases ha:aO aN s2 with
       | false=>
        have I:=p9 ha;clear ha;go_wp2_with fail;refine(has r.o.ri aN false I.o).mono ?_;rintro e W7 ⟨rfl,C,g7⟩;rw[eG I.o] at C;have V:=p9 (r.o.call C g7);clear C g7 q6;go_wp2_with fail;go_roundg n
        case measure=>omega
        case rel=>exact⟨_,it++[i],s2,false,rfl,V.o,fun h=>(by cases h),fun _=>⟨by rw[E1.o];exact sq A.o P.o (a6 I.o),by omega⟩⟩
       | true=>
        have I:=p9 ha;have At:=lh ha;clear ha;go_wp2_with fail;refine(has r.o.ri aN true I.o).mono ?_;rintro e W7 ⟨rfl,C,g7⟩;have V:=p9 (r.o.call C g7);clear C g7 q6;go_wp2_with fail;go_roundg n
        case measure=>omega
        case rel=>exact⟨_,it++[i],bz aN s2,true,rfl,V.o,fun _=>⟨by rw[E1.o];exact z7 A.o P.o A5.o I.o,by omega,by omega⟩,fun h=>(by cases h)⟩
 case rest=>
  obtain⟨vi,it,s1,X,Ag,B0⟩:=hcut;obtain⟨ao,ca,rfl⟩:∃ao ca,vi=.slice ao it.length ca:=by
   rcases X.rt.2 with ⟨e,e0⟩|⟨g,cap,fL,e,_⟩
   ·exact⟨none,0,(show vi=.slice none 0 0 from e).trans (by rw[show it.length=0 from e0])⟩
   ·exact⟨_,_,e⟩
  obtain⟨vi,A8⟩:∃vi,vi=Value.slice ao it.length ca:=⟨_,rfl⟩;rw[<-A8] at X;have Ab:=p9 A8;clear A8;have Ao:=p9 Ag;have c7:=X.lq.at_ 7 (.int .i64 0) rfl;have f7:wc.frozen? ⟨x,7,none⟩=false:=X.lq.free 7;have B:qv (fN W0 b G D s1 x (qC {aB with kind:=1,order:=0,down:=false,skip:=0,aX:=-1} vs vc vi (.slice none 0 0)) ⟨vs,sp,vc,cd,vi,it,(.slice none 0 0),[]⟩ (wc.setCell ⟨x,7,none⟩ (.int .i64 (-1)))):=X.set 7 (.int .i64 (-1));clear X Ag HI;go_upto_region 12 with fail;generalize wc.setCell ⟨x,7,none⟩ (.int .i64 (-1))=wd at B⊢;clear c7 f7;go_upto_region 12 with fail;go_cut [8] (fun v w=>∃m s2,v=.bool m/\fN W0 b G D s2 x (qC {aB with kind:=1,order:=0,down:=false,skip:=0,aX:=-1} vs vc vi (.slice none 0 0)) ⟨vs,sp,vc,cd,vi,it,(.slice none 0 0),[]⟩ w/\((m=true/\s1.bad=false/\aO eC s1=true/\s2=bz eC s1)\/(m=false/\s2=s1/\(s1.bad=true\/aO eC s1=false))))
  case first=>
   have H:=B.o.ri.box.at_ 2 (.bool s1.bad) rfl;cases f:s1.bad with
   | true=>
    have A:=p9 f;rw[f] at H;clear f;go_wp2_with fail;go_meet
    case rel=>exact⟨false,s1,rfl,B.o,a6 ⟨rfl,rfl,ad A.o⟩⟩
   | false=>
    have A:=p9 f;rw[f] at H;clear f;cases hw:aO eC s1 with
    | false=>
     have u:=p9 hw;clear hw;go_wp2_with fail;refine(has B.o.ri eC false u.o).mono ?_;rintro e W6 ⟨rfl,t,g6⟩;rw[eG u.o] at t;have r:=p9 (B.o.call t g6);clear t g6 H;go_wp2_with fail;go_meet
     case rel=>exact⟨false,s1,rfl,r.o,a6 ⟨rfl,rfl,a6 u.o⟩⟩
    | true=>
     have u:=p9 hw;clear hw;go_wp2_with fail;refine(has B.o.ri eC true u.o).mono ?_;rintro e W6 ⟨rfl,t,g6⟩;have r:=p9 (B.o.call t g6);clear t g6 H;go_wp2_with fail;go_meet
     case rel=>exact⟨true,bz eC s1,rfl,r.o,ad ⟨rfl,A.o,u.o,rfl⟩⟩
  case rest=>
   clear B;obtain⟨m,s2,rfl,s,j⟩:=hcut;have E:=p9 s;have c:=p9 j;clear s j;go_upto_if 70 with fail;go_cut [] (fun w=>∃p o d,fN W0 b G D p x (qC {aB with kind:=1,order:=o,down:=d,skip:=0,aX:=-1} vs vc vi (.slice none 0 0)) ⟨vs,sp,vc,cd,vi,it,(.slice none 0 0),[]⟩ w/\qS it.length s1=((o,d),p))
   case first=>
    cases m with
    | false=>
     go_wp2_with fail;go_meet
     case rel=>
      rcases c.o with ⟨e,_⟩|⟨_,rfl,F⟩
      ·cases e
      ·exact⟨_,0,false,E.o,by unfold qS;rcases F with F|F<;>simp[F]⟩
    | true=>
     obtain⟨o,p,ho⟩:∃o p,fq 1 it.length (bG L8 s2)=(o,p):=⟨_,_,rfl⟩;have HO:=p9 ho;clear ho;go_wp2_with fail;refine(mI E.o.ri L8).mono ?_;rintro e W3 ⟨rfl,h3,g3⟩;have A4:=E.o.call h3 g3;have c3:W3.cell? ⟨x,3,none⟩=some (.slice ao it.length ca):=(A4.lq.cell 3).trans (by rw[Ab.o];rfl);have O:=p9 A4;clear h3 g3 A4;go_wp2_with fail;refine(rG O.o.ri HO.o).mono ?_;rintro e W5 ⟨rfl,R,g5⟩;have a:=O.o.call R g5;have c5:=a.lq.at_ 4 (.int .i64 0) rfl;have f5:W5.frozen? ⟨x,4,none⟩=false:=a.lq.free 4;have z:=p9 (a.set 4 (.int .i64 o));clear R g5 a c3;go_wp2_with fail;generalize W5.setCell ⟨x,4,none⟩ (.int .i64 o)=W6 at z⊢;clear c5 f5;obtain⟨d,hd⟩:∃d,aO kV p=d:=⟨_,rfl⟩;have A9:=p9 hd;clear hd;refine(has z.o.ri kV d A9.o).mono ?_;rintro e W7 ⟨rfl,C,g7⟩;have Z:=z.o.call C g7;have c7:=Z.lq.at_ 5 (.bool false) rfl;have f7:W7.frozen? ⟨x,5,none⟩=false:=Z.lq.free 5;have V:=p9 (Z.set 5 (.bool d));clear C g7 Z;go_wp2_with fail;go_meet
     case rel=>
      rcases c.o with ⟨_,f,hp,rfl⟩|⟨e,_⟩
      ·exact⟨_,o,d,V.o,by unfold qS;simp only[f,hp];simp only[GS,F9,if_true,HO.o,A9.o]⟩
      ·cases e
   case rest=>
    obtain⟨M,o,d,Aj,Ai⟩:=hcut;have H4:=p9 Aj;have Ap:=p9 Ai;clear Aj Ai E c;go_upto_region 17 with fail;go_cut [9] (fun v w=>∃m s2,v=.bool m/\fN W0 b G D s2 x (qC {aB with kind:=1,order:=o,down:=d,skip:=0,aX:=-1} vs vc vi (.slice none 0 0)) ⟨vs,sp,vc,cd,vi,it,(.slice none 0 0),[]⟩ w/\((m=true/\M.bad=false/\aO iZ M=true/\s2=bz iZ M)\/(m=false/\s2=M/\(M.bad=true\/aO iZ M=false))))
    case first=>
     have H:=H4.o.ri.box.at_ 2 (.bool M.bad) rfl;cases f:M.bad with
     | true=>
      have A:=p9 f;rw[f] at H;clear f;go_wp2_with fail;go_meet
      case rel=>exact⟨false,M,rfl,H4.o,a6 ⟨rfl,rfl,ad A.o⟩⟩
     | false=>
      have A:=p9 f;rw[f] at H;clear f;cases hw:aO iZ M with
      | false=>
       have u:=p9 hw;clear hw;go_wp2_with fail;refine(has H4.o.ri iZ false u.o).mono ?_;rintro e W6 ⟨rfl,t,g6⟩;rw[eG u.o] at t;have r:=p9 (H4.o.call t g6);clear t g6 H;go_wp2_with fail;go_meet
       case rel=>exact⟨false,M,rfl,r.o,a6 ⟨rfl,rfl,a6 u.o⟩⟩
      | true=>
       have u:=p9 hw;clear hw;go_wp2_with fail;refine(has H4.o.ri iZ true u.o).mono ?_;rintro e W6 ⟨rfl,t,g6⟩;have r:=p9 (H4.o.call t g6);clear t g6 H;go_wp2_with fail;go_meet
       case rel=>exact⟨true,bz iZ M,rfl,r.o,ad ⟨rfl,A.o,u.o,rfl⟩⟩
    case rest=>
     clear H4;obtain⟨m,s2,rfl,s,j⟩:=hcut;have E:=p9 s;have c:=p9 j;clear s j;go_upto_if 97 with fail;go_cut [] (fun w=>∃p k,fN W0 b G D p x (qC {aB with kind:=1,order:=o,down:=d,skip:=k,aX:=-1} vs vc vi (.slice none 0 0)) ⟨vs,sp,vc,cd,vi,it,(.slice none 0 0),[]⟩ w/\pV iZ (0) M=(k,p))
     case first=>
      cases m with
      | false=>
       go_wp2_with fail;go_meet
       case rel=>
        rcases c.o with ⟨e,_⟩|⟨_,rfl,F⟩
        ·cases e
        ·exact⟨_,0,E.o,by unfold pV;rcases F with F|F<;>simp[F]⟩
      | true=>
       obtain⟨k0,p,T⟩:∃k0 p,fq 0 1000000000 s2=(k0,p):=⟨_,_,rfl⟩;have Q:=p9 T;clear T;go_wp2_with fail;refine(rG E.o.ri Q.o).mono ?_;rintro e W5 ⟨rfl,R,g5⟩;have a:=E.o.call R g5;have c5:=a.lq.at_ 6 (.int .i64 (0)) rfl;have f5:W5.frozen? ⟨x,6,none⟩=false:=a.lq.free 6;have z:=p9 (a.set 6 (.int .i64 k0));clear R g5 a;go_wp2_with fail;go_meet
       case rel=>
        rcases c.o with ⟨_,f,hp,rfl⟩|⟨e,_⟩
        ·exact⟨p,k0,z.o,by unfold pV;simp only[f,hp];exact Q.o⟩
        ·cases e
     case rest=>
      obtain⟨N,k,Ak,Am⟩:=hcut;have z:=p9 Ak;have Aq:=p9 Am;clear Ak Am E c;go_upto_region 20 with fail;go_cut [10] (fun v w=>∃m s2,v=.bool m/\fN W0 b G D s2 x (qC {aB with kind:=1,order:=o,down:=d,skip:=k,aX:=-1} vs vc vi (.slice none 0 0)) ⟨vs,sp,vc,cd,vi,it,(.slice none 0 0),[]⟩ w/\((m=true/\N.bad=false/\aO gH N=true/\s2=bz gH N)\/(m=false/\s2=N/\(N.bad=true\/aO gH N=false))))
      case first=>
       have H:=z.o.ri.box.at_ 2 (.bool N.bad) rfl;cases f:N.bad with
       | true=>
        have A:=p9 f;rw[f] at H;clear f;go_wp2_with fail;go_meet
        case rel=>exact⟨false,N,rfl,z.o,a6 ⟨rfl,rfl,ad A.o⟩⟩
       | false=>
        have A:=p9 f;rw[f] at H;clear f;cases hw:aO gH N with
        | false=>
         have u:=p9 hw;clear hw;go_wp2_with fail;refine(has z.o.ri gH false u.o).mono ?_;rintro e W6 ⟨rfl,t,g6⟩;rw[eG u.o] at t;have r:=p9 (z.o.call t g6);clear t g6 H;go_wp2_with fail;go_meet
         case rel=>exact⟨false,N,rfl,r.o,a6 ⟨rfl,rfl,a6 u.o⟩⟩
        | true=>
         have u:=p9 hw;clear hw;go_wp2_with fail;refine(has z.o.ri gH true u.o).mono ?_;rintro e W6 ⟨rfl,t,g6⟩;have r:=p9 (z.o.call t g6);clear t g6 H;go_wp2_with fail;go_meet
         case rel=>exact⟨true,bz gH N,rfl,r.o,ad ⟨rfl,A.o,u.o,rfl⟩⟩
      case rest=>
       clear z;obtain⟨m,s2,rfl,s,j⟩:=hcut;have E:=p9 s;have c:=p9 j;clear s j;go_upto_if 112 with fail;go_cut [] (fun w=>∃p l,fN W0 b G D p x (qC {aB with kind:=1,order:=o,down:=d,skip:=k,aX:=l} vs vc vi (.slice none 0 0)) ⟨vs,sp,vc,cd,vi,it,(.slice none 0 0),[]⟩ w/\pV gH (-1) N=(l,p))
       case first=>
        cases m with
        | false=>
         go_wp2_with fail;go_meet
         case rel=>
          rcases c.o with ⟨e,_⟩|⟨_,rfl,F⟩
          ·cases e
          ·exact⟨_,-1,E.o,by unfold pV;rcases F with F|F<;>simp[F]⟩
        | true=>
         obtain⟨k0,p,T⟩:∃k0 p,fq 0 1000000000 s2=(k0,p):=⟨_,_,rfl⟩;have Q:=p9 T;clear T;go_wp2_with fail;refine(rG E.o.ri Q.o).mono ?_;rintro e W5 ⟨rfl,R,g5⟩;have a:=E.o.call R g5;have c5:=a.lq.at_ 7 (.int .i64 (-1)) rfl;have f5:W5.frozen? ⟨x,7,none⟩=false:=a.lq.free 7;have z:=p9 (a.set 7 (.int .i64 k0));clear R g5 a;go_wp2_with fail;go_meet
         case rel=>
          rcases c.o with ⟨_,f,hp,rfl⟩|⟨e,_⟩
          ·exact⟨p,k0,z.o,by unfold pV;simp only[f,hp];exact Q.o⟩
          ·cases e
       case rest=>
        obtain⟨s6,l,U,Af⟩:=hcut;have H9:=p9 U;have An:=p9 Af;have r2:=U.ri.box.at_ 2 (.bool s6.bad) rfl;have Ax:wc.frozen? ⟨b,2,none⟩=false:=U.ri.box.free 2;have z3:wc.cell? ⟨x,3,none⟩=some (.slice ao it.length ca):=(U.lq.cell 3).trans (by rw[Ab.o];rfl);clear U Af E c;have A7:qv (jE st=(⟨it,o,d,k,l⟩,s6.bA (decide (6<it.length)))):=by
         show _=_;unfold jE;simp only[Ao.o,Ap.o,Aq.o,An.o]
        cases f:s6.bad with
        | true=>
         rw[f] at r2;have HF:qv (jE st=(⟨it,o,d,k,l⟩,⟨s6.rest,true⟩)):=by show _=_;rw[A7.o];unfold RS.bA;simp only[f];rfl
         clear f;go_wp2_with fail;go_end0;refine⟨rfl,vi,?_⟩;rw[HF.o];exact H9.o.dR true
        | false=>
         rw[f] at r2;by_cases t:6<it.length
         ·have HF:qv (jE st=(⟨it,o,d,k,l⟩,⟨s6.rest,true⟩)):=by show _=_;rw[A7.o];unfold RS.bA;simp only[f];simp[t]
          clear f;have Ar:(6:Int)<it.length:=by omega
          go_wp2_with fail;go_end0;refine⟨rfl,vi,?_⟩;rw[HF.o];exact H9.o.dR true
         ·have HF:qv (jE st=(⟨it,o,d,k,l⟩,⟨s6.rest,false⟩)):=by show _=_;rw[A7.o];unfold RS.bA;simp only[f];simp[t]
          clear f;have Ar:¬(6:Int)<it.length:=by omega
          go_wp2_with fail;go_end0;refine⟨rfl,vi,?_⟩;rw[HF.o];exact H9.o.dR false
end
end Go.Proofs.YtbfmmmjkjhjleaaGreatDoor
