/- The program's parser: the spots of a match. -/
import Derived.Test.YtobgbmfpicmpcaaGreatDoorC12
import Derived.Test.YtobgbmfpicmpcaaGreatDoorC03
import Derived.Lib.QuietBelow
import Derived.Test.YtobgbmfpicmpcaaGreatDoorC01
import Derived.Lib.Hide
set_option maxRecDepth 100000
set_option maxHeartbeats 8000000
namespace Go.Proofs.YtobgbmfpicmpcaaGreatDoor
open Go.Lib (hid)
section
open Go.RowKit
theorem uO (st:RS):(gv st).2.rest.length≤st.rest.length:=by
 unfold gv jR
 have h1:=Pure.oR st
 simp only
 split
 ·have h2:=Pure.cK dU (cN st).2
  have h3:=Pure.kX 0 4 (ag dU (cN st).2)
  have h4:=Pure.ew kw (bL 0 4 (ag dU (cN st).2)).2
  have h5:=Pure.kX (bL 0 4 (ag dU (cN st).2)).1 4 (aD kw (bL 0 4 (ag dU (cN st).2)).2)
  have h6:=Pure.ew da (bL (bL 0 4 (ag dU (cN st).2)).1 4 (aD kw (bL 0 4 (ag dU (cN st).2)).2)).2
  simp only;omega
 ·have h6:=Pure.ew da (cN st).2
  simp only;omega
theorem rm {n:Nat} {out:List aN} {st s2:RS} {x:aN} (h:aE aK st=true) (hx:cg cq (ag aK st)=(x,s2)):aT (n+1) out st=aT n (out++[x]) s2:=by
 simp only[aT,h,if_true,hx]
theorem we {n:Nat} {out:List aN} {st s2 s3:RS} {x y:aN} (h:aE aK st=false) (h2:aE jG st=true) (hy:gv (ag jG st)=(y,s3)) (hx:cg y s3=(x,s2)):aT (n+1) out st=aT n (out++[x]) s2:=by
 simp only[aT,h,h2,if_true,Bool.false_eq_true,if_false,ov,hy,hx]
theorem tU {n:Nat} {out:List aN} {st:RS} (h:aE aK st=false) (h2:aE jG st=false):aT n out st=(out,st):=by
 cases n with
 | zero=>rfl
 | succ n=>simp only[aT,h,h2];rfl
theorem J8 {b G:Nat} {st s1:RS} {l:List aN} {W:World} (h:PI b G st W) (hl:st.rest.length≤2000) (hn:eE st=(l,s1)):
  Calls Tryz.prog 98 #[.pointer (some ⟨b,0,none⟩)] W fun e W'=>∃v,e=.returned v∧W'.ownsRow W.heap.size 85 5 v l.length (eU l)∧PI b G s1 W'∧W.grownBy W' (some b):=by
 obtain⟨i1,hj,hy0,hy1,hy2⟩:=info_parts Tryz.Em
 obtain⟨x0,a1,ha⟩:∃x0 az,cg cq st=(x0,az):=⟨_,_,rfl⟩
 obtain⟨L,a2,hL⟩:∃L az,aT a1.rest.length [x0] a1=(L,az):=⟨_,_,rfl⟩
 have e:(L,if 6<L.length then dv else a2)=(l,s1):=by rw[←hn];unfold eE;simp only[ha,hL]
 injection e with e1 e2
 subst e1
 have hl1:=Pure.iG cq st
 rw[ha] at hl1
 have HA:=hid ha
 have HL:=hid hL
 have HE:=hid e2
 have HH:=hid h
 have hgw:=h.xU.2
 have hbw:b<W.heap.size:=by obtain⟨_,_,hb,_⟩:=h.box;exact hb.lt
 clear h hn ha hL e2
 go_enter Tryz.func98,Tryz.ntmps98
 go_wp2_with fail
 refine(GB (q:=cq) HH.out HA.out).mono ?_
 rintro e W1 ⟨rfl,h1,g1⟩
 have hsz:=g1.size
 have H1:Hid (PL W b G a1 85 5 (.slice (some ⟨W1.heap.size,0,none⟩) 1 1) 1 (eU [x0]) (W1.alloc (.cells #[.string x0.name,.string x0.label,.string x0.type,.int .i64 x0.least,.int .i64 x0.bf] 85))):=
  ⟨h1.quiet (ar W1 _ none),World.ownsRow_lit (size:=5) W1 #[.string x0.name,.string x0.label,.string x0.type,.int .i64 x0.least,.int .i64 x0.bf] 1 hsz (by unfold maxLen;omega) rfl,aB g1 (ar W1 _ _),hgw,hbw⟩
 clear h1 g1 HH
 go_upto_block 0 with fail
 obtain⟨V,hV⟩:∃V,V=Value.slice (some ⟨W1.heap.size,0,none⟩) 1 1:=⟨_,rfl⟩
 rw[←hV] at H1⊢
 clear hV
 generalize W1.alloc (.cells #[.string x0.name,.string x0.label,.string x0.type,.int .i64 x0.least,.int .i64 x0.bf] 85)=W2 at H1⊢
 clear hsz
 go_wp2_with fail
 go_loopg [3] (a1.rest.length+1) (fun m v w=>∃out s' n,PL W b G s' 85 5 v out.length (eU out) w∧aT n out s'=(L,a2)∧s'.rest.length≤n∧s'.rest.length+1≤m∧out.length+s'.rest.length≤2001)
 case atStart=>exact⟨[x0],a1,a1.rest.length,H1.out,HL.out,Nat.le_refl _,by omega,by simp;omega⟩
 case round=>
  obtain⟨out,s',n,hq,hlp,hsn,hsm,hos⟩:=hrel
  have HQ:=hid hq
  have HLP:=hid hlp
  clear hq hlp H1 HL
  cases hm:aE aK s' with
  | true=>
   have HM:=hid hm
   have hless:=gL hm
   obtain⟨x,s2,hx⟩:∃x az,cg cq (ag aK s')=(x,az):=⟨_,_,rfl⟩
   have hxl:=Pure.iG cq (ag aK s')
   rw[hx] at hxl
   have HX:=hid hx
   obtain⟨n2,hn2⟩:∃n2,n=n2+1:=⟨n - 1,by omega⟩
   subst hn2
   clear hm hx
   go_wp2_with fail
   refine(aL HQ.out.p aK true HM.out).mono ?_
   rintro e W3 ⟨rfl,h3,g3⟩
   have H3:=hid (HQ.out.call h3 g3)
   clear h3 g3 HQ
   go_wp2_with fail
   refine(GB (q:=cq) H3.out.p HX.out).mono ?_
   rintro e W5 ⟨rfl,h5,g5⟩
   have H5:=hid (H3.out.call h5 g5)
   clear h5 g5 H3
   have HD:=hid (H5.out.quiet (ar W5 (.cells #[.string x.name,.string x.label,.string x.type,.int .i64 x.least,.int .i64 x.bf] 85) none))
   obtain⟨pa,pc,hshape⟩:∃ao cap,u3=.slice ao out.length cap:=by
    obtain⟨ao,cap,e,_⟩:=aU (l:=out) HD.out.row
    exact⟨ao,cap,e⟩
   subst hshape
   clear H5
   go_wp2_with (at_builtin;go_must (refine wpList_append_lies _ rfl _ _ 22 rfl W.heap.size 85 i1 (.agg #[.string ⟨#[]⟩,.string ⟨#[]⟩,.string ⟨#[]⟩,.int .i64 0,.int .i64 0]) 5 64 Tryz.underlying22 hj hy0 hy1 hy2 rfl (by decide) (.slice pa out.length pc) _ _ rfl HD.out.row _ 1 1 [.string x.name,.string x.label,.string x.type,.int .i64 x.least,.int .i64 x.bf] rfl rfl (World.news_of_block (heap_alloc_new W5 _)) zr (by omega) (by unfold maxLen;omega) (by omega) HD.out.grown.size _ rfl ?_;intro g2 cap2 w5 hown hgrow _ _;have H6:=hid (HD.out.more hgrow hown);clear hown hgrow))
   go_roundg (gk - 1)
   case measure=>omega
   case rel=>
    refine⟨out++[x],s2,n2,?_,?_,by omega,by omega,by rw[List.length_append];simp;omega⟩
    ·rw[lU,List.length_append];exact H6.out
    ·rw[←HLP.out];rw[rm HM.out HX.out]
  | false=>
   have HM:=hid hm
   clear hm
   cases hto:aE jG s' with
   | true=>
    have HTO:=hid hto
    have hless:=gL hto
    obtain⟨y,s3,hy⟩:∃x az,gv (ag jG s')=(x,az):=⟨_,_,rfl⟩
    have hyl:=uO (ag jG s')
    rw[hy] at hyl
    obtain⟨x,s2,hx⟩:∃x az,cg y s3=(x,az):=⟨_,_,rfl⟩
    have hxl:=Pure.iG y s3
    rw[hx] at hxl
    have HX:=hid hx
    have HY:=hid hy
    obtain⟨n2,hn2⟩:∃n2,n=n2+1:=⟨n - 1,by omega⟩
    subst hn2
    clear hto hx hy
    go_wp2_with fail
    refine(aL HQ.out.p aK false HM.out).mono ?_
    rintro e W3 ⟨rfl,h3,g3⟩
    rw[show ag aK s'=s' by unfold ag;rw[HM.out];rfl] at h3
    have H3:=hid (HQ.out.call h3 g3)
    clear h3 g3 HQ
    go_wp2_with fail
    refine(aL H3.out.p jG true HTO.out).mono ?_
    rintro e W4 ⟨rfl,h4,g4⟩
    have H4:=hid (H3.out.call h4 g4)
    clear h4 g4 H3
    go_wp2_with fail
    refine(Kj H4.out.p HY.out).mono ?_
    rintro e W6 ⟨rfl,h6,g6⟩
    have H6:=hid (H4.out.call h6 g6)
    clear h6 g6 H4
    go_wp2_with fail
    refine(GB (q:=y) H6.out.p HX.out).mono ?_
    rintro e W5 ⟨rfl,h5,g5⟩
    have H5:=hid (H6.out.call h5 g5)
    clear h5 g5 H6
    have HD:=hid (H5.out.quiet (ar W5 (.cells #[.string x.name,.string x.label,.string x.type,.int .i64 x.least,.int .i64 x.bf] 85) none))
    obtain⟨pa,pc,hshape⟩:∃ao cap,u3=.slice ao out.length cap:=by
     obtain⟨ao,cap,e,_⟩:=aU (l:=out) HD.out.row
     exact⟨ao,cap,e⟩
    subst hshape
    clear H5
    go_wp2_with (at_builtin;go_must (refine wpList_append_lies _ rfl _ _ 22 rfl W.heap.size 85 i1 (.agg #[.string ⟨#[]⟩,.string ⟨#[]⟩,.string ⟨#[]⟩,.int .i64 0,.int .i64 0]) 5 64 Tryz.underlying22 hj hy0 hy1 hy2 rfl (by decide) (.slice pa out.length pc) _ _ rfl HD.out.row _ 1 1 [.string x.name,.string x.label,.string x.type,.int .i64 x.least,.int .i64 x.bf] rfl rfl (World.news_of_block (heap_alloc_new W5 _)) zr (by omega) (by unfold maxLen;omega) (by omega) HD.out.grown.size _ rfl ?_;intro g2 cap2 w5 hown hgrow _ _;have H6:=hid (HD.out.more hgrow hown);clear hown hgrow))
    go_roundg (gk - 1)
    case measure=>omega
    case rel=>
     refine⟨out++[x],s2,n2,?_,?_,by omega,by omega,by rw[List.length_append];simp;omega⟩
     ·rw[lU,List.length_append];exact H6.out
     ·rw[←HLP.out];rw[we HM.out HTO.out HY.out HX.out]
   | false=>
    have HTO:=hid hto
    clear hto
    have hend:=HLP.out
    rw[tU HM.out HTO.out] at hend
    injection hend with e1 e2
    subst e1;subst e2
    obtain⟨pa,pc,hshape⟩:∃ao cap,u3=.slice ao out.length cap:=by
     obtain⟨ao,cap,e,_⟩:=aU (l:=out) HQ.out.row
     exact⟨ao,cap,e⟩
    subst hshape
    by_cases h6:6<out.length
    ·have HS:Hid (s1=dv):=by show _=_;rw[←HE.out,if_pos h6]
     have h6i:(6:Int)<(out.length:Int):=by omega
     go_wp2_with fail
     refine(aL HQ.out.p aK false HM.out).mono ?_
     rintro e W3 ⟨rfl,h3,g3⟩
     rw[show ag aK s'=s' by unfold ag;rw[HM.out];rfl] at h3
     have H3:=hid (HQ.out.call h3 g3)
     clear h3 g3 HQ
     go_wp2_with fail
     refine(aL H3.out.p jG false HTO.out).mono ?_
     rintro e W4 ⟨rfl,h4,g4⟩
     have H4:=hid (H3.out.call h4 g4)
     clear h4 g4 H3
     go_wp2_with fail
     refine(nk H4.out.p).mono ?_
     rintro e W5 ⟨rfl,h5,g5⟩
     have H5:=hid (H4.out.call h5 g5)
     clear h5 g5 H4
     go_wp2_with fail
     refine bodyPost_ret (v:=.slice pa out.length pc) ?_ rfl ⟨_,rfl,H5.out.row,by rw[HS.out];exact H5.out.p,H5.out.grown⟩
     simp[results,Tryz.results98,go_sem]
    ·have HS:Hid (s1=s'):=by show _=_;rw[←HE.out,if_neg h6]
     have h6i:¬(6:Int)<(out.length:Int):=by omega
     go_wp2_with fail
     refine(aL HQ.out.p aK false HM.out).mono ?_
     rintro e W3 ⟨rfl,h3,g3⟩
     rw[show ag aK s'=s' by unfold ag;rw[HM.out];rfl] at h3
     have H3:=hid (HQ.out.call h3 g3)
     clear h3 g3 HQ
     go_wp2_with fail
     refine(aL H3.out.p jG false HTO.out).mono ?_
     rintro e W4 ⟨rfl,h4,g4⟩
     rw[show ag jG s'=s' by unfold ag;rw[HTO.out];rfl] at h4
     have H4:=hid (H3.out.call h4 g4)
     clear h4 g4 H3
     go_wp2_with fail
     refine bodyPost_ret (v:=.slice pa out.length pc) ?_ rfl ⟨_,rfl,H4.out.row,by rw[HS.out];exact H4.out.p,H4.out.grown⟩
     simp[results,Tryz.results98,go_sem]
end
section
open Go.RowKit Go.Sort
theorem Hq {a:ByteArray}:∀u∈[Value.string a],u.oneCell'=true:=by
 intro u hu
 simp at hu
 subst hu;rfl
end
section
open Go.RowKit
structure jd (B:Nat) (q:au) (vs vc vi vp:Value) (w:World):Prop where
 rs:w.ownsRow B 85 5 vs q.ai.length (eU q.ai)
 rc:w.ownsRow B 87 7 vc q.conds.length (eT q.conds)
 rt:w.ownsRow B 89 2 vi q.items.length (eR q.items)
 rp:w.ownsRow B 91 2 vp q.ay.length (fB q.ay)
def qJ (r:au × Int) (W:World) (e:Ending) (W':World):Prop:=
 Below W.heap.size W W'∧∃vs vc vi vp,e=.returned (.tuple #[.agg (qC r.1 vs vc vi vp),.int .i64 r.2])∧jd W.heap.size r.1 vs vc vi vp W'
theorem jd.none (B:Nat) (w:World):jd B aF (.slice none 0 0) (.slice none 0 0) (.slice none 0 0) (.slice none 0 0) w:=
 ⟨World.ownsRow_nil _ _ _ _,World.ownsRow_nil _ _ _ _,World.ownsRow_nil _ _ _ _,World.ownsRow_nil _ _ _ _⟩
theorem bQ {w:World} {B B' k n:Nat} {T:TypeId} {v:Value} {xs:List Value} (h:w.ownsRow B T k v n xs) (hb:B'≤B):w.ownsRow B' T k v n xs:=by
 refine⟨h.1,?_⟩
 rcases h.2 with e|⟨g,cap,cur,e,hbg,r⟩
 ·exact Or.inl e
 ·exact Or.inr ⟨g,cap,cur,e,Nat.le_trans hb hbg,r⟩
theorem size_alloc (w:World) (o:Obj):(w.alloc o).heap.size=w.heap.size+1:=by simp
theorem gH {W Wz w:World} {b:Nat} (h0:Below W.heap.size W Wz) (h:Wz.grownBy w (some b)) (hb:W.heap.size≤b):Below W.heap.size W w:=
 ⟨h.os.trans h0.os,h.tape.trans h0.tape,h.output.trans h0.output,Nat.le_trans h0.size h.size,fun k hk=>(h.block k (Nat.lt_of_lt_of_le hk h0.size) (by intro e;injection e with e;omega)).trans (h0.block k hk)⟩
theorem Eo {s:ByteArray} {ts:List Tok} (h:fg s=some ts):ts.length≤2000:=by
 unfold fg at h
 split at h
 ·cases h
 ·have:=Bi s s.size 0 ts (by omega) h
  omega
end
section
open Go.RowKit
structure PQ (W0:World) (b G:Nat) (st:RS) (x:Nat) (q:au) (vs vc vi vp:Value) (w:World):Prop where
 p:PI b G st w
 lx:Loc w x (qC q vs vc vi vp) 29
 nx:W0.heap.size≤x
 grown:W0.grownBy w (some b)
 rows:jd W0.heap.size q vs vc vi vp w
 gw:G<W0.heap.size
 bw:b<W0.heap.size
section
variable {W0 w w':World} {b G x:Nat} {st st':RS} {q q':au} {vs vc vi vp:Value}
theorem PQ.xb (h:PQ W0 b G st x q vs vc vi vp w):x≠b:=by have:=h.nx;have:=h.bw;omega
theorem PQ.xg (h:PQ W0 b G st x q vs vc vi vp w):x≠G:=by have:=h.nx;have:=h.gw;omega
theorem Gj {B b:Nat} (h:jd B q vs vc vi vp w) (hb:b<B) (g:w.grownBy w' (some b)):jd B q vs vc vi vp w':=
 ⟨h.rs.kept g (Or.inr fun e=>by have:=(h.rs.lt b e).1;omega),h.rc.kept g (Or.inr fun e=>by have:=(h.rc.lt b e).1;omega),h.rt.kept g (Or.inr fun e=>by have:=(h.rt.lt b e).1;omega),h.rp.kept g (Or.inr fun e=>by have:=(h.rp.lt b e).1;omega)⟩
theorem nH {B y:Nat} {cs:Array Value} (h:jd B q vs vc vi vp w) (hl:Loc w y cs 29) (g:w.grownBy w' (some y)):jd B q vs vc vi vp w':=
 ⟨h.rs.kept g (Or.inr (aQ h.rs hl (by decide))),h.rc.kept g (Or.inr (aQ h.rc hl (by decide))),h.rt.kept g (Or.inr (aQ h.rt hl (by decide))),h.rp.kept g (Or.inr (aQ h.rp hl (by decide)))⟩
theorem PQ.call (h:PQ W0 b G st x q vs vc vi vp w) (h1:PI b G st' w') (g1:w.grownBy w' (some b)):PQ W0 b G st' x q vs vc vi vp w':=
 ⟨h1,h.lx.grown g1 (by intro e;injection e with e;exact h.xb e),h.nx,aB h.grown g1,Gj h.rows h.bw g1,h.gw,h.bw⟩
theorem PQ.set (h:PQ W0 b G st x q vs vc vi vp w) (j:Nat) (u:Value) (e:(qC q vs vc vi vp).setIfInBounds j u=qC q' vs vc vi vp) (e1:q'.ai=q.ai) (e2:q'.conds=q.conds) (e3:q'.items=q.items) (e4:q'.ay=q.ay):PQ W0 b G st x q' vs vc vi vp (w.setCell ⟨x,j,none⟩ u):=by
 have g:=aC w x j u
 have hr:=nH h.rows h.lx g
 refine⟨h.p.kept g (by intro e;injection e with e;exact h.xb e.symm) (by intro e;injection e with e;exact h.xg e.symm),?_,h.nx,dL h.grown h.nx j u,?_,h.gw,h.bw⟩
 ·rw[←e];exact h.lx.set j u
 ·exact⟨by rw[e1];exact hr.rs,by rw[e2];exact hr.rc,by rw[e3];exact hr.rt,by rw[e4];exact hr.rp⟩
end
theorem JO {W0 W:World} {b G x:Nat} {st:RS} {q:au} {vs vc vi vp:Value} (h:PQ W0 b G st x q vs vc vi vp W):
  Calls Tryz.prog 167 #[.pointer (some ⟨b,0,none⟩),.pointer (some ⟨x,0,none⟩)] W fun e W'=>e=.returned (.tuple #[])∧PQ W0 b G (jh st).2 x {q with name:=(jh st).1.1,type:=(jh st).1.2.1,dest:=(jh st).1.2.2} vs vc vi vp W':=by
 have HI:=hid h
 clear h
 go_enter Tryz.func167,Tryz.ntmps167
 obtain⟨qs1,hqs1⟩:∃sz,aD bE st=sz:=⟨_,rfl⟩
 have Eqs1:=hid hqs1
 go_wp2_with fail
 refine(dA HI.out.p bE).mono ?_
 rintro e Q1 ⟨rfl,h,g⟩
 rw[hqs1] at h
 have Hqs1:Hid (PQ W0 b G qs1 x q vs vc vi vp Q1):=HI.out.call h g
 clear h g hqs1 HI
 obtain⟨vqs2,qs2,hqs2⟩:∃n sz,du qs1=(n,sz):=⟨_,_,rfl⟩
 have Eqs2:=hid hqs2
 clear hqs2
 go_wp2_with fail
 refine(mS Hqs1.out.p Eqs2.out).mono ?_
 rintro e Q2 ⟨rfl,h,g⟩
 have Ha:=Hqs1.out.call h g
 have cc:=Ha.lx.at_ 8 (.string q.name) rfl
 have cf:Q2.frozen? ⟨x,8,none⟩=false:=Ha.lx.free 8
 have Hqs2:Hid (PQ W0 b G qs2 x {q with name:=vqs2} vs vc vi vp (Q2.setCell ⟨x,8,none⟩ (.string vqs2))):=Ha.set 8 (.string vqs2) rfl rfl rfl rfl rfl
 clear h g Ha Hqs1
 obtain⟨qs3,hqs3⟩:∃sz,aD bA qs2=sz:=⟨_,rfl⟩
 have Eqs3:=hid hqs3
 go_wp2_with fail
 generalize Q2.setCell ⟨x,8,none⟩ (.string vqs2)=Q2x at Hqs2⊢;clear cc cf
 refine(dA Hqs2.out.p bA).mono ?_
 rintro e Q3 ⟨rfl,h,g⟩
 rw[hqs3] at h
 have Hqs3:Hid (PQ W0 b G qs3 x {q with name:=vqs2} vs vc vi vp Q3):=Hqs2.out.call h g
 clear h g hqs3 Hqs2
 obtain⟨qs4,hqs4⟩:∃sz,aD jG qs3=sz:=⟨_,rfl⟩
 have Eqs4:=hid hqs4
 go_wp2_with fail
 refine(dA Hqs3.out.p jG).mono ?_
 rintro e Q4 ⟨rfl,h,g⟩
 rw[hqs4] at h
 have Hqs4:Hid (PQ W0 b G qs4 x {q with name:=vqs2} vs vc vi vp Q4):=Hqs3.out.call h g
 clear h g hqs4 Hqs3
 obtain⟨vqs5,qs5,hqs5⟩:∃n sz,cN qs4=(n,sz):=⟨_,_,rfl⟩
 have Eqs5:=hid hqs5
 clear hqs5
 go_wp2_with fail
 refine(rN Hqs4.out.p Eqs5.out).mono ?_
 rintro e Q5 ⟨rfl,h,g⟩
 have Ha:=Hqs4.out.call h g
 have cc:=Ha.lx.at_ 13 (.string q.type) rfl
 have cf:Q5.frozen? ⟨x,13,none⟩=false:=Ha.lx.free 13
 have Hqs5:Hid (PQ W0 b G qs5 x {q with name:=vqs2,type:=vqs5} vs vc vi vp (Q5.setCell ⟨x,13,none⟩ (.string vqs5))):=Ha.set 13 (.string vqs5) rfl rfl rfl rfl rfl
 clear h g Ha Hqs4
 obtain⟨qs6,hqs6⟩:∃sz,aD da qs5=sz:=⟨_,rfl⟩
 have Eqs6:=hid hqs6
 go_wp2_with fail
 generalize Q5.setCell ⟨x,13,none⟩ (.string vqs5)=Q5x at Hqs5⊢;clear cc cf
 refine(dA Hqs5.out.p da).mono ?_
 rintro e Q6 ⟨rfl,h,g⟩
 rw[hqs6] at h
 have Hqs6:Hid (PQ W0 b G qs6 x {q with name:=vqs2,type:=vqs5} vs vc vi vp Q6):=Hqs5.out.call h g
 clear h g hqs6 Hqs5
 obtain⟨qs7,hqs7⟩:∃sz,aD bE qs6=sz:=⟨_,rfl⟩
 have Eqs7:=hid hqs7
 go_wp2_with fail
 refine(dA Hqs6.out.p bE).mono ?_
 rintro e Q7 ⟨rfl,h,g⟩
 rw[hqs7] at h
 have Hqs7:Hid (PQ W0 b G qs7 x {q with name:=vqs2,type:=vqs5} vs vc vi vp Q7):=Hqs6.out.call h g
 clear h g hqs7 Hqs6
 obtain⟨vqs8,qs8,hqs8⟩:∃n sz,du qs7=(n,sz):=⟨_,_,rfl⟩
 have Eqs8:=hid hqs8
 clear hqs8
 go_wp2_with fail
 refine(mS Hqs7.out.p Eqs8.out).mono ?_
 rintro e Q8 ⟨rfl,h,g⟩
 have Ha:=Hqs7.out.call h g
 have cc:=Ha.lx.at_ 14 (.string q.dest) rfl
 have cf:Q8.frozen? ⟨x,14,none⟩=false:=Ha.lx.free 14
 have Hqs8:Hid (PQ W0 b G qs8 x {q with name:=vqs2,type:=vqs5,dest:=vqs8} vs vc vi vp (Q8.setCell ⟨x,14,none⟩ (.string vqs8))):=Ha.set 14 (.string vqs8) rfl rfl rfl rfl rfl
 clear h g Ha Hqs7
 obtain⟨qs9,hqs9⟩:∃sz,aD bA qs8=sz:=⟨_,rfl⟩
 have Eqs9:=hid hqs9
 go_wp2_with fail
 generalize Q8.setCell ⟨x,14,none⟩ (.string vqs8)=Q8x at Hqs8⊢;clear cc cf
 refine(dA Hqs8.out.p bA).mono ?_
 rintro e Q9 ⟨rfl,h,g⟩
 rw[hqs9] at h
 have Hqs9:Hid (PQ W0 b G qs9 x {q with name:=vqs2,type:=vqs5,dest:=vqs8} vs vc vi vp Q9):=Hqs8.out.call h g
 clear h g hqs9 Hqs8
 go_wp2_with fail
 go_end0
 refine⟨rfl,?_⟩
 have e:jh st=((vqs2,vqs5,vqs8),qs9):=by
  unfold jh
  simp only[Eqs1.out,Eqs2.out,Eqs3.out,Eqs4.out,Eqs5.out,Eqs6.out,Eqs7.out,Eqs8.out,Eqs9.out]
 rw[e]
 exact Hqs9.out
end
section
open Go.RowKit
section
variable {W0 w w':World} {b G x:Nat} {st st':RS} {q:au} {vs vc vi vp:Value}
theorem PQ.items {v:Value} {l:List bi} (h:PQ W0 b G st x q vs vc vi vp w) (h1:PI b G st' w') (g1:w.grownBy w' (some b)) (ho:w'.ownsRow w.heap.size 89 2 v l.length (eR l)):PQ W0 b G st' x {q with items:=l} vs vc v vp (w'.setCell ⟨x,3,none⟩ v):=by
 have h2:=h.call h1 g1
 have hr:jd W0.heap.size {q with items:=l} vs vc v vp w':=⟨h2.rows.rs,h2.rows.rc,bQ ho h.grown.size,h2.rows.rp⟩
 have g:=aC w' x 3 v
 exact⟨h2.p.kept g (by intro e;injection e with e;exact h.xb e.symm) (by intro e;injection e with e;exact h.xg e.symm),h2.lx.set 3 v,h.nx,dL h2.grown h.nx 3 v,nH hr h2.lx g,h.gw,h.bw⟩
theorem PQ.conds {v:Value} {l:List bP} (h:PQ W0 b G st x q vs vc vi vp w) (h1:PI b G st' w') (g1:w.grownBy w' (some b)) (ho:w'.ownsRow w.heap.size 87 7 v l.length (eT l)):PQ W0 b G st' x {q with conds:=l} vs v vi vp (w'.setCell ⟨x,2,none⟩ v):=by
 have h2:=h.call h1 g1
 have hr:jd W0.heap.size {q with conds:=l} vs v vi vp w':=⟨h2.rows.rs,bQ ho h.grown.size,h2.rows.rt,h2.rows.rp⟩
 have g:=aC w' x 2 v
 exact⟨h2.p.kept g (by intro e;injection e with e;exact h.xb e.symm) (by intro e;injection e with e;exact h.xg e.symm),h2.lx.set 2 v,h.nx,dL h2.grown h.nx 2 v,nH hr h2.lx g,h.gw,h.bw⟩
theorem PQ.ay {v:Value} {l:List dR} (h:PQ W0 b G st x q vs vc vi vp w) (h1:PI b G st' w') (g1:w.grownBy w' (some b)) (ho:w'.ownsRow w.heap.size 91 2 v l.length (fB l)):PQ W0 b G st' x {q with ay:=l} vs vc vi v (w'.setCell ⟨x,16,none⟩ v):=by
 have h2:=h.call h1 g1
 have hr:jd W0.heap.size {q with ay:=l} vs vc vi v w':=⟨h2.rows.rs,h2.rows.rc,h2.rows.rt,bQ ho h.grown.size⟩
 have g:=aC w' x 16 v
 exact⟨h2.p.kept g (by intro e;injection e with e;exact h.xb e.symm) (by intro e;injection e with e;exact h.xg e.symm),h2.lx.set 16 v,h.nx,dL h2.grown h.nx 16 v,nH hr h2.lx g,h.gw,h.bw⟩
end
theorem Kc {W0 W:World} {b G x:Nat} {st:RS} {sp:List aN} {cd:List bP} {vs vc:Value} (h:PQ W0 b G st x {aF with kind:=1,ai:=sp,conds:=cd} vs vc (.slice none 0 0) (.slice none 0 0) W) (hl:st.rest.length≤2000):
  Calls Tryz.prog 165 #[.pointer (some ⟨b,0,none⟩),.pointer (some ⟨x,0,none⟩)] W fun e W'=>e=.returned (.tuple #[])∧∃vi,PQ W0 b G (eA st).2 x {aF with kind:=1,ai:=sp,conds:=cd,items:=(eA st).1.items,order:=(eA st).1.order,down:=(eA st).1.down,skip:=(eA st).1.skip,bR:=(eA st).1.bR} vs vc vi (.slice none 0 0) W':=by
 have HI:=hid h
 obtain⟨it,s1,hit⟩:∃l az,eO fS aK 6 st=(l,az):=⟨_,_,rfl⟩
 have HIT:=hid hit
 clear h hit
 go_enter Tryz.func165,Tryz.ntmps165
 go_wp2_with fail
 refine(EQ HI.out.p hl HIT.out).mono ?_
 rintro e W1 ⟨v0,rfl,ho,h1,g1⟩
 obtain⟨ao,ca,rfl,hca⟩:=aU (l:=it) ho
 have Ha:=HI.out.call h1 g1
 have c3:=Ha.lx.at_ 3 (.slice none 0 0) rfl
 have f3:W1.frozen? ⟨x,3,none⟩=false:=Ha.lx.free 3
 have H1:=hid (HI.out.items h1 g1 ho)
 clear Ha ho h1 g1 HI
 go_wp2_with fail
 generalize W1.setCell ⟨x,3,none⟩ (.slice ao it.length ca)=W2 at H1⊢
 clear c3 f3
 obtain⟨m1,hm1⟩:∃m,aE eJ s1=m:=⟨_,rfl⟩
 have HM1:=hid hm1
 clear hm1
 refine(aL H1.out.p eJ m1 HM1.out).mono ?_
 rintro e W3 ⟨rfl,h3,g3⟩
 have H3:Hid (PQ W0 b G (ag eJ s1) x {aF with kind:=1,ai:=sp,conds:=cd,items:=it} vs vc (.slice ao it.length ca) (.slice none 0 0) W3):=H1.out.call h3 g3
 clear h3 g3 H1
 go_upto_if 12 with fail
 go_cut [] (fun w=>∃s2 o d,PQ W0 b G s2 x {aF with kind:=1,ai:=sp,conds:=cd,items:=it,order:=o,down:=d} vs vc (.slice ao it.length ca) (.slice none 0 0) w∧gE it.length s1=((o,d),s2))
 case first=>
  cases m1 with
  | false=>
   go_wp2_with fail
   go_meet
   case rel=>exact⟨s1,0,false,by have h:=H3.out;rw[show ag eJ s1=s1 by unfold ag;rw[HM1.out];rfl] at h;exact h,by unfold gE;rw[HM1.out];rfl⟩
  | true=>
   obtain⟨o,a3,ho⟩:∃o az,bL 1 it.length (aD IH (ag eJ s1))=(o,az):=⟨_,_,rfl⟩
   have HO:=hid ho
   clear ho
   go_wp2_with fail
   refine(dA H3.out.p IH).mono ?_
   rintro e W4 ⟨rfl,h4,g4⟩
   have H4:=hid (H3.out.call h4 g4)
   clear h4 g4 H3
   have c3:=H4.out.lx.at_ 3 (.slice ao it.length ca) rfl
   go_wp2_with fail
   refine(kC H4.out.p HO.out).mono ?_
   rintro e W5 ⟨rfl,h5,g5⟩
   have Ha:=H4.out.call h5 g5
   have c4:=Ha.lx.at_ 4 (.int .i64 0) rfl
   have f4:W5.frozen? ⟨x,4,none⟩=false:=Ha.lx.free 4
   have H5:Hid (PQ W0 b G a3 x {aF with kind:=1,ai:=sp,conds:=cd,items:=it,order:=o} vs vc (.slice ao it.length ca) (.slice none 0 0) (W5.setCell ⟨x,4,none⟩ (.int .i64 o))):=Ha.set 4 (.int .i64 o) rfl rfl rfl rfl rfl
   clear Ha h5 g5 H4 c3
   obtain⟨d,hd⟩:∃m,aE jF a3=m:=⟨_,rfl⟩
   have HD:=hid hd
   clear hd
   go_wp2_with fail
   generalize W5.setCell ⟨x,4,none⟩ (.int .i64 o)=W6 at H5⊢
   clear c4 f4
   refine(aL H5.out.p jF d HD.out).mono ?_
   rintro e W7 ⟨rfl,h7,g7⟩
   have Ha:=H5.out.call h7 g7
   have c5:=Ha.lx.at_ 5 (.bool false) rfl
   have f5:W7.frozen? ⟨x,5,none⟩=false:=Ha.lx.free 5
   have H7:Hid (PQ W0 b G (ag jF a3) x {aF with kind:=1,ai:=sp,conds:=cd,items:=it,order:=o,down:=d} vs vc (.slice ao it.length ca) (.slice none 0 0) (W7.setCell ⟨x,5,none⟩ (.bool d))):=Ha.set 5 (.bool d) rfl rfl rfl rfl rfl
   clear Ha h7 g7 H5
   go_wp2_with fail
   go_meet
   case rel=>exact⟨_,o,d,H7.out,by unfold gE;rw[HM1.out];simp only[HO.out,HD.out];rfl⟩
 case rest=>
  clear H3
  obtain⟨s2,o,d,hq,hor⟩:=hcut
  have H4:=hid hq
  have HOR:=hid hor
  clear hq hor
  obtain⟨m2,hm2⟩:∃m,aE jI s2=m:=⟨_,rfl⟩
  have HM2:=hid hm2
  clear hm2
  go_wp2_with fail
  refine(aL H4.out.p jI m2 HM2.out).mono ?_
  rintro e W5 ⟨rfl,h5,g5⟩
  have H5:Hid (PQ W0 b G (ag jI s2) x {aF with kind:=1,ai:=sp,conds:=cd,items:=it,order:=o,down:=d} vs vc (.slice ao it.length ca) (.slice none 0 0) W5):=H4.out.call h5 g5
  clear h5 g5 H4
  go_upto_if 31 with fail
  go_cut [] (fun w=>∃s3 k,PQ W0 b G s3 x {aF with kind:=1,ai:=sp,conds:=cd,items:=it,order:=o,down:=d,skip:=k} vs vc (.slice ao it.length ca) (.slice none 0 0) w∧gz jI 0 s2=(k,s3))
  case first=>
   cases m2 with
   | false=>
    go_wp2_with fail
    go_meet
    case rel=>exact⟨s2,0,by have h:=H5.out;rw[show ag jI s2=s2 by unfold ag;rw[HM2.out];rfl] at h;exact h,by unfold gz;rw[HM2.out];rfl⟩
   | true=>
    obtain⟨k,a3,hk⟩:∃o az,bL 0 1000000000 (ag jI s2)=(o,az):=⟨_,_,rfl⟩
    have HK:=hid hk
    clear hk
    go_wp2_with fail
    refine(kC H5.out.p HK.out).mono ?_
    rintro e W6 ⟨rfl,h6,g6⟩
    have Ha:=H5.out.call h6 g6
    have c6:=Ha.lx.at_ 6 (.int .i64 0) rfl
    have f6:W6.frozen? ⟨x,6,none⟩=false:=Ha.lx.free 6
    have H6:Hid (PQ W0 b G a3 x {aF with kind:=1,ai:=sp,conds:=cd,items:=it,order:=o,down:=d,skip:=k} vs vc (.slice ao it.length ca) (.slice none 0 0) (W6.setCell ⟨x,6,none⟩ (.int .i64 k))):=Ha.set 6 (.int .i64 k) rfl rfl rfl rfl rfl
    clear Ha h6 g6 H5
    go_wp2_with fail
    go_meet
    case rel=>exact⟨_,k,H6.out,by unfold gz;rw[HM2.out];exact HK.out⟩
  case rest=>
   clear H5
   obtain⟨s3,k,hq,hsk⟩:=hcut
   have HSK:=hid hsk
   have c7:=hq.lx.at_ 7 (.int .i64 0) rfl
   have f7:wc.frozen? ⟨x,7,none⟩=false:=hq.lx.free 7
   have H6:Hid (PQ W0 b G s3 x {aF with kind:=1,ai:=sp,conds:=cd,items:=it,order:=o,down:=d,skip:=k,bR:=-1} vs vc (.slice ao it.length ca) (.slice none 0 0) (wc.setCell ⟨x,7,none⟩ (.int .i64 (-1)))):=hq.set 7 (.int .i64 (-1)) rfl rfl rfl rfl rfl
   clear hq hsk
   obtain⟨m3,hm3⟩:∃m,aE iN s3=m:=⟨_,rfl⟩
   have HM3:=hid hm3
   clear hm3
   go_wp2_with fail
   generalize wc.setCell ⟨x,7,none⟩ (.int .i64 (-1))=W7 at H6⊢
   clear c7 f7
   refine(aL H6.out.p iN m3 HM3.out).mono ?_
   rintro e W8 ⟨rfl,h8,g8⟩
   have H8:Hid (PQ W0 b G (ag iN s3) x {aF with kind:=1,ai:=sp,conds:=cd,items:=it,order:=o,down:=d,skip:=k,bR:=-1} vs vc (.slice ao it.length ca) (.slice none 0 0) W8):=H6.out.call h8 g8
   clear h8 g8 H6
   cases m3 with
   | false=>
    have HF:Hid (eA st=(⟨it,o,d,k,-1⟩,s3)):=by
     show _=_;unfold eA gz;simp only[HIT.out,HOR.out];have:=HSK.out;unfold gz at this;rw[this];simp only[HM3.out];rfl
    go_wp2_with fail
    go_end0
    refine⟨rfl,.slice ao it.length ca,?_⟩
    rw[HF.out]
    have h:=H8.out
    rw[show ag iN s3=s3 by unfold ag;rw[HM3.out];rfl] at h
    exact h
   | true=>
    obtain⟨lm,a3,hk⟩:∃o az,bL 0 1000000000 (ag iN s3)=(o,az):=⟨_,_,rfl⟩
    have HK:=hid hk
    clear hk
    have HF:Hid (eA st=(⟨it,o,d,k,lm⟩,a3)):=by
     show _=_;unfold eA gz;simp only[HIT.out,HOR.out];have:=HSK.out;unfold gz at this;rw[this];simp only[HM3.out,HK.out];rfl
    go_wp2_with fail
    refine(kC H8.out.p HK.out).mono ?_
    rintro e W9 ⟨rfl,h9,g9⟩
    have Ha:=H8.out.call h9 g9
    have c7:=Ha.lx.at_ 7 (.int .i64 (-1)) rfl
    have f7:W9.frozen? ⟨x,7,none⟩=false:=Ha.lx.free 7
    have H9:Hid (PQ W0 b G a3 x {aF with kind:=1,ai:=sp,conds:=cd,items:=it,order:=o,down:=d,skip:=k,bR:=lm} vs vc (.slice ao it.length ca) (.slice none 0 0) (W9.setCell ⟨x,7,none⟩ (.int .i64 lm))):=Ha.set 7 (.int .i64 lm) rfl rfl rfl rfl rfl
    clear Ha h9 g9 H8
    go_wp2_with fail
    go_end0
    refine⟨rfl,.slice ao it.length ca,?_⟩
    rw[HF.out]
    exact H9.out
end
end Go.Proofs.YtobgbmfpicmpcaaGreatDoor
