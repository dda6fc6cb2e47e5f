/- The program's parser beside the query that it fills; a link. -/
import Derived.Test.YtobgbmfpicmpcaaGreatDoorC21
import Derived.Test.YtobgbmfpicmpcaaGreatDoorC11
namespace Go.Proofs.YtobgbmfpicmpcaaGreatDoor
open Go.RowKit
structure PQ (W0:World) (b G:Nat) (st:RS) (x:Nat) (q:PQuery) (vs vc vi vp:Value) (w:World):Prop where
 p:PI b G st w
 lx:Loc w x (qC q vs vc vi vp) 29
 nx:W0.heap.size≤x
 grown:W0.grownBy w (some b)
 rows:QRows W0.heap.size q vs vc vi vp w
 gw:G<W0.heap.size
 bw:b<W0.heap.size
section
variable {W0 w w':World} {b G x:Nat} {st st':RS} {q q':PQuery} {vs vc vi vp:Value}
theorem PQ.xb (h:PQ W0 b G st x q vs vc vi vp w):x≠b:=by have:=h.nx;have:=h.bw;omega
theorem PQ.xg (h:PQ W0 b G st x q vs vc vi vp w):x≠G:=by have:=h.nx;have:=h.gw;omega
theorem rows_far {B b:Nat} (h:QRows B q vs vc vi vp w) (hb:b<B) (g:w.grownBy w' (some b)):QRows B q vs vc vi vp w':=
 ⟨h.rs.kept g (Or.inr fun e=>by have:=(h.rs.lt b e).1;omega),h.rc.kept g (Or.inr fun e=>by have:=(h.rc.lt b e).1;omega),h.rt.kept g (Or.inr fun e=>by have:=(h.rt.lt b e).1;omega),h.rp.kept g (Or.inr fun e=>by have:=(h.rp.lt b e).1;omega)⟩
theorem rows_loc {B y:Nat} {cs:Array Value} (h:QRows B q vs vc vi vp w) (hl:Loc w y cs 29) (g:w.grownBy w' (some y)):QRows B q vs vc vi vp w':=
 ⟨h.rs.kept g (Or.inr (row_loc h.rs hl (by decide))),h.rc.kept g (Or.inr (row_loc h.rc hl (by decide))),h.rt.kept g (Or.inr (row_loc h.rt hl (by decide))),h.rp.kept g (Or.inr (row_loc h.rp hl (by decide)))⟩
theorem PQ.call (h:PQ W0 b G st x q vs vc vi vp w) (h1:PI b G st' w') (g1:w.grownBy w' (some b)):PQ W0 b G st' x q vs vc vi vp w':=
 ⟨h1,h.lx.grown g1 (by intro e;injection e with e;exact h.xb e),h.nx,grown_trans h.grown g1,rows_far h.rows h.bw g1,h.gw,h.bw⟩
theorem PQ.set (h:PQ W0 b G st x q vs vc vi vp w) (j:Nat) (u:Value) (e:(qC q vs vc vi vp).setIfInBounds j u=qC q' vs vc vi vp) (e1:q'.spots=q.spots) (e2:q'.conds=q.conds) (e3:q'.items=q.items) (e4:q'.pairs=q.pairs):PQ W0 b G st x q' vs vc vi vp (w.setCell ⟨x,j,none⟩ u):=by
 have g:=grown_set w x j u
 have hr:=rows_loc h.rows h.lx g
 refine⟨h.p.kept g (by intro e;injection e with e;exact h.xb e.symm) (by intro e;injection e with e;exact h.xg e.symm),?_,h.nx,grown_own h.grown h.nx j u,?_,h.gw,h.bw⟩
 ·rw[←e];exact h.lx.set j u
 ·exact⟨by rw[e1];exact hr.rs,by rw[e2];exact hr.rc,by rw[e3];exact hr.rt,by rw[e4];exact hr.rp⟩
end
set_option maxRecDepth 100000 in
set_option maxHeartbeats 4000000 in
theorem link_ {W0 W:World} {b G x:Nat} {st:RS} {q:PQuery} {vs vc vi vp:Value} (h:PQ W0 b G st x q vs vc vi vp W):
  Calls Tryz.prog 167 #[.pointer (some ⟨b,0,none⟩),.pointer (some ⟨x,0,none⟩)] W fun e W'=>e=.returned (.tuple #[])∧PQ W0 b G (linkP st).2 x {q with name:=(linkP st).1.1,type:=(linkP st).1.2.1,«to»:=(linkP st).1.2.2} vs vc vi vp W':=by
 have HI:=Lib.hid h
 clear h
 go_enter Tryz.func167,Tryz.ntmps167
 obtain⟨qs1,hqs1⟩:∃sz,expectP mOpen st=sz:=⟨_,rfl⟩
 have Eqs1:=Lib.hid hqs1
 go_wp2_with fail
 refine(expect_ HI.out.p mOpen).mono ?_
 rintro e Q1 ⟨rfl,h,g⟩
 rw[hqs1] at h
 have Hqs1:Hid (PQ W0 b G qs1 x q vs vc vi vp Q1):=HI.out.call h g
 clear h g hqs1 HI
 obtain⟨vqs2,qs2,hqs2⟩:∃n sz,nameP qs1=(n,sz):=⟨_,_,rfl⟩
 have Eqs2:=Lib.hid hqs2
 clear hqs2
 go_wp2_with fail
 refine(name_ Hqs1.out.p Eqs2.out).mono ?_
 rintro e Q2 ⟨rfl,h,g⟩
 have Ha:=Hqs1.out.call h g
 have cc:=Ha.lx.at_ 8 (.string q.name) rfl
 have cf:Q2.frozen? ⟨x,8,none⟩=false:=Ha.lx.free 8
 have Hqs2:Hid (PQ W0 b G qs2 x {q with name:=vqs2} vs vc vi vp (Q2.setCell ⟨x,8,none⟩ (.string vqs2))):=Ha.set 8 (.string vqs2) rfl rfl rfl rfl rfl
 clear h g Ha Hqs1
 obtain⟨qs3,hqs3⟩:∃sz,expectP mClose qs2=sz:=⟨_,rfl⟩
 have Eqs3:=Lib.hid hqs3
 go_wp2_with fail
 generalize Q2.setCell ⟨x,8,none⟩ (.string vqs2)=Q2x at Hqs2⊢;clear cc cf
 refine(expect_ Hqs2.out.p mClose).mono ?_
 rintro e Q3 ⟨rfl,h,g⟩
 rw[hqs3] at h
 have Hqs3:Hid (PQ W0 b G qs3 x {q with name:=vqs2} vs vc vi vp Q3):=Hqs2.out.call h g
 clear h g hqs3 Hqs2
 obtain⟨qs4,hqs4⟩:∃sz,expectP mTo qs3=sz:=⟨_,rfl⟩
 have Eqs4:=Lib.hid hqs4
 go_wp2_with fail
 refine(expect_ Hqs3.out.p mTo).mono ?_
 rintro e Q4 ⟨rfl,h,g⟩
 rw[hqs4] at h
 have Hqs4:Hid (PQ W0 b G qs4 x {q with name:=vqs2} vs vc vi vp Q4):=Hqs3.out.call h g
 clear h g hqs4 Hqs3
 obtain⟨vqs5,qs5,hqs5⟩:∃n sz,titleP qs4=(n,sz):=⟨_,_,rfl⟩
 have Eqs5:=Lib.hid hqs5
 clear hqs5
 go_wp2_with fail
 refine(title_ Hqs4.out.p Eqs5.out).mono ?_
 rintro e Q5 ⟨rfl,h,g⟩
 have Ha:=Hqs4.out.call h g
 have cc:=Ha.lx.at_ 13 (.string q.type) rfl
 have cf:Q5.frozen? ⟨x,13,none⟩=false:=Ha.lx.free 13
 have Hqs5:Hid (PQ W0 b G qs5 x {q with name:=vqs2,type:=vqs5} vs vc vi vp (Q5.setCell ⟨x,13,none⟩ (.string vqs5))):=Ha.set 13 (.string vqs5) rfl rfl rfl rfl rfl
 clear h g Ha Hqs4
 obtain⟨qs6,hqs6⟩:∃sz,expectP mArrow qs5=sz:=⟨_,rfl⟩
 have Eqs6:=Lib.hid hqs6
 go_wp2_with fail
 generalize Q5.setCell ⟨x,13,none⟩ (.string vqs5)=Q5x at Hqs5⊢;clear cc cf
 refine(expect_ Hqs5.out.p mArrow).mono ?_
 rintro e Q6 ⟨rfl,h,g⟩
 rw[hqs6] at h
 have Hqs6:Hid (PQ W0 b G qs6 x {q with name:=vqs2,type:=vqs5} vs vc vi vp Q6):=Hqs5.out.call h g
 clear h g hqs6 Hqs5
 obtain⟨qs7,hqs7⟩:∃sz,expectP mOpen qs6=sz:=⟨_,rfl⟩
 have Eqs7:=Lib.hid hqs7
 go_wp2_with fail
 refine(expect_ Hqs6.out.p mOpen).mono ?_
 rintro e Q7 ⟨rfl,h,g⟩
 rw[hqs7] at h
 have Hqs7:Hid (PQ W0 b G qs7 x {q with name:=vqs2,type:=vqs5} vs vc vi vp Q7):=Hqs6.out.call h g
 clear h g hqs7 Hqs6
 obtain⟨vqs8,qs8,hqs8⟩:∃n sz,nameP qs7=(n,sz):=⟨_,_,rfl⟩
 have Eqs8:=Lib.hid hqs8
 clear hqs8
 go_wp2_with fail
 refine(name_ Hqs7.out.p Eqs8.out).mono ?_
 rintro e Q8 ⟨rfl,h,g⟩
 have Ha:=Hqs7.out.call h g
 have cc:=Ha.lx.at_ 14 (.string q.«to») rfl
 have cf:Q8.frozen? ⟨x,14,none⟩=false:=Ha.lx.free 14
 have Hqs8:Hid (PQ W0 b G qs8 x {q with name:=vqs2,type:=vqs5,«to»:=vqs8} vs vc vi vp (Q8.setCell ⟨x,14,none⟩ (.string vqs8))):=Ha.set 14 (.string vqs8) rfl rfl rfl rfl rfl
 clear h g Ha Hqs7
 obtain⟨qs9,hqs9⟩:∃sz,expectP mClose qs8=sz:=⟨_,rfl⟩
 have Eqs9:=Lib.hid hqs9
 go_wp2_with fail
 generalize Q8.setCell ⟨x,14,none⟩ (.string vqs8)=Q8x at Hqs8⊢;clear cc cf
 refine(expect_ Hqs8.out.p mClose).mono ?_
 rintro e Q9 ⟨rfl,h,g⟩
 rw[hqs9] at h
 have Hqs9:Hid (PQ W0 b G qs9 x {q with name:=vqs2,type:=vqs5,«to»:=vqs8} vs vc vi vp Q9):=Hqs8.out.call h g
 clear h g hqs9 Hqs8
 go_wp2_with fail
 go_end0
 refine⟨rfl,?_⟩
 have e:linkP st=((vqs2,vqs5,vqs8),qs9):=by
  unfold linkP
  simp only[Eqs1.out,Eqs2.out,Eqs3.out,Eqs4.out,Eqs5.out,Eqs6.out,Eqs7.out,Eqs8.out,Eqs9.out]
 rw[e]
 exact Hqs9.out
end Go.Proofs.YtobgbmfpicmpcaaGreatDoor

/- The program's parser: what stands behind RETURN. -/
namespace Go.Proofs.YtobgbmfpicmpcaaGreatDoor
open Go.RowKit
section
variable {W0 w w':World} {b G x:Nat} {st st':RS} {q:PQuery} {vs vc vi vp:Value}
theorem PQ.items {v:Value} {l:List PItem} (h:PQ W0 b G st x q vs vc vi vp w) (h1:PI b G st' w') (g1:w.grownBy w' (some b)) (ho:w'.ownsRow w.heap.size 89 2 v l.length (itemCells l)):PQ W0 b G st' x {q with items:=l} vs vc v vp (w'.setCell ⟨x,3,none⟩ v):=by
 have h2:=h.call h1 g1
 have hr:QRows W0.heap.size {q with items:=l} vs vc v vp w':=⟨h2.rows.rs,h2.rows.rc,row_weaken ho h.grown.size,h2.rows.rp⟩
 have g:=grown_set w' x 3 v
 exact⟨h2.p.kept g (by intro e;injection e with e;exact h.xb e.symm) (by intro e;injection e with e;exact h.xg e.symm),h2.lx.set 3 v,h.nx,grown_own h2.grown h.nx 3 v,rows_loc hr h2.lx g,h.gw,h.bw⟩
theorem PQ.conds {v:Value} {l:List PCond} (h:PQ W0 b G st x q vs vc vi vp w) (h1:PI b G st' w') (g1:w.grownBy w' (some b)) (ho:w'.ownsRow w.heap.size 87 7 v l.length (condCells l)):PQ W0 b G st' x {q with conds:=l} vs v vi vp (w'.setCell ⟨x,2,none⟩ v):=by
 have h2:=h.call h1 g1
 have hr:QRows W0.heap.size {q with conds:=l} vs v vi vp w':=⟨h2.rows.rs,row_weaken ho h.grown.size,h2.rows.rt,h2.rows.rp⟩
 have g:=grown_set w' x 2 v
 exact⟨h2.p.kept g (by intro e;injection e with e;exact h.xb e.symm) (by intro e;injection e with e;exact h.xg e.symm),h2.lx.set 2 v,h.nx,grown_own h2.grown h.nx 2 v,rows_loc hr h2.lx g,h.gw,h.bw⟩
theorem PQ.pairs {v:Value} {l:List PPair} (h:PQ W0 b G st x q vs vc vi vp w) (h1:PI b G st' w') (g1:w.grownBy w' (some b)) (ho:w'.ownsRow w.heap.size 91 2 v l.length (pairCells l)):PQ W0 b G st' x {q with pairs:=l} vs vc vi v (w'.setCell ⟨x,16,none⟩ v):=by
 have h2:=h.call h1 g1
 have hr:QRows W0.heap.size {q with pairs:=l} vs vc vi v w':=⟨h2.rows.rs,h2.rows.rc,h2.rows.rt,row_weaken ho h.grown.size⟩
 have g:=grown_set w' x 16 v
 exact⟨h2.p.kept g (by intro e;injection e with e;exact h.xb e.symm) (by intro e;injection e with e;exact h.xg e.symm),h2.lx.set 16 v,h.nx,grown_own h2.grown h.nx 16 v,rows_loc hr h2.lx g,h.gw,h.bw⟩
end
set_option maxRecDepth 100000 in
set_option maxHeartbeats 4000000 in
theorem read_ {W0 W:World} {b G x:Nat} {st:RS} {sp:List PSpot} {cd:List PCond} {vs vc:Value} (h:PQ W0 b G st x {query0 with kind:=1,spots:=sp,conds:=cd} vs vc (.slice none 0 0) (.slice none 0 0) W) (hl:st.rest.length≤2000):
  Calls Tryz.prog 165 #[.pointer (some ⟨b,0,none⟩),.pointer (some ⟨x,0,none⟩)] W fun e W'=>e=.returned (.tuple #[])∧∃vi,PQ W0 b G (readP st).2 x {query0 with kind:=1,spots:=sp,conds:=cd,items:=(readP st).1.items,order:=(readP st).1.order,down:=(readP st).1.down,skip:=(readP st).1.skip,limit:=(readP st).1.limit} vs vc vi (.slice none 0 0) W':=by
 have HI:=Lib.hid h
 obtain⟨it,s1,hit⟩:∃l az,listP itemP mComma 6 st=(l,az):=⟨_,_,rfl⟩
 have HIT:=Lib.hid hit
 clear h hit
 go_enter Tryz.func165,Tryz.ntmps165
 go_wp2_with fail
 refine(listItem HI.out.p hl HIT.out).mono ?_
 rintro e W1 ⟨v0,rfl,ho,h1,g1⟩
 obtain⟨ao,ca,rfl,hca⟩:=row_slice (l:=it) ho
 have Ha:=HI.out.call h1 g1
 have c3:=Ha.lx.at_ 3 (.slice none 0 0) rfl
 have f3:W1.frozen? ⟨x,3,none⟩=false:=Ha.lx.free 3
 have H1:=Lib.hid (HI.out.items h1 g1 ho)
 clear Ha ho h1 g1 HI
 go_wp2_with fail
 generalize W1.setCell ⟨x,3,none⟩ (.slice ao it.length ca)=W2 at H1⊢
 clear c3 f3
 obtain⟨m1,hm1⟩:∃m,peekP kORDER s1=m:=⟨_,rfl⟩
 have HM1:=Lib.hid hm1
 clear hm1
 refine(accept_ H1.out.p kORDER m1 HM1.out).mono ?_
 rintro e W3 ⟨rfl,h3,g3⟩
 have H3:Hid (PQ W0 b G (acceptP kORDER s1) x {query0 with kind:=1,spots:=sp,conds:=cd,items:=it} vs vc (.slice ao it.length ca) (.slice none 0 0) W3):=H1.out.call h3 g3
 clear h3 g3 H1
 go_upto_if 12 with fail
 go_cut [] (fun w=>∃s2 o d,PQ W0 b G s2 x {query0 with kind:=1,spots:=sp,conds:=cd,items:=it,order:=o,down:=d} vs vc (.slice ao it.length ca) (.slice none 0 0) w∧orderP it.length s1=((o,d),s2))
 case first=>
  cases m1 with
  | false=>
   go_wp2_with fail
   go_meet
   case rel=>exact⟨s1,0,false,by have h:=H3.out;rw[show acceptP kORDER s1=s1 by unfold acceptP;rw[HM1.out];rfl] at h;exact h,by unfold orderP;rw[HM1.out];rfl⟩
  | true=>
   obtain⟨o,a3,ho⟩:∃o az,numberP 1 it.length (expectP kBY (acceptP kORDER s1))=(o,az):=⟨_,_,rfl⟩
   have HO:=Lib.hid ho
   clear ho
   go_wp2_with fail
   refine(expect_ H3.out.p kBY).mono ?_
   rintro e W4 ⟨rfl,h4,g4⟩
   have H4:=Lib.hid (H3.out.call h4 g4)
   clear h4 g4 H3
   have c3:=H4.out.lx.at_ 3 (.slice ao it.length ca) rfl
   go_wp2_with fail
   refine(number_ H4.out.p HO.out).mono ?_
   rintro e W5 ⟨rfl,h5,g5⟩
   have Ha:=H4.out.call h5 g5
   have c4:=Ha.lx.at_ 4 (.int .i64 0) rfl
   have f4:W5.frozen? ⟨x,4,none⟩=false:=Ha.lx.free 4
   have H5:Hid (PQ W0 b G a3 x {query0 with kind:=1,spots:=sp,conds:=cd,items:=it,order:=o} vs vc (.slice ao it.length ca) (.slice none 0 0) (W5.setCell ⟨x,4,none⟩ (.int .i64 o))):=Ha.set 4 (.int .i64 o) rfl rfl rfl rfl rfl
   clear Ha h5 g5 H4 c3
   obtain⟨d,hd⟩:∃m,peekP kDESC a3=m:=⟨_,rfl⟩
   have HD:=Lib.hid hd
   clear hd
   go_wp2_with fail
   generalize W5.setCell ⟨x,4,none⟩ (.int .i64 o)=W6 at H5⊢
   clear c4 f4
   refine(accept_ H5.out.p kDESC d HD.out).mono ?_
   rintro e W7 ⟨rfl,h7,g7⟩
   have Ha:=H5.out.call h7 g7
   have c5:=Ha.lx.at_ 5 (.bool false) rfl
   have f5:W7.frozen? ⟨x,5,none⟩=false:=Ha.lx.free 5
   have H7:Hid (PQ W0 b G (acceptP kDESC a3) x {query0 with kind:=1,spots:=sp,conds:=cd,items:=it,order:=o,down:=d} vs vc (.slice ao it.length ca) (.slice none 0 0) (W7.setCell ⟨x,5,none⟩ (.bool d))):=Ha.set 5 (.bool d) rfl rfl rfl rfl rfl
   clear Ha h7 g7 H5
   go_wp2_with fail
   go_meet
   case rel=>exact⟨_,o,d,H7.out,by unfold orderP;rw[HM1.out];simp only[HO.out,HD.out];rfl⟩
 case rest=>
  clear H3
  obtain⟨s2,o,d,hq,hor⟩:=hcut
  have H4:=Lib.hid hq
  have HOR:=Lib.hid hor
  clear hq hor
  obtain⟨m2,hm2⟩:∃m,peekP kSKIP s2=m:=⟨_,rfl⟩
  have HM2:=Lib.hid hm2
  clear hm2
  go_wp2_with fail
  refine(accept_ H4.out.p kSKIP m2 HM2.out).mono ?_
  rintro e W5 ⟨rfl,h5,g5⟩
  have H5:Hid (PQ W0 b G (acceptP kSKIP s2) x {query0 with kind:=1,spots:=sp,conds:=cd,items:=it,order:=o,down:=d} vs vc (.slice ao it.length ca) (.slice none 0 0) W5):=H4.out.call h5 g5
  clear h5 g5 H4
  go_upto_if 31 with fail
  go_cut [] (fun w=>∃s3 k,PQ W0 b G s3 x {query0 with kind:=1,spots:=sp,conds:=cd,items:=it,order:=o,down:=d,skip:=k} vs vc (.slice ao it.length ca) (.slice none 0 0) w∧partP kSKIP 0 s2=(k,s3))
  case first=>
   cases m2 with
   | false=>
    go_wp2_with fail
    go_meet
    case rel=>exact⟨s2,0,by have h:=H5.out;rw[show acceptP kSKIP s2=s2 by unfold acceptP;rw[HM2.out];rfl] at h;exact h,by unfold partP;rw[HM2.out];rfl⟩
   | true=>
    obtain⟨k,a3,hk⟩:∃o az,numberP 0 1000000000 (acceptP kSKIP s2)=(o,az):=⟨_,_,rfl⟩
    have HK:=Lib.hid hk
    clear hk
    go_wp2_with fail
    refine(number_ H5.out.p HK.out).mono ?_
    rintro e W6 ⟨rfl,h6,g6⟩
    have Ha:=H5.out.call h6 g6
    have c6:=Ha.lx.at_ 6 (.int .i64 0) rfl
    have f6:W6.frozen? ⟨x,6,none⟩=false:=Ha.lx.free 6
    have H6:Hid (PQ W0 b G a3 x {query0 with kind:=1,spots:=sp,conds:=cd,items:=it,order:=o,down:=d,skip:=k} vs vc (.slice ao it.length ca) (.slice none 0 0) (W6.setCell ⟨x,6,none⟩ (.int .i64 k))):=Ha.set 6 (.int .i64 k) rfl rfl rfl rfl rfl
    clear Ha h6 g6 H5
    go_wp2_with fail
    go_meet
    case rel=>exact⟨_,k,H6.out,by unfold partP;rw[HM2.out];exact HK.out⟩
  case rest=>
   clear H5
   obtain⟨s3,k,hq,hsk⟩:=hcut
   have HSK:=Lib.hid hsk
   have c7:=hq.lx.at_ 7 (.int .i64 0) rfl
   have f7:wc.frozen? ⟨x,7,none⟩=false:=hq.lx.free 7
   have H6:Hid (PQ W0 b G s3 x {query0 with kind:=1,spots:=sp,conds:=cd,items:=it,order:=o,down:=d,skip:=k,limit:=-1} vs vc (.slice ao it.length ca) (.slice none 0 0) (wc.setCell ⟨x,7,none⟩ (.int .i64 (-1)))):=hq.set 7 (.int .i64 (-1)) rfl rfl rfl rfl rfl
   clear hq hsk
   obtain⟨m3,hm3⟩:∃m,peekP kLIMIT s3=m:=⟨_,rfl⟩
   have HM3:=Lib.hid hm3
   clear hm3
   go_wp2_with fail
   generalize wc.setCell ⟨x,7,none⟩ (.int .i64 (-1))=W7 at H6⊢
   clear c7 f7
   refine(accept_ H6.out.p kLIMIT m3 HM3.out).mono ?_
   rintro e W8 ⟨rfl,h8,g8⟩
   have H8:Hid (PQ W0 b G (acceptP kLIMIT s3) x {query0 with kind:=1,spots:=sp,conds:=cd,items:=it,order:=o,down:=d,skip:=k,limit:=-1} vs vc (.slice ao it.length ca) (.slice none 0 0) W8):=H6.out.call h8 g8
   clear h8 g8 H6
   cases m3 with
   | false=>
    have HF:Hid (readP st=(⟨it,o,d,k,-1⟩,s3)):=by
     show _=_;unfold readP partP;simp only[HIT.out,HOR.out];have:=HSK.out;unfold partP at this;rw[this];simp only[HM3.out];rfl
    go_wp2_with fail
    go_end0
    refine⟨rfl,.slice ao it.length ca,?_⟩
    rw[HF.out]
    have h:=H8.out
    rw[show acceptP kLIMIT s3=s3 by unfold acceptP;rw[HM3.out];rfl] at h
    exact h
   | true=>
    obtain⟨lm,a3,hk⟩:∃o az,numberP 0 1000000000 (acceptP kLIMIT s3)=(o,az):=⟨_,_,rfl⟩
    have HK:=Lib.hid hk
    clear hk
    have HF:Hid (readP st=(⟨it,o,d,k,lm⟩,a3)):=by
     show _=_;unfold readP partP;simp only[HIT.out,HOR.out];have:=HSK.out;unfold partP at this;rw[this];simp only[HM3.out,HK.out];rfl
    go_wp2_with fail
    refine(number_ H8.out.p HK.out).mono ?_
    rintro e W9 ⟨rfl,h9,g9⟩
    have Ha:=H8.out.call h9 g9
    have c7:=Ha.lx.at_ 7 (.int .i64 (-1)) rfl
    have f7:W9.frozen? ⟨x,7,none⟩=false:=Ha.lx.free 7
    have H9:Hid (PQ W0 b G a3 x {query0 with kind:=1,spots:=sp,conds:=cd,items:=it,order:=o,down:=d,skip:=k,limit:=lm} vs vc (.slice ao it.length ca) (.slice none 0 0) (W9.setCell ⟨x,7,none⟩ (.int .i64 lm))):=Ha.set 7 (.int .i64 lm) rfl rfl rfl rfl rfl
    clear Ha h9 g9 H8
    go_wp2_with fail
    go_end0
    refine⟨rfl,.slice ao it.length ca,?_⟩
    rw[HF.out]
    exact H9.out
end Go.Proofs.YtobgbmfpicmpcaaGreatDoor

/- The program's parser: what stands behind a match. -/
namespace Go.Proofs.YtobgbmfpicmpcaaGreatDoor
open Go.RowKit
set_option maxRecDepth 100000 in
set_option maxHeartbeats 4000000 in
theorem actionRead {W0 W:World} {b G x:Nat} {st:RS} {sp:List PSpot} {cd:List PCond} {vs vc:Value} (h:PQ W0 b G st x {query0 with spots:=sp,conds:=cd} vs vc (.slice none 0 0) (.slice none 0 0) W)  (h0:peekP kRETURN st=true) (hl:st.rest.length≤2001):
  Calls Tryz.prog 101 #[.pointer (some ⟨b,0,none⟩),.pointer (some ⟨x,0,none⟩)] W fun e W'=>e=.returned (.tuple #[])∧∃vi,PQ W0 b G (actionP {query0 with spots:=sp,conds:=cd} st).2 x (actionP {query0 with spots:=sp,conds:=cd} st).1 vs vc vi (.slice none 0 0) W':=by
 have HI:=Lib.hid h
 have hl2:=acceptP_less h0
 have P0:=Lib.hid h0
 clear h h0
 go_enter Tryz.func101,Tryz.ntmps101
 go_wp2_with fail
 refine(accept_ HI.out.p kRETURN true P0.out).mono ?_
 rintro e A0 ⟨rfl,h,g⟩
 have K0:=Lib.hid (HI.out.call h g)
 clear h g HI
 have c0:=K0.out.lx.at_ 0 (.int .i64 0) rfl
 have f0:A0.frozen? ⟨x,0,none⟩=false:=K0.out.lx.free 0
 have HK:Hid (PQ W0 b G (acceptP kRETURN st) x {query0 with spots:=sp,conds:=cd,kind:=1} vs vc (.slice none 0 0) (.slice none 0 0) (A0.setCell ⟨x,0,none⟩ (.int .i64 1))):=K0.out.set 0 (.int .i64 1) rfl rfl rfl rfl rfl
 clear K0
 go_wp2_with fail
 generalize A0.setCell ⟨x,0,none⟩ (.int .i64 1)=WK at HK⊢
 clear c0 f0
 refine(read_ HK.out (by omega)).mono ?_
 rintro e W5 ⟨rfl,vi,hq⟩
 have H5:=Lib.hid hq
 clear hq
 go_wp2_with fail
 go_end0
 refine⟨rfl,vi,?_⟩
 unfold actionP
 simp only[P0.out,if_true]
 exact H5.out
set_option maxRecDepth 100000 in
set_option maxHeartbeats 4000000 in
theorem actionSet {W0 W:World} {b G x:Nat} {st:RS} {sp:List PSpot} {cd:List PCond} {vs vc:Value} (h:PQ W0 b G st x {query0 with spots:=sp,conds:=cd} vs vc (.slice none 0 0) (.slice none 0 0) W) (h0:peekP kRETURN st=false) (h1:peekP kSET st=true):
  Calls Tryz.prog 101 #[.pointer (some ⟨b,0,none⟩),.pointer (some ⟨x,0,none⟩)] W fun e W'=>e=.returned (.tuple #[])∧∃vi,PQ W0 b G (actionP {query0 with spots:=sp,conds:=cd} st).2 x (actionP {query0 with spots:=sp,conds:=cd} st).1 vs vc vi (.slice none 0 0) W':=by
 have HI:=Lib.hid h
 have P0:=Lib.hid h0
 have P1:=Lib.hid h1
 clear h h0 h1
 go_enter Tryz.func101,Tryz.ntmps101
 go_wp2_with fail
 refine(accept_ HI.out.p kRETURN false P0.out).mono ?_
 rintro e A0 ⟨rfl,h,g⟩
 rw[show acceptP kRETURN st=st by unfold acceptP;rw[P0.out];rfl] at h
 have K0:=Lib.hid (HI.out.call h g)
 clear h g HI
 go_wp2_with fail
 refine(accept_ K0.out.p kSET true P1.out).mono ?_
 rintro e A1 ⟨rfl,h,g⟩
 have K1:=Lib.hid (K0.out.call h g)
 clear h g K0
 obtain⟨n',k',a2,hp⟩:∃n' k' az,propP (acceptP kSET st)=((n',k'),az):=⟨_,_,_,rfl⟩
 obtain⟨t',a3,ht⟩:∃t' az,termP (expectP mEq a2)=(t',az):=⟨_,_,rfl⟩
 have HP:=Lib.hid hp
 have HT:=Lib.hid ht
 clear hp ht
 have c0:=K1.out.lx.at_ 0 (.int .i64 0) rfl
 have f0:A1.frozen? ⟨x,0,none⟩=false:=K1.out.lx.free 0
 have HK:Hid (PQ W0 b G (acceptP kSET st) x {query0 with spots:=sp,conds:=cd,kind:=2} vs vc (.slice none 0 0) (.slice none 0 0) (A1.setCell ⟨x,0,none⟩ (.int .i64 2))):=K1.out.set 0 (.int .i64 2) rfl rfl rfl rfl rfl
 clear K1
 go_wp2_with fail
 generalize A1.setCell ⟨x,0,none⟩ (.int .i64 2)=WK at HK⊢
 clear c0 f0
 refine(property_ HK.out.p HP.out).mono ?_
 rintro e W5 ⟨rfl,h5,g5⟩
 have Ha:=HK.out.call h5 g5
 have c8:=Ha.lx.at_ 8 (.string ⟨#[]⟩) rfl
 have f8:W5.frozen? ⟨x,8,none⟩=false:=Ha.lx.free 8
 have c9:=Ha.lx.at_ 9 (.string ⟨#[]⟩) rfl
 have f9:W5.frozen? ⟨x,9,none⟩=false:=Ha.lx.free 9
 have H5a:PQ W0 b G a2 x {query0 with spots:=sp,conds:=cd,kind:=2,name:=n'} vs vc (.slice none 0 0) (.slice none 0 0) (W5.setCell ⟨x,8,none⟩ (.string n')):=Ha.set 8 (.string n') rfl rfl rfl rfl rfl
 have H5:Hid (PQ W0 b G a2 x {query0 with spots:=sp,conds:=cd,kind:=2,name:=n',key:=k'} vs vc (.slice none 0 0) (.slice none 0 0) ((W5.setCell ⟨x,8,none⟩ (.string n')).setCell ⟨x,9,none⟩ (.string k'))):=H5a.set 9 (.string k') rfl rfl rfl rfl rfl
 clear Ha H5a h5 g5 HK
 go_wp2_with fail
 generalize (W5.setCell ⟨x,8,none⟩ (.string n')).setCell ⟨x,9,none⟩ (.string k')=W6 at H5⊢
 clear c8 f8 c9 f9
 refine(expect_ H5.out.p mEq).mono ?_
 rintro e W7 ⟨rfl,h7,g7⟩
 have H7:=Lib.hid (H5.out.call h7 g7)
 clear h7 g7 H5
 go_wp2_with fail
 refine(term_ H7.out.p HT.out).mono ?_
 rintro e W8 ⟨rfl,h8,g8⟩
 have Ha:=H7.out.call h8 g8
 have c10:=Ha.lx.at_ 10 (.string ⟨#[]⟩) rfl
 have f10:W8.frozen? ⟨x,10,none⟩=false:=Ha.lx.free 10
 have c11:=Ha.lx.at_ 11 (.string ⟨#[]⟩) rfl
 have f11:W8.frozen? ⟨x,11,none⟩=false:=Ha.lx.free 11
 have c12:=Ha.lx.at_ 12 (.int .i64 0) rfl
 have f12:W8.frozen? ⟨x,12,none⟩=false:=Ha.lx.free 12
 have Hb:PQ W0 b G a3 x {query0 with spots:=sp,conds:=cd,kind:=2,name:=n',key:=k',value:=⟨t'.name,⟨#[]⟩,0⟩} vs vc (.slice none 0 0) (.slice none 0 0) (W8.setCell ⟨x,10,none⟩ (.string t'.name)):=Ha.set 10 (.string t'.name) rfl rfl rfl rfl rfl
 have Hc:PQ W0 b G a3 x {query0 with spots:=sp,conds:=cd,kind:=2,name:=n',key:=k',value:=⟨t'.name,t'.key,0⟩} vs vc (.slice none 0 0) (.slice none 0 0) ((W8.setCell ⟨x,10,none⟩ (.string t'.name)).setCell ⟨x,11,none⟩ (.string t'.key)):=Hb.set 11 (.string t'.key) rfl rfl rfl rfl rfl
 have H9:Hid (PQ W0 b G a3 x {query0 with spots:=sp,conds:=cd,kind:=2,name:=n',key:=k',value:=t'} vs vc (.slice none 0 0) (.slice none 0 0) (((W8.setCell ⟨x,10,none⟩ (.string t'.name)).setCell ⟨x,11,none⟩ (.string t'.key)).setCell ⟨x,12,none⟩ (.int .i64 t'.val))):=Hc.set 12 (.int .i64 t'.val) rfl rfl rfl rfl rfl
 clear Ha Hb Hc h8 g8 H7
 go_wp2_with fail
 go_end0
 refine⟨rfl,.slice none 0 0,?_⟩
 unfold actionP setP
 simp only[P0.out,P1.out,HP.out,HT.out,Bool.false_eq_true,if_false,if_true]
 exact H9.out
set_option maxRecDepth 100000 in
set_option maxHeartbeats 4000000 in
theorem actionDel {W0 W:World} {b G x:Nat} {st:RS} {sp:List PSpot} {cd:List PCond} {vs vc:Value} (h:PQ W0 b G st x {query0 with spots:=sp,conds:=cd} vs vc (.slice none 0 0) (.slice none 0 0) W) (h0:peekP kRETURN st=false) (h1:peekP kSET st=false) (h2:peekP kDELETE st=true):
  Calls Tryz.prog 101 #[.pointer (some ⟨b,0,none⟩),.pointer (some ⟨x,0,none⟩)] W fun e W'=>e=.returned (.tuple #[])∧∃vi,PQ W0 b G (actionP {query0 with spots:=sp,conds:=cd} st).2 x (actionP {query0 with spots:=sp,conds:=cd} st).1 vs vc vi (.slice none 0 0) W':=by
 have HI:=Lib.hid h
 have P0:=Lib.hid h0
 have P1:=Lib.hid h1
 have P2:=Lib.hid h2
 clear h h0 h1 h2
 go_enter Tryz.func101,Tryz.ntmps101
 go_wp2_with fail
 refine(accept_ HI.out.p kRETURN false P0.out).mono ?_
 rintro e A0 ⟨rfl,h,g⟩
 rw[show acceptP kRETURN st=st by unfold acceptP;rw[P0.out];rfl] at h
 have K0:=Lib.hid (HI.out.call h g)
 clear h g HI
 go_wp2_with fail
 refine(accept_ K0.out.p kSET false P1.out).mono ?_
 rintro e A1 ⟨rfl,h,g⟩
 rw[show acceptP kSET st=st by unfold acceptP;rw[P1.out];rfl] at h
 have K1:=Lib.hid (K0.out.call h g)
 clear h g K0
 go_wp2_with fail
 refine(accept_ K1.out.p kDELETE true P2.out).mono ?_
 rintro e A2 ⟨rfl,h,g⟩
 have K2:=Lib.hid (K1.out.call h g)
 clear h g K1
 obtain⟨n',a2,hp⟩:∃n' az,nameP (acceptP kDELETE st)=(n',az):=⟨_,_,rfl⟩
 have HP:=Lib.hid hp
 clear hp
 have c0:=K2.out.lx.at_ 0 (.int .i64 0) rfl
 have f0:A2.frozen? ⟨x,0,none⟩=false:=K2.out.lx.free 0
 have HK:Hid (PQ W0 b G (acceptP kDELETE st) x {query0 with spots:=sp,conds:=cd,kind:=3} vs vc (.slice none 0 0) (.slice none 0 0) (A2.setCell ⟨x,0,none⟩ (.int .i64 3))):=K2.out.set 0 (.int .i64 3) rfl rfl rfl rfl rfl
 clear K2
 go_wp2_with fail
 generalize A2.setCell ⟨x,0,none⟩ (.int .i64 3)=WK at HK⊢
 clear c0 f0
 refine(name_ HK.out.p HP.out).mono ?_
 rintro e W5 ⟨rfl,h5,g5⟩
 have Ha:=HK.out.call h5 g5
 have c8:=Ha.lx.at_ 8 (.string ⟨#[]⟩) rfl
 have f8:W5.frozen? ⟨x,8,none⟩=false:=Ha.lx.free 8
 have H5:Hid (PQ W0 b G a2 x {query0 with spots:=sp,conds:=cd,kind:=3,name:=n'} vs vc (.slice none 0 0) (.slice none 0 0) (W5.setCell ⟨x,8,none⟩ (.string n'))):=Ha.set 8 (.string n') rfl rfl rfl rfl rfl
 clear Ha h5 g5 HK
 go_wp2_with fail
 go_end0
 refine⟨rfl,.slice none 0 0,?_⟩
 unfold actionP
 simp only[P0.out,P1.out,P2.out,HP.out,Bool.false_eq_true,if_false,if_true]
 exact H5.out
set_option maxRecDepth 100000 in
set_option maxHeartbeats 4000000 in
theorem actionLink {W0 W:World} {b G x:Nat} {st:RS} {sp:List PSpot} {cd:List PCond} {vs vc:Value} (h:PQ W0 b G st x {query0 with spots:=sp,conds:=cd} vs vc (.slice none 0 0) (.slice none 0 0) W) (h0:peekP kRETURN st=false) (h1:peekP kSET st=false) (h2:peekP kDELETE st=false) (h3:peekP kCREATE st=true):
  Calls Tryz.prog 101 #[.pointer (some ⟨b,0,none⟩),.pointer (some ⟨x,0,none⟩)] W fun e W'=>e=.returned (.tuple #[])∧∃vi,PQ W0 b G (actionP {query0 with spots:=sp,conds:=cd} st).2 x (actionP {query0 with spots:=sp,conds:=cd} st).1 vs vc vi (.slice none 0 0) W':=by
 have HI:=Lib.hid h
 have P0:=Lib.hid h0
 have P1:=Lib.hid h1
 have P2:=Lib.hid h2
 have P3:=Lib.hid h3
 clear h h0 h1 h2 h3
 go_enter Tryz.func101,Tryz.ntmps101
 go_wp2_with fail
 refine(accept_ HI.out.p kRETURN false P0.out).mono ?_
 rintro e A0 ⟨rfl,h,g⟩
 rw[show acceptP kRETURN st=st by unfold acceptP;rw[P0.out];rfl] at h
 have K0:=Lib.hid (HI.out.call h g)
 clear h g HI
 go_wp2_with fail
 refine(accept_ K0.out.p kSET false P1.out).mono ?_
 rintro e A1 ⟨rfl,h,g⟩
 rw[show acceptP kSET st=st by unfold acceptP;rw[P1.out];rfl] at h
 have K1:=Lib.hid (K0.out.call h g)
 clear h g K0
 go_wp2_with fail
 refine(accept_ K1.out.p kDELETE false P2.out).mono ?_
 rintro e A2 ⟨rfl,h,g⟩
 rw[show acceptP kDELETE st=st by unfold acceptP;rw[P2.out];rfl] at h
 have K2:=Lib.hid (K1.out.call h g)
 clear h g K1
 go_wp2_with fail
 refine(accept_ K2.out.p kCREATE true P3.out).mono ?_
 rintro e A3 ⟨rfl,h,g⟩
 have K3:=Lib.hid (K2.out.call h g)
 clear h g K2
 have c0:=K3.out.lx.at_ 0 (.int .i64 0) rfl
 have f0:A3.frozen? ⟨x,0,none⟩=false:=K3.out.lx.free 0
 have HK:Hid (PQ W0 b G (acceptP kCREATE st) x {query0 with spots:=sp,conds:=cd,kind:=4} vs vc (.slice none 0 0) (.slice none 0 0) (A3.setCell ⟨x,0,none⟩ (.int .i64 4))):=K3.out.set 0 (.int .i64 4) rfl rfl rfl rfl rfl
 clear K3
 go_wp2_with fail
 generalize A3.setCell ⟨x,0,none⟩ (.int .i64 4)=WK at HK⊢
 clear c0 f0
 refine(link_ HK.out).mono ?_
 rintro e W5 ⟨rfl,hq⟩
 have H5:=Lib.hid hq
 clear hq
 go_wp2_with fail
 go_end0
 refine⟨rfl,.slice none 0 0,?_⟩
 unfold actionP
 simp only[P0.out,P1.out,P2.out,P3.out,Bool.false_eq_true,if_false,if_true]
 exact H5.out
set_option maxRecDepth 100000 in
set_option maxHeartbeats 4000000 in
theorem actionNone {W0 W:World} {b G x:Nat} {st:RS} {sp:List PSpot} {cd:List PCond} {vs vc:Value} (h:PQ W0 b G st x {query0 with spots:=sp,conds:=cd} vs vc (.slice none 0 0) (.slice none 0 0) W) (h0:peekP kRETURN st=false) (h1:peekP kSET st=false) (h2:peekP kDELETE st=false) (h3:peekP kCREATE st=false):
  Calls Tryz.prog 101 #[.pointer (some ⟨b,0,none⟩),.pointer (some ⟨x,0,none⟩)] W fun e W'=>e=.returned (.tuple #[])∧∃vi,PQ W0 b G (actionP {query0 with spots:=sp,conds:=cd} st).2 x (actionP {query0 with spots:=sp,conds:=cd} st).1 vs vc vi (.slice none 0 0) W':=by
 have HI:=Lib.hid h
 have P0:=Lib.hid h0
 have P1:=Lib.hid h1
 have P2:=Lib.hid h2
 have P3:=Lib.hid h3
 clear h h0 h1 h2 h3
 go_enter Tryz.func101,Tryz.ntmps101
 go_wp2_with fail
 refine(accept_ HI.out.p kRETURN false P0.out).mono ?_
 rintro e A0 ⟨rfl,h,g⟩
 rw[show acceptP kRETURN st=st by unfold acceptP;rw[P0.out];rfl] at h
 have K0:=Lib.hid (HI.out.call h g)
 clear h g HI
 go_wp2_with fail
 refine(accept_ K0.out.p kSET false P1.out).mono ?_
 rintro e A1 ⟨rfl,h,g⟩
 rw[show acceptP kSET st=st by unfold acceptP;rw[P1.out];rfl] at h
 have K1:=Lib.hid (K0.out.call h g)
 clear h g K0
 go_wp2_with fail
 refine(accept_ K1.out.p kDELETE false P2.out).mono ?_
 rintro e A2 ⟨rfl,h,g⟩
 rw[show acceptP kDELETE st=st by unfold acceptP;rw[P2.out];rfl] at h
 have K2:=Lib.hid (K1.out.call h g)
 clear h g K1
 go_wp2_with fail
 refine(accept_ K2.out.p kCREATE false P3.out).mono ?_
 rintro e A3 ⟨rfl,h,g⟩
 rw[show acceptP kCREATE st=st by unfold acceptP;rw[P3.out];rfl] at h
 have K3:=Lib.hid (K2.out.call h g)
 clear h g K2
 go_wp2_with fail
 refine(fail_ K3.out.p).mono ?_
 rintro e W5 ⟨rfl,h5,g5⟩
 have H5:=Lib.hid (K3.out.call h5 g5)
 clear h5 g5
 go_wp2_with fail
 go_end0
 refine⟨rfl,.slice none 0 0,?_⟩
 unfold actionP
 simp only[P0.out,P1.out,P2.out,P3.out,Bool.false_eq_true,if_false]
 exact H5.out
theorem action_ {W0 W:World} {b G x:Nat} {st:RS} {sp:List PSpot} {cd:List PCond} {vs vc:Value} (h:PQ W0 b G st x {query0 with spots:=sp,conds:=cd} vs vc (.slice none 0 0) (.slice none 0 0) W) (hl:st.rest.length≤2001):
  Calls Tryz.prog 101 #[.pointer (some ⟨b,0,none⟩),.pointer (some ⟨x,0,none⟩)] W fun e W'=>e=.returned (.tuple #[])∧∃vi,PQ W0 b G (actionP {query0 with spots:=sp,conds:=cd} st).2 x (actionP {query0 with spots:=sp,conds:=cd} st).1 vs vc vi (.slice none 0 0) W':=by
 cases h0:peekP kRETURN st with
 | true=>exact actionRead h h0 hl
 | false=>
  cases h1:peekP kSET st with
  | true=>exact actionSet h h0 h1
  | false=>
   cases h2:peekP kDELETE st with
   | true=>exact actionDel h h0 h1 h2
   | false=>
    cases h3:peekP kCREATE st with
    | true=>exact actionLink h h0 h1 h2 h3
    | false=>exact actionNone h h0 h1 h2 h3
end Go.Proofs.YtobgbmfpicmpcaaGreatDoor

/- The program's parser: is a key of a make there twice? -/
namespace Go.Proofs.YtobgbmfpicmpcaaGreatDoor
open Go.RowKit
theorem twice_step {l:List PPair} {k:Nat} (h:k<l.length):twiceP (l.take k) (l.drop k)=(((l.take k).any fun y=>eqB y.key l[k].key) || twiceP (l.take (k+1)) (l.drop (k+1))):=by
 have e:l.take (k+1)=l.take k++[l[k]]:=by rw[List.take_add_one,List.getElem?_eq_getElem h];rfl
 rw[List.drop_eq_getElem_cons h,e]
 rfl
set_option maxRecDepth 100000 in
set_option maxHeartbeats 4000000 in
theorem hasKeyTwice_ {B:Nat} {l:List PPair} {ao:Option Addr} {c:Nat} {W:World} (h:W.ownsRow B 91 2 (.slice ao l.length c) l.length (pairCells l)) (hn:l.length≤3000) (hc:l.length≤c):
  Calls Tryz.prog 159 #[.slice ao l.length c] W fun e W'=>e=.returned (.bool (twiceP [] l))∧Below W.heap.size W W':=by
 have HR:=Lib.hid h
 clear h
 go_enter Tryz.func159,Tryz.ntmps159
 go_wp2_with fail
 go_loopg [9] l.length (fun m iv w=>∃k:Nat,iv=.int .i64 (k:Int)∧k+m=l.length∧Below W.heap.size W w∧twiceP [] l=twiceP (l.take k) (l.drop k))
 case atStart=>exact⟨0,rfl,by omega,Below.refl _ _,rfl⟩
 case round=>
  obtain⟨k,rfl,hk,hb,htw⟩:=hrel
  have HB:=Lib.hid hb
  have HTW:=Lib.hid htw
  have hrow:=kept_none HR.out (grown_below hb none)
  have HROW:=Lib.hid hrow
  clear hb htw
  by_cases hlt:k<l.length
  ·obtain⟨g,rfl,hcell⟩:=row_at (l:=l) fPair (fun _=>rfl) hrow hlt
   have p0:wr.cell? ⟨g,k*2,none⟩=some (.string l[k].key):=hcell 0 (by decide)
   have p1:wr.cell? ⟨g,k*2+1,none⟩=some (.int .i64 l[k].val):=hcell 1 (by decide)
   have hki:(k:Int)<(l.length:Int):=by omega
   have HST:=Lib.hid (twice_step hlt)
   obtain⟨x,hx⟩:∃x,l[k]=x:=⟨_,rfl⟩
   rw[hx] at p0 p1 HST
   clear hcell hx hrow
   go_upto_block 1 with fail
   go_cut [] (fun w=>Below W.heap.size W w∧((l.take k).any fun y=>eqB y.key x.key)=false)
   case first=>
    have hb1:Below W.heap.size W (wr.alloc (.cells #[.string x.key,.int .i64 x.val] 91)):=Below.alloc HB.out HB.out.size _
    have HB1:=Lib.hid hb1
    have HY:=Lib.hid (Loc.new wr #[.string x.key,.int .i64 x.val] 91)
    clear hb1
    go_upto_block 2 with fail
    obtain⟨Y,hY⟩:∃Y,Y=wr.heap.size:=⟨_,rfl⟩
    rw[←hY] at HY⊢
    clear hY
    generalize wr.alloc (.cells #[.string x.key,.int .i64 x.val] 91)=W1 at HB1 HY⊢
    clear p0 p1
    go_wp2_with fail
    go_loopg [18] k (fun m iv w=>∃j:Nat,iv=.int .i64 (j:Int)∧j+m=k∧Below W.heap.size W w∧Loc w Y #[.string x.key,.int .i64 x.val] 91∧((l.take j).any fun y=>eqB y.key x.key)=false)
    case atStart=>exact⟨0,rfl,by omega,HB1.out,HY.out,rfl⟩
    case round=>
     obtain⟨j,rfl,hj,hb,hy,hno⟩:=hrel
     have HB2:=Lib.hid hb
     have HY2:=Lib.hid hy
     have HNO:=Lib.hid hno
     have hrow2:=kept_none HR.out (grown_below hb none)
     clear hb hno HB1 HY
     by_cases hjl:j<k
     ·obtain⟨g',hg',hcell⟩:=row_at (l:=l) fPair (fun _=>rfl) hrow2 (show j<l.length by omega)
      injection hg' with hg'
      injection hg' with hg'
      subst hg'
      have p0:wr.cell? ⟨g,j*2,none⟩=some (.string (l[j]'(by omega)).key):=hcell 0 (by decide)
      have p1:wr.cell? ⟨g,j*2+1,none⟩=some (.int .i64 (l[j]'(by omega)).val):=hcell 1 (by decide)
      have hji:(j:Int)<(k:Int):=by omega
      obtain⟨y,hyy⟩:∃y,l[j]'(by omega)=y:=⟨_,rfl⟩
      have HNX:Hid (((l.take (j+1)).any fun z=>eqB z.key x.key)=eqB y.key x.key):=by
       show _=_
       have e:l.take (j+1)=l.take j++[y]:=by rw[List.take_add_one,List.getElem?_eq_getElem (by omega),hyy];rfl
       rw[e,List.any_append,HNO.out];simp
      have HYES:Hid (eqB y.key x.key=true→((l.take k).any fun z=>eqB z.key x.key)=true):=by
       intro e
       refine List.any_eq_true.2 ⟨y,?_,e⟩
       rw[←hyy]
       exact List.mem_take_iff_getElem.2 ⟨j,by omega,rfl⟩
      rw[hyy] at p0 p1
      have hb3:Below W.heap.size W (wr.alloc (.cells #[.string y.key,.int .i64 y.val] 91)):=Below.alloc HB2.out HB2.out.size _
      have HB3:=Lib.hid hb3
      have HY3:=Lib.hid (HY2.out.alloc (.cells #[.string y.key,.int .i64 y.val] 91))
      have HZ:=Lib.hid (Loc.new wr #[.string y.key,.int .i64 y.val] 91)
      clear hcell hrow2 hb3 hyy hy
      cases he:(y.key.toList==x.key.toList) with
      | true=>
       have HT:Hid (twiceP [] l=true):=by show _=_;rw[HTW.out,HST.out,HYES.out he];rfl
       go_upto_region 7 with fail
       obtain⟨Z,hZ⟩:∃Z,Z=wr.heap.size:=⟨_,rfl⟩
       rw[←hZ] at HZ⊢
       clear hZ
       generalize wr.alloc (.cells #[.string y.key,.int .i64 y.val] 91)=W3 at HB3 HY3 HZ⊢
       have z0:=HZ.out.at_ 0 (.string y.key) rfl
       have y0:=HY3.out.at_ 0 (.string x.key) rfl
       clear p0 p1
       go_wp2_with fail
       refine bodyPost_ret (v:=.bool true) ?_ rfl ⟨by rw[HT.out],HB3.out⟩
       simp[results,Tryz.results159,go_sem]
      | false=>
       go_upto_region 7 with fail
       obtain⟨Z,hZ⟩:∃Z,Z=wr.heap.size:=⟨_,rfl⟩
       rw[←hZ] at HZ⊢
       clear hZ
       generalize wr.alloc (.cells #[.string y.key,.int .i64 y.val] 91)=W3 at HB3 HY3 HZ⊢
       have z0:=HZ.out.at_ 0 (.string y.key) rfl
       have y0:=HY3.out.at_ 0 (.string x.key) rfl
       clear p0 p1
       go_wp2_with fail
       go_roundg (gk - 1)
       case measure=>omega
       case rel=>exact⟨j+1,by simp,by omega,HB3.out,HY3.out,by rw[HNX.out];exact he⟩
     ·have hji:¬(j:Int)<(k:Int):=by omega
      have hj2:j=k:=by omega
      clear hrow2 hy
      go_wp2_with fail
      go_meet
      case rel=>exact⟨HB2.out,by have:=HNO.out;rw[hj2] at this;exact this⟩
   case rest=>
    obtain⟨hb2,hno⟩:=hcut
    have HB2:=Lib.hid hb2
    have HNO:=Lib.hid hno
    clear hb2 hno
    go_wp2_with fail
    go_roundg (gk - 1)
    case measure=>omega
    case rel=>exact⟨k+1,by simp,by omega,HB2.out,by rw[HTW.out,HST.out,HNO.out];rfl⟩
  ·have hki:¬(k:Int)<(l.length:Int):=by omega
   have hk2:k=l.length:=by omega
   have HF:Hid (twiceP [] l=false):=by show _=_;rw[HTW.out,hk2,List.drop_length];rfl
   go_wp2_with fail
   refine bodyPost_ret (v:=.bool false) ?_ rfl ⟨by rw[HF.out],HB.out⟩
   simp[results,Tryz.results159,go_sem]
end Go.Proofs.YtobgbmfpicmpcaaGreatDoor

/- The program's scope: is a variable one of the spots'? -/
namespace Go.Proofs.YtobgbmfpicmpcaaGreatDoor
open Go.RowKit
set_option maxRecDepth 100000 in
set_option maxHeartbeats 4000000 in
theorem hasSpot_ {B:Nat} {l:List PSpot} {ao:Option Addr} {c:Nat} {n:ByteArray} {W:World} (h:W.ownsRow B 85 5 (.slice ao l.length c) l.length (spotCells l)) (hn:l.length≤3000):
  Calls Tryz.prog 103 #[.slice ao l.length c,.string n] W fun e W'=>e=.returned (.bool (boundR l n))∧Below W.heap.size W W':=by
 have HR:=Lib.hid h
 clear h
 go_enter Tryz.func103,Tryz.ntmps103
 go_wp2_with fail
 go_loopg [9] l.length (fun m iv w=>∃k:Nat,iv=.int .i64 (k:Int)∧k+m=l.length∧Below W.heap.size W w∧boundR (l.take k) n=false)
 case atStart=>exact⟨0,rfl,by omega,Below.refl _ _,rfl⟩
 case round=>
  obtain⟨k,rfl,hk,hb,hno⟩:=hrel
  have HB:=Lib.hid hb
  have HNO:=Lib.hid hno
  have hrow:=kept_none HR.out (grown_below hb none)
  clear hb hno
  by_cases hlt:k<l.length
  ·obtain⟨g,rfl,hcell⟩:=row_at (l:=l) fSpot (fun _=>rfl) hrow hlt
   have p0:wr.cell? ⟨g,k*5,none⟩=some (.string l[k].name):=hcell 0 (by decide)
   have p1:wr.cell? ⟨g,k*5+1,none⟩=some (.string l[k].label):=hcell 1 (by decide)
   have p2:wr.cell? ⟨g,k*5+2,none⟩=some (.string l[k].type):=hcell 2 (by decide)
   have p3:wr.cell? ⟨g,k*5+3,none⟩=some (.int .i64 l[k].least):=hcell 3 (by decide)
   have p4:wr.cell? ⟨g,k*5+4,none⟩=some (.int .i64 l[k].most):=hcell 4 (by decide)
   have hki:(k:Int)<(l.length:Int):=by omega
   have hnx:=bound_next (n:=n) hlt
   obtain⟨x,hx⟩:∃x,l[k]=x:=⟨_,rfl⟩
   have HH:Hid (eqB x.name n=true→boundR l n=true):=by intro e;exact bound_here hlt (by rw[hx];exact e)
   rw[hx] at p0 p1 p2 p3 p4 hnx
   have HNX:=Lib.hid hnx
   have HB3:Hid (Below W.heap.size W (wr.alloc (.cells #[.string x.name,.string x.label,.string x.type,.int .i64 x.least,.int .i64 x.most] 85))):=Below.alloc HB.out HB.out.size _
   have HZ:=Lib.hid (Loc.new wr #[.string x.name,.string x.label,.string x.type,.int .i64 x.least,.int .i64 x.most] 85)
   clear hcell hx hrow hnx
   cases he:(x.name.toList==n.toList) with
   | true=>
    go_upto_region 4 with fail
    obtain⟨Z,hZ⟩:∃Z,Z=wr.heap.size:=⟨_,rfl⟩
    rw[←hZ] at HZ⊢
    clear hZ
    generalize wr.alloc (.cells #[.string x.name,.string x.label,.string x.type,.int .i64 x.least,.int .i64 x.most] 85)=W3 at HB3 HZ⊢
    have z0:=HZ.out.at_ 0 (.string x.name) rfl
    clear p0 p1 p2 p3 p4
    go_wp2_with fail
    refine bodyPost_ret (v:=.bool true) ?_ rfl ⟨by rw[HH.out he],HB3.out⟩
    simp[results,Tryz.results103,go_sem]
   | false=>
    go_upto_region 4 with fail
    obtain⟨Z,hZ⟩:∃Z,Z=wr.heap.size:=⟨_,rfl⟩
    rw[←hZ] at HZ⊢
    clear hZ
    generalize wr.alloc (.cells #[.string x.name,.string x.label,.string x.type,.int .i64 x.least,.int .i64 x.most] 85)=W3 at HB3 HZ⊢
    have z0:=HZ.out.at_ 0 (.string x.name) rfl
    clear p0 p1 p2 p3 p4
    go_wp2_with fail
    go_roundg (gk - 1)
    case measure=>omega
    case rel=>exact⟨k+1,by simp,by omega,HB3.out,by rw[HNX.out,HNO.out];exact he⟩
  ·have hki:¬(k:Int)<(l.length:Int):=by omega
   have hk2:k=l.length:=by omega
   have HF:Hid (boundR l n=false):=by have:=HNO.out;rw[hk2,List.take_length] at this;exact this
   go_wp2_with fail
   refine bodyPost_ret (v:=.bool false) ?_ rfl ⟨by rw[HF.out],HB.out⟩
   simp[results,Tryz.results103,go_sem]
end Go.Proofs.YtobgbmfpicmpcaaGreatDoor

/- The program's parser: a make. -/
namespace Go.Proofs.YtobgbmfpicmpcaaGreatDoor
open Go.RowKit
theorem retOne {fn:Func} {tmps:Array Value} {w:World} {X c:Nat} {cs:Array Value} (hr:fn.results=#[.cell c 29]) (hc:tmps[c]?.getD undef=.pointer (some ⟨X,0,none⟩)) (hL:Loc w X cs 29) (hs:cs.size=17):
  (results fn tmps).run Tryz.prog w=.ok (.agg cs) w:=by
 have hl:=run_loadVar_mid (P:=Tryz.prog) w X 0 29 cs.toList _ hL.range Tryz.underlying29 rfl (by rw[Tryz.sizeQuery];simp[hs])
 unfold results
 rw[hr]
 simp[hc,hl,asAddr]
theorem grown_far {a w w2:World} {b X:Nat} (h:a.grownBy w (some b)) (g:w.grownBy w2 (some X)) (hX:a.heap.size≤X):a.grownBy w2 (some b):=
 ⟨g.os.trans h.os,g.tape.trans h.tape,g.output.trans h.output,Nat.le_trans h.size g.size,fun k hk hne=>(g.block k (Nat.lt_of_lt_of_le hk h.size) (by intro e;injection e with e;omega)).trans (h.block k hk hne)⟩
theorem listLoop_count {α:Type} {one:RS→α × RS} {sep:ByteArray} (n:Nat):∀(out:List α) (st:RS),(listLoop one sep n out st).1.length≤out.length+n:=by
 induction n with
 | zero=>intro out st;exact Nat.le_refl _
 | succ n ih=>
  intro out st
  simp only[listLoop]
  split
  ·have:=ih (out++[(one (acceptP sep st)).1]) (one (acceptP sep st)).2
   rw[List.length_append] at this
   simp only[List.length_singleton] at this
   omega
  ·simp only;omega
theorem listPair_len {sep:ByteArray} {st:RS} (h:st.rest.length≤2000):(listP pairP sep 6 st).1.length≤3000:=by
 have h1:=listLoop_count (one:=pairP) (sep:=sep) (pairP st).2.rest.length [(pairP st).1] (pairP st).2
 have h2:=Pure.pairP_len st
 unfold listP
 simp only[List.length_singleton] at h1⊢
 omega
set_option maxRecDepth 100000 in
set_option maxHeartbeats 4000000 in
theorem creation_ {b G:Nat} {st:RS} {W:World} (h:PI b G st W) (hl:st.rest.length≤2000):
  Calls Tryz.prog 96 #[.pointer (some ⟨b,0,none⟩)] W fun e W'=>∃vp,e=.returned (.agg (qC {query0 with kind:=5,label:=(creationP st).1.1,pairs:=(creationP st).1.2} (.slice none 0 0) (.slice none 0 0) (.slice none 0 0) vp))∧W'.ownsRow W.heap.size 91 2 vp (creationP st).1.2.length (pairCells (creationP st).1.2)∧PI b G (creationP st).2 W'∧W.grownBy W' (some b):=by
 have g0:=grown_alloc W (.cells zq 29) none
 have HP:=Lib.hid (h.quiet g0)
 have HL0:=Lib.hid (Loc.new W zq 29)
 have HG0:=Lib.hid (grown_alloc W (.cells zq 29) (some b))
 have hsz:=size_alloc W (.cells zq 29)
 have hbw:b<W.heap.size:=by obtain⟨_,_,hb,_⟩:=h.box;exact hb.lt
 have hgw:=h.far.2
 have hl1:=Pure.expectP_len mOpen st
 obtain⟨tl,s1,ht⟩:∃t az,titleP (expectP mOpen st)=(t,az):=⟨_,_,rfl⟩
 have hl2:=Pure.titleP_len (expectP mOpen st)
 rw[ht] at hl2
 have HT:=Lib.hid ht
 clear g0 h ht
 go_enter Tryz.func96,Tryz.ntmps96
 go_wp2_with fail
 obtain⟨X0,hX0⟩:∃X0,X0=W.heap.size:=⟨_,rfl⟩
 rw[←hX0] at HL0⊢
 have hXW:W.heap.size≤X0:=by omega
 have HX0:Hid (X0≠b∧X0≠G):=by show _∧_;omega
 have hXZ:X0<(W.alloc (.cells zq 29)).heap.size:=by omega
 clear hX0
 generalize W.alloc (.cells zq 29)=Wz at HP HL0 HG0 hsz hXZ⊢
 refine(expect_ HP.out mOpen).mono ?_
 rintro e W1 ⟨rfl,h1,g1⟩
 have H1:=Lib.hid h1
 have G1:=Lib.hid g1
 clear h1 g1 HP
 go_wp2_with fail
 refine(title_ H1.out HT.out).mono ?_
 rintro e W2 ⟨rfl,h2,g2⟩
 have g12:=grown_trans G1.out g2
 have hs2:=g12.size
 have H2:Hid (PQ Wz b G s1 W2.heap.size {query0 with kind:=5,label:=tl,pairs:=[]} (.slice none 0 0) (.slice none 0 0) (.slice none 0 0) (.slice none 0 0) (W2.alloc (.cells #[.int .i64 5,.slice none 0 0,.slice none 0 0,.slice none 0 0,.int .i64 0,.bool false,.int .i64 0,.int .i64 0,.string ⟨#[]⟩,.string ⟨#[]⟩,.string ⟨#[]⟩,.string ⟨#[]⟩,.int .i64 0,.string ⟨#[]⟩,.string ⟨#[]⟩,.string tl,.slice none 0 0] 29))):=
  ⟨h2.quiet (grown_alloc W2 _ none),Loc.new W2 _ _,hs2,grown_trans g12 (grown_alloc W2 _ _),⟨World.ownsRow_nil _ _ _ _,World.ownsRow_nil _ _ _ _,World.ownsRow_nil _ _ _ _,World.ownsRow_nil _ _ _ _⟩,by omega,by omega⟩
 clear h2 g2 g12 H1 G1
 go_wp2_with fail
 obtain⟨x,hx⟩:∃x,x=W2.heap.size:=⟨_,rfl⟩
 rw[←hx] at H2⊢
 clear hx
 generalize W2.alloc (.cells #[.int .i64 5,.slice none 0 0,.slice none 0 0,.slice none 0 0,.int .i64 0,.bool false,.int .i64 0,.int .i64 0,.string ⟨#[]⟩,.string ⟨#[]⟩,.string ⟨#[]⟩,.string ⟨#[]⟩,.int .i64 0,.string ⟨#[]⟩,.string ⟨#[]⟩,.string tl,.slice none 0 0] 29)=W3 at H2⊢
 obtain⟨m,hm⟩:∃m,peekP mBrace s1=m:=⟨_,rfl⟩
 have HM:=Lib.hid hm
 clear hm hs2
 refine(accept_ H2.out.p mBrace m HM.out).mono ?_
 rintro e W4 ⟨rfl,h4,g4⟩
 have H4:=Lib.hid (H2.out.call h4 g4)
 clear h4 g4 H2
 go_upto_if 10 with fail
 go_cut [] (fun w=>∃l u vp,PQ Wz b G u x {query0 with kind:=5,label:=tl,pairs:=l} (.slice none 0 0) (.slice none 0 0) (.slice none 0 0) vp w∧(if m then listP pairP mComma 6 (acceptP mBrace s1) else ([],s1)).1=l∧(if m then expectP mUnbrace (listP pairP mComma 6 (acceptP mBrace s1)).2 else s1)=u∧l.length≤3000)
 case first=>
  cases m with
  | false=>
   go_wp2_with fail
   go_meet
   case rel=>exact⟨[],s1,(.slice none 0 0),by have h:=H4.out;rw[show acceptP mBrace s1=s1 by unfold acceptP;rw[HM.out];rfl] at h;exact h,rfl,rfl,by simp⟩
  | true=>
   obtain⟨l,s2,hn⟩:∃l az,listP pairP mComma 6 (acceptP mBrace s1)=(l,az):=⟨_,_,rfl⟩
   have HN:=Lib.hid hn
   have hl3:=Pure.acceptP_len mBrace s1
   clear hn
   go_wp2_with fail
   refine(listPair H4.out.p (by omega) HN.out).mono ?_
   rintro e W5 ⟨v0,rfl,ho,h5,g5⟩
   obtain⟨ao,ca,rfl,hca⟩:=row_slice (l:=l) ho
   have hlen:=listPair_len (sep:=mComma) (st:=acceptP mBrace s1) (by omega)
   rw[HN.out] at hlen
   have Ha:=H4.out.call h5 g5
   have c16:=Ha.lx.at_ 16 (.slice none 0 0) rfl
   have f16:W5.frozen? ⟨x,16,none⟩=false:=Ha.lx.free 16
   have H5:=Lib.hid (H4.out.pairs h5 g5 ho)
   clear Ha ho h5 g5 H4
   go_wp2_with fail
   generalize W5.setCell ⟨x,16,none⟩ (.slice ao l.length ca)=W6 at H5⊢
   clear c16 f16
   refine(expect_ H5.out.p mUnbrace).mono ?_
   rintro e W7 ⟨rfl,h7,g7⟩
   have H7:=Lib.hid (H5.out.call h7 g7)
   clear h7 g7 H5
   go_wp2_with fail
   go_meet
   case rel=>exact⟨l,_,_,H7.out,by rw[HN.out];rfl,by rw[HN.out];rfl,hlen⟩
 case rest=>
  clear H4
  obtain⟨l,u,vp,hq,e1,e2,hlen⟩:=hcut
  obtain⟨pa,pc,rfl,hpc⟩:=row_slice (l:=l) hq.rows.rp
  have H5:=Lib.hid hq
  have HC0:Hid (creationP st=((tl,l),if twiceP [] l then failP else expectP mClose u)):=by
   show _=_
   unfold creationP
   simp only[HT.out,HM.out]
   rw[←e1,←e2]
   cases m<;>rfl
  clear hq e1 e2
  go_wp2_with fail
  refine(expect_ H5.out.p mClose).mono ?_
  rintro e W6 ⟨rfl,h6,g6⟩
  have H6:=Lib.hid (H5.out.call h6 g6)
  clear h6 g6 H5
  have c16:=H6.out.lx.at_ 16 (.slice pa l.length pc) rfl
  go_wp2_with fail
  refine(hasKeyTwice_ H6.out.rows.rp hlen hpc).mono ?_
  rintro e W7 ⟨rfl,hb7⟩
  have H7:=Lib.hid (H6.out.call (H6.out.p.quiet (grown_below hb7 none)) (grown_below hb7 _))
  clear hb7 H6 c16
  cases htw:twiceP [] l with
  | false=>
   have HC:Hid (creationP st=((tl,l),expectP mClose u)):=by show _=_;rw[HC0.out,htw];rfl
   have HLE:Hid (Loc W7 X0 zq 29):=HL0.out.grown H7.out.grown (by intro e;injection e with e;exact HX0.out.1 e)
   clear htw
   go_upto_region 9 with fail
   refine wp_region_lit ?_
   refine wpList_load_mid rfl 29 _ rfl x 0 rfl (qC {query0 with kind:=5,label:=tl,pairs:=l} (.slice none 0 0) (.slice none 0 0) (.slice none 0 0) (.slice pa l.length pc)).toList _ H7.out.lx.range Tryz.underlying29 rfl (by rw[Tryz.sizeQuery];rfl) ?_
   refine wpList_store_mid rfl 29 _ _ rfl X0 0 (qC {query0 with kind:=5,label:=tl,pairs:=l} (.slice none 0 0) (.slice none 0 0) (.slice none 0 0) (.slice pa l.length pc)) rfl rfl HLE.out.there Tryz.sizeQuery (qC_one _) ?_
   have hF:Loc (W7.setCells X0 0 (qC {query0 with kind:=5,label:=tl,pairs:=l} (.slice none 0 0) (.slice none 0 0) (.slice none 0 0) (.slice pa l.length pc)).toList) X0 (qC {query0 with kind:=5,label:=tl,pairs:=l} (.slice none 0 0) (.slice none 0 0) (.slice none 0 0) (.slice pa l.length pc)) 29:=HLE.out.setAll rfl
   have hG:=grown_setMany X0 (qC {query0 with kind:=5,label:=tl,pairs:=l} (.slice none 0 0) (.slice none 0 0) (.slice none 0 0) (.slice pa l.length pc)).toList 0 W7
   have hP:PI b G (expectP mClose u) (W7.setCells X0 0 (qC {query0 with kind:=5,label:=tl,pairs:=l} (.slice none 0 0) (.slice none 0 0) (.slice none 0 0) (.slice pa l.length pc)).toList):=H7.out.p.kept hG (by intro e;injection e with e;exact HX0.out.1 e.symm) (by intro e;injection e with e;exact HX0.out.2 e.symm)
   have hRow:=H7.out.rows.rp.kept hG (Or.inr (row_loc H7.out.rows.rp HLE.out (by decide)))
   have hGG:W.grownBy (W7.setCells X0 0 (qC {query0 with kind:=5,label:=tl,pairs:=l} (.slice none 0 0) (.slice none 0 0) (.slice none 0 0) (.slice pa l.length pc)).toList) (some b):=grown_far (grown_trans HG0.out H7.out.grown) hG hXW
   obtain⟨WF,hWF⟩:∃WF,W7.setCells X0 0 (qC {query0 with kind:=5,label:=tl,pairs:=l} (.slice none 0 0) (.slice none 0 0) (.slice none 0 0) (.slice pa l.length pc)).toList=WF:=⟨_,rfl⟩
   rw[hWF] at hF hP hRow hGG⊢
   clear hWF hG
   go_wp2_with fail
   refine bodyPost_ret (v:=.agg (qC {query0 with kind:=5,label:=tl,pairs:=l} (.slice none 0 0) (.slice none 0 0) (.slice none 0 0) (.slice pa l.length pc))) ?_ rfl ⟨.slice pa l.length pc,?_,?_,?_,hGG⟩
   ·exact retOne Tryz.results96 rfl hF rfl
   ·rw[HC.out]
   ·rw[HC.out];exact row_weaken hRow (by omega)
   ·rw[HC.out];exact hP
  | true=>
   have HC:Hid (creationP st=((tl,l),failP)):=by show _=_;rw[HC0.out,htw];rfl
   clear htw
   go_wp2_with fail
   refine(fail_ H7.out.p).mono ?_
   rintro e W8 ⟨rfl,h8,g8⟩
   have H8:=Lib.hid (H7.out.call h8 g8)
   clear h8 g8 H7
   have HLE:Hid (Loc W8 X0 zq 29):=HL0.out.grown H8.out.grown (by intro e;injection e with e;exact HX0.out.1 e)
   go_upto_region 9 with fail
   refine wp_region_lit ?_
   refine wpList_load_mid rfl 29 _ rfl x 0 rfl (qC {query0 with kind:=5,label:=tl,pairs:=l} (.slice none 0 0) (.slice none 0 0) (.slice none 0 0) (.slice pa l.length pc)).toList _ H8.out.lx.range Tryz.underlying29 rfl (by rw[Tryz.sizeQuery];rfl) ?_
   refine wpList_store_mid rfl 29 _ _ rfl X0 0 (qC {query0 with kind:=5,label:=tl,pairs:=l} (.slice none 0 0) (.slice none 0 0) (.slice none 0 0) (.slice pa l.length pc)) rfl rfl HLE.out.there Tryz.sizeQuery (qC_one _) ?_
   have hF:Loc (W8.setCells X0 0 (qC {query0 with kind:=5,label:=tl,pairs:=l} (.slice none 0 0) (.slice none 0 0) (.slice none 0 0) (.slice pa l.length pc)).toList) X0 (qC {query0 with kind:=5,label:=tl,pairs:=l} (.slice none 0 0) (.slice none 0 0) (.slice none 0 0) (.slice pa l.length pc)) 29:=HLE.out.setAll rfl
   have hG:=grown_setMany X0 (qC {query0 with kind:=5,label:=tl,pairs:=l} (.slice none 0 0) (.slice none 0 0) (.slice none 0 0) (.slice pa l.length pc)).toList 0 W8
   have hP:PI b G failP (W8.setCells X0 0 (qC {query0 with kind:=5,label:=tl,pairs:=l} (.slice none 0 0) (.slice none 0 0) (.slice none 0 0) (.slice pa l.length pc)).toList):=H8.out.p.kept hG (by intro e;injection e with e;exact HX0.out.1 e.symm) (by intro e;injection e with e;exact HX0.out.2 e.symm)
   have hRow:=H8.out.rows.rp.kept hG (Or.inr (row_loc H8.out.rows.rp HLE.out (by decide)))
   have hGG:W.grownBy (W8.setCells X0 0 (qC {query0 with kind:=5,label:=tl,pairs:=l} (.slice none 0 0) (.slice none 0 0) (.slice none 0 0) (.slice pa l.length pc)).toList) (some b):=grown_far (grown_trans HG0.out H8.out.grown) hG hXW
   obtain⟨WF,hWF⟩:∃WF,W8.setCells X0 0 (qC {query0 with kind:=5,label:=tl,pairs:=l} (.slice none 0 0) (.slice none 0 0) (.slice none 0 0) (.slice pa l.length pc)).toList=WF:=⟨_,rfl⟩
   rw[hWF] at hF hP hRow hGG⊢
   clear hWF hG
   go_wp2_with fail
   refine bodyPost_ret (v:=.agg (qC {query0 with kind:=5,label:=tl,pairs:=l} (.slice none 0 0) (.slice none 0 0) (.slice none 0 0) (.slice pa l.length pc))) ?_ rfl ⟨.slice pa l.length pc,?_,?_,?_,hGG⟩
   ·exact retOne Tryz.results96 rfl hF rfl
   ·rw[HC.out]
   ·rw[HC.out];exact row_weaken hRow (by omega)
   ·rw[HC.out];exact hP
end Go.Proofs.YtobgbmfpicmpcaaGreatDoor

/- The program's scope: the variables that a query uses. -/
namespace Go.Proofs.YtobgbmfpicmpcaaGreatDoor
open Go.RowKit
set_option maxRecDepth 100000 in
set_option maxHeartbeats 4000000 in
theorem used_ {B:Nat} {q:PQuery} {vs vc vi vp:Value} {W:World} (hrs:W.ownsRow B 85 5 vs q.spots.length (spotCells q.spots)) (hrc:W.ownsRow B 87 7 vc q.conds.length (condCells q.conds)) (hrt:W.ownsRow B 89 2 vi q.items.length (itemCells q.items)) (hl2:q.conds.length≤3000) (hl3:q.items.length≤3000):
  Calls Tryz.prog 102 #[.agg (qC q vs vc vi vp)] W fun e W'=>∃v,e=.returned v∧W'.ownsRow W.heap.size 9 1 v (usedP q).length (strs (usedP q))∧(usedP q).length≤9003∧Below W.heap.size W W':=by
 obtain⟨i1,hj,hy0,hy1,hy2⟩:=info_parts Tryz.infoString
 obtain⟨aos,cas,rfl,hcas⟩:=row_slice (l:=q.spots) hrs
 obtain⟨aoc,cac,rfl,hcac⟩:=row_slice (l:=q.conds) hrc
 obtain⟨aoi,cai,rfl,hcai⟩:=row_slice (l:=q.items) hrt
 have g0:=grown_alloc W (.cells (qC q (.slice aos q.spots.length cas) (.slice aoc q.conds.length cac) (.slice aoi q.items.length cai) vp) 29) none
 have H0:Hid (SAt W B W.heap.size (qC q (.slice aos q.spots.length cas) (.slice aoc q.conds.length cac) (.slice aoi q.items.length cai) vp) q (.slice aos q.spots.length cas) (.slice aoc q.conds.length cac) (.slice aoi q.items.length cai) (.slice none 0 0) [] (W.alloc (.cells (qC q (.slice aos q.spots.length cas) (.slice aoc q.conds.length cac) (.slice aoi q.items.length cai) vp) 29))):=
  ⟨Below.alloc (Below.refl _ _) (Nat.le_refl _) _,Loc.new W _ _,Nat.le_refl _,kept_none hrs g0,kept_none hrc g0,kept_none hrt g0,World.ownsRow_nil _ _ _ _⟩
 clear hrs hrc hrt g0
 go_enter Tryz.func102,Tryz.ntmps102
 go_upto_region 2 with fail
 obtain⟨X,hX⟩:∃X,X=W.heap.size:=⟨_,rfl⟩
 rw[←hX] at H0⊢
 generalize W.alloc (.cells (qC q (.slice aos q.spots.length cas) (.slice aoc q.conds.length cac) (.slice aoi q.items.length cai) vp) 29)=W1 at H0⊢
 have hXW:W.heap.size≤X:=by omega
 clear hX
 have c2:=H0.out.lq.at_ 2 (.slice aoc q.conds.length cac) rfl
 go_upto_block 0 with fail
 clear c2
 go_cut [3] (fun v w=>SAt W B X (qC q (.slice aos q.spots.length cas) (.slice aoc q.conds.length cac) (.slice aoi q.items.length cai) vp) q (.slice aos q.spots.length cas) (.slice aoc q.conds.length cac) (.slice aoi q.items.length cai) v (condNames q.conds) w)
 case first=>
  go_wp2_with fail
  go_loopg [3,11] q.conds.length (fun m v iv w=>∃k:Nat,iv=.int .i64 (k:Int)∧k+m=q.conds.length∧SAt W B X (qC q (.slice aos q.spots.length cas) (.slice aoc q.conds.length cac) (.slice aoi q.items.length cai) vp) q (.slice aos q.spots.length cas) (.slice aoc q.conds.length cac) (.slice aoi q.items.length cai) v (condNames (q.conds.take k)) w)
  case atStart=>exact⟨0,rfl,by omega,H0.out⟩
  case round=>
   obtain⟨k,rfl,hk,hq⟩:=hrel
   have HQ:=Lib.hid hq
   clear H0
   by_cases hlt:k<q.conds.length
   ·obtain⟨g,rfl,hcell⟩:=row_at (l:=q.conds) fCond (fun _=>rfl) hq.rc hlt
    obtain⟨y,hy⟩:∃y,q.conds[k]=y:=⟨_,rfl⟩
    rw[hy] at hcell
    have p0:wr.cell? ⟨g,k*7,none⟩=some (.int .i64 y.op):=hcell 0 (by decide)
    have p1:wr.cell? ⟨g,k*7+1,none⟩=some (.string y.a.name):=hcell 1 (by decide)
    have p2:wr.cell? ⟨g,k*7+2,none⟩=some (.string y.a.key):=hcell 2 (by decide)
    have p3:wr.cell? ⟨g,k*7+3,none⟩=some (.int .i64 y.a.val):=hcell 3 (by decide)
    have p4:wr.cell? ⟨g,k*7+4,none⟩=some (.string y.b.name):=hcell 4 (by decide)
    have p5:wr.cell? ⟨g,k*7+5,none⟩=some (.string y.b.key):=hcell 5 (by decide)
    have p6:wr.cell? ⟨g,k*7+6,none⟩=some (.int .i64 y.b.val):=hcell 6 (by decide)
    have hki:(k:Int)<(q.conds.length:Int):=by omega
    have HNX:Hid (condNames (q.conds.take (k+1))=condNames (q.conds.take k)++[y.a.name,y.b.name]):=by show _=_;rw[condNames_next hlt,hy]
    have hnl:=condNames_len (q.conds.take k)
    rw[List.length_take_of_le (by omega)] at hnl
    obtain⟨ns,hns⟩:∃ns,condNames (q.conds.take k)=ns:=⟨_,rfl⟩
    rw[hns] at HQ HNX hnl
    have hnb:ns.length≤6000:=by omega
    have HZ:=Lib.hid (Loc.new wr #[.int .i64 y.op,.string y.a.name,.string y.a.key,.int .i64 y.a.val,.string y.b.name,.string y.b.key,.int .i64 y.b.val] 87)
    have H2:=Lib.hid (HQ.out.alloc (.cells #[.int .i64 y.op,.string y.a.name,.string y.a.key,.int .i64 y.a.val,.string y.b.name,.string y.b.key,.int .i64 y.b.val] 87))
    clear hns hlt hnl hcell hy hq HQ
    go_upto_region 5 with fail
    obtain⟨Z,hZ⟩:∃Z,Z=wr.heap.size:=⟨_,rfl⟩
    rw[←hZ] at HZ⊢
    clear hZ
    generalize wr.alloc (.cells #[.int .i64 y.op,.string y.a.name,.string y.a.key,.int .i64 y.a.val,.string y.b.name,.string y.b.key,.int .i64 y.b.val] 87)=W3 at HZ H2⊢
    clear p0 p1 p2 p3 p4 p5 p6
    have z1:=HZ.out.at_ 1 (.string y.a.name) rfl
    have z4:=HZ.out.at_ 4 (.string y.b.name) rfl
    have HD:=Lib.hid (H2.out.alloc (.cells #[.string y.a.name,.string y.b.name] 9))
    go_wp2_with (at_builtin;go_must (refine wpList_append_lies _ rfl _ _ 56 rfl W.heap.size 9 i1 (.string ⟨#[]⟩) 1 16 Tryz.underlying56 hj hy0 hy1 hy2 rfl (by decide) u3 _ _ rfl HD.out.rl _ 2 2 [.string y.a.name,.string y.b.name] rfl rfl (World.news_of_block (heap_alloc_new W3 _)) two_one (by omega) (by unfold maxLen;omega) (by omega) HD.out.low.size _ rfl ?_;intro g2 cap2 w5 hown hgrow _ _;have H5:=Lib.hid (HD.out.more (l:=[y.a.name,y.b.name]) hgrow (by rw[strs_append,List.length_append];exact hown));clear hown hgrow))
    go_roundg (gk - 1)
    case measure=>omega
    case rel=>exact⟨k+1,by simp,by omega,by rw[HNX.out];exact H5.out⟩
   ·have hki:¬(k:Int)<(q.conds.length:Int):=by omega
    have hk2:k=q.conds.length:=by omega
    clear hq
    go_wp2_with fail
    go_meet
    case rel=>
     rw[hk2,List.take_length] at HQ
     exact HQ.out
 case rest=>
  clear H0
  have H1:=Lib.hid hcut
  have hn0:=condNames_len q.conds
  obtain⟨n0,hns0⟩:∃n0,condNames q.conds=n0:=⟨_,rfl⟩
  rw[hns0] at H1 hn0
  have HN0:=Lib.hid hns0
  have hn0b:n0.length≤6000:=by omega
  clear hcut hns0 hn0
  have c3:=H1.out.lq.at_ 3 (.slice aoi q.items.length cai) rfl
  go_upto_block 2 with fail
  clear c3
  go_cut [3] (fun v w=>SAt W B X (qC q (.slice aos q.spots.length cas) (.slice aoc q.conds.length cac) (.slice aoi q.items.length cai) vp) q (.slice aos q.spots.length cas) (.slice aoc q.conds.length cac) (.slice aoi q.items.length cai) v (n0++itemNames q.items) w)
  case first=>
   go_wp2_with fail
   go_loopg [3,28] q.items.length (fun m v iv w=>∃k:Nat,iv=.int .i64 (k:Int)∧k+m=q.items.length∧SAt W B X (qC q (.slice aos q.spots.length cas) (.slice aoc q.conds.length cac) (.slice aoi q.items.length cai) vp) q (.slice aos q.spots.length cas) (.slice aoc q.conds.length cac) (.slice aoi q.items.length cai) v (n0++itemNames (q.items.take k)) w)
   case atStart=>exact⟨0,rfl,by omega,by rw[show itemNames (q.items.take 0)=[] from rfl,List.append_nil];exact H1.out⟩
   case round=>
    obtain⟨k,rfl,hk,hq⟩:=hrel
    have HQ:=Lib.hid hq
    clear H1
    by_cases hlt:k<q.items.length
    ·obtain⟨g,rfl,hcell⟩:=row_at (l:=q.items) fItem (fun _=>rfl) hq.rt hlt
     obtain⟨y,hy⟩:∃y,q.items[k]=y:=⟨_,rfl⟩
     rw[hy] at hcell
     have p0:wr.cell? ⟨g,k*2,none⟩=some (.string y.name):=hcell 0 (by decide)
     have p1:wr.cell? ⟨g,k*2+1,none⟩=some (.string y.key):=hcell 1 (by decide)
     have hki:(k:Int)<(q.items.length:Int):=by omega
     have HNX:Hid (n0++itemNames (q.items.take (k+1))=(n0++itemNames (q.items.take k))++[y.name]):=by show _=_;rw[itemNames_next hlt,hy,List.append_assoc]
     have hnl:=itemNames_len (q.items.take k)
     rw[List.length_take_of_le (by omega)] at hnl
     have hnb:(n0++itemNames (q.items.take k)).length≤9000:=by rw[List.length_append];omega
     obtain⟨ns,hns⟩:∃ns,n0++itemNames (q.items.take k)=ns:=⟨_,rfl⟩
     rw[hns] at HQ HNX hnb
     have HZ:=Lib.hid (Loc.new wr #[.string y.name,.string y.key] 89)
     have H2:=Lib.hid (HQ.out.alloc (.cells #[.string y.name,.string y.key] 89))
     clear hns hlt hnl hcell hy hq HQ
     go_upto_region 10 with fail
     obtain⟨Z,hZ⟩:∃Z,Z=wr.heap.size:=⟨_,rfl⟩
     rw[←hZ] at HZ⊢
     clear hZ
     generalize wr.alloc (.cells #[.string y.name,.string y.key] 89)=W3 at HZ H2⊢
     clear p0 p1
     have z0:=HZ.out.at_ 0 (.string y.name) rfl
     have HD:=Lib.hid (H2.out.alloc (.cells #[.string y.name] 9))
     go_wp2_with (at_builtin;go_must (refine wpList_append_lies _ rfl _ _ 56 rfl W.heap.size 9 i1 (.string ⟨#[]⟩) 1 16 Tryz.underlying56 hj hy0 hy1 hy2 rfl (by decide) u3 _ _ rfl HD.out.rl _ 1 1 [.string y.name] rfl rfl (World.news_of_block (heap_alloc_new W3 _)) str_one (by omega) (by unfold maxLen;omega) (by omega) HD.out.low.size _ rfl ?_;intro g2 cap2 w5 hown hgrow _ _;have H5:=Lib.hid (HD.out.more (l:=[y.name]) hgrow (by rw[strs_append,List.length_append];exact hown));clear hown hgrow))
     go_roundg (gk - 1)
     case measure=>omega
     case rel=>exact⟨k+1,by simp,by omega,by rw[HNX.out];exact H5.out⟩
    ·have hki:¬(k:Int)<(q.items.length:Int):=by omega
     have hk2:k=q.items.length:=by omega
     clear hq
     go_wp2_with fail
     go_meet
     case rel=>
      rw[hk2,List.take_length] at HQ
      exact HQ.out
  case rest=>
   clear H1
   have hn1:=itemNames_len q.items
   have H2:=Lib.hid hcut
   have hn1b:(n0++itemNames q.items).length≤9000:=by rw[List.length_append];omega
   obtain⟨n1,hns1⟩:∃n1,n0++itemNames q.items=n1:=⟨_,rfl⟩
   rw[hns1] at H2 hn1b
   have HU:Hid (usedP q=n1++(if q.kind≠6 then [q.name,q.to] else [])):=by
    show _=_
    unfold usedP
    rw[←hns1,←HN0.out]
    rfl
   clear hcut hns1 hn1
   obtain⟨pa,pc,hu⟩:∃ao cap,u3=.slice ao n1.length cap:=by
    obtain⟨ao,cap,e,_⟩:=row_slice (l:=n1) H2.out.rl
    exact⟨ao,cap,e⟩
   subst hu
   have c0:=H2.out.lq.at_ 0 (.int .i64 q.kind) rfl
   by_cases h6:q.kind=6
   ·have HE:Hid (usedP q=n1):=by show _=_;rw[HU.out,if_neg (by simp[h6])];exact List.append_nil _
    go_wp2_with fail
    refine bodyPost_ret (v:=.slice pa n1.length pc) ?_ rfl ⟨_,rfl,by rw[HE.out];exact H2.out.rl,by rw[HE.out];omega,H2.out.low⟩
    simp[results,Tryz.results102,go_sem]
   ·have HE:Hid (usedP q=n1++[q.name,q.to]):=by show _=_;rw[HU.out,if_pos h6]
    have c8:=H2.out.lq.at_ 8 (.string q.name) rfl
    have c14:=H2.out.lq.at_ 14 (.string q.to) rfl
    have HD:=Lib.hid (H2.out.alloc (.cells #[.string q.name,.string q.to] 9))
    go_wp2_with (at_builtin;go_must (refine wpList_append_lies _ rfl _ _ 56 rfl W.heap.size 9 i1 (.string ⟨#[]⟩) 1 16 Tryz.underlying56 hj hy0 hy1 hy2 rfl (by decide) (.slice pa n1.length pc) _ _ rfl HD.out.rl _ 2 2 [.string q.name,.string q.to] rfl rfl (World.news_of_block (heap_alloc_new wc _)) two_one (by omega) (by unfold maxLen;omega) (by omega) HD.out.low.size _ rfl ?_;intro g2 cap2 w5 hown hgrow _ _;have H5:=Lib.hid (HD.out.more (l:=[q.name,q.to]) hgrow (by rw[strs_append,List.length_append];exact hown));clear hown hgrow))
    refine bodyPost_ret (v:=.slice (some ⟨g2,0,none⟩) (n1.length+2) cap2) ?_ rfl ⟨_,rfl,by rw[HE.out];exact H5.out.rl,by rw[HE.out,List.length_append];simp;omega,H5.out.low⟩
    simp[results,Tryz.results102,go_sem]
end Go.Proofs.YtobgbmfpicmpcaaGreatDoor

