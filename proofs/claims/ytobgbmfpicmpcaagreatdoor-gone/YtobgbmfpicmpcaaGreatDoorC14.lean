/- The program's parser: what stands behind a match. -/
import Derived.Test.YtobgbmfpicmpcaaGreatDoorC13
import Derived.Deep.MidRow
import Derived.Lib.Hide
set_option maxRecDepth 100000
set_option maxHeartbeats 8000000
namespace Go.Proofs.YtobgbmfpicmpcaaGreatDoor
open Go.Lib (hid)
section
open Go.RowKit
theorem zH {W0 W:World} {b G x:Nat} {st:RS} {sp:List aN} {cd:List bP} {vs vc:Value} (h:PQ W0 b G st x {aF with ai:=sp,conds:=cd} vs vc (.slice none 0 0) (.slice none 0 0) W)  (h0:aE bq st=true) (hl:st.rest.length≤2001):
  Calls Tryz.prog 101 #[.pointer (some ⟨b,0,none⟩),.pointer (some ⟨x,0,none⟩)] W fun e W'=>e=.returned (.tuple #[])∧∃vi,PQ W0 b G (bS {aF with ai:=sp,conds:=cd} st).2 x (bS {aF with ai:=sp,conds:=cd} st).1 vs vc vi (.slice none 0 0) W':=by
 have HI:=hid h
 have hl2:=gL h0
 have P0:=hid h0
 clear h h0
 go_enter Tryz.func101,Tryz.ntmps101
 go_wp2_with fail
 refine(aL HI.out.p bq true P0.out).mono ?_
 rintro e A0 ⟨rfl,h,g⟩
 have K0:=hid (HI.out.call h g)
 clear h g HI
 have c0:=K0.out.lx.at_ 0 (.int .i64 0) rfl
 have f0:A0.frozen? ⟨x,0,none⟩=false:=K0.out.lx.free 0
 have HK:Hid (PQ W0 b G (ag bq st) x {aF with ai:=sp,conds:=cd,kind:=1} vs vc (.slice none 0 0) (.slice none 0 0) (A0.setCell ⟨x,0,none⟩ (.int .i64 1))):=K0.out.set 0 (.int .i64 1) rfl rfl rfl rfl rfl
 clear K0
 go_wp2_with fail
 generalize A0.setCell ⟨x,0,none⟩ (.int .i64 1)=WK at HK⊢
 clear c0 f0
 refine(Kc HK.out (by omega)).mono ?_
 rintro e W5 ⟨rfl,vi,hq⟩
 have H5:=hid hq
 clear hq
 go_wp2_with fail
 go_end0
 refine⟨rfl,vi,?_⟩
 unfold bS
 simp only[P0.out,if_true]
 exact H5.out
theorem DI {W0 W:World} {b G x:Nat} {st:RS} {sp:List aN} {cd:List bP} {vs vc:Value} (h:PQ W0 b G st x {aF with ai:=sp,conds:=cd} vs vc (.slice none 0 0) (.slice none 0 0) W) (h0:aE bq st=false) (h1:aE fN st=true):
  Calls Tryz.prog 101 #[.pointer (some ⟨b,0,none⟩),.pointer (some ⟨x,0,none⟩)] W fun e W'=>e=.returned (.tuple #[])∧∃vi,PQ W0 b G (bS {aF with ai:=sp,conds:=cd} st).2 x (bS {aF with ai:=sp,conds:=cd} st).1 vs vc vi (.slice none 0 0) W':=by
 have HI:=hid h
 have P0:=hid h0
 have P1:=hid h1
 clear h h0 h1
 go_enter Tryz.func101,Tryz.ntmps101
 go_wp2_with fail
 refine(aL HI.out.p bq false P0.out).mono ?_
 rintro e A0 ⟨rfl,h,g⟩
 rw[show ag bq st=st by unfold ag;rw[P0.out];rfl] at h
 have K0:=hid (HI.out.call h g)
 clear h g HI
 go_wp2_with fail
 refine(aL K0.out.p fN true P1.out).mono ?_
 rintro e A1 ⟨rfl,h,g⟩
 have K1:=hid (K0.out.call h g)
 clear h g K0
 obtain⟨n',k',a2,hp⟩:∃n' k' az,iE (ag fN st)=((n',k'),az):=⟨_,_,_,rfl⟩
 obtain⟨t',a3,ht⟩:∃t' az,dM (aD tT a2)=(t',az):=⟨_,_,rfl⟩
 have HP:=hid hp
 have HT:=hid ht
 clear hp ht
 have c0:=K1.out.lx.at_ 0 (.int .i64 0) rfl
 have f0:A1.frozen? ⟨x,0,none⟩=false:=K1.out.lx.free 0
 have HK:Hid (PQ W0 b G (ag fN st) x {aF with ai:=sp,conds:=cd,kind:=2} vs vc (.slice none 0 0) (.slice none 0 0) (A1.setCell ⟨x,0,none⟩ (.int .i64 2))):=K1.out.set 0 (.int .i64 2) rfl rfl rfl rfl rfl
 clear K1
 go_wp2_with fail
 generalize A1.setCell ⟨x,0,none⟩ (.int .i64 2)=WK at HK⊢
 clear c0 f0
 refine(vL HK.out.p HP.out).mono ?_
 rintro e W5 ⟨rfl,h5,g5⟩
 have Ha:=HK.out.call h5 g5
 have c8:=Ha.lx.at_ 8 (.string ⟨#[]⟩) rfl
 have f8:W5.frozen? ⟨x,8,none⟩=false:=Ha.lx.free 8
 have c9:=Ha.lx.at_ 9 (.string ⟨#[]⟩) rfl
 have f9:W5.frozen? ⟨x,9,none⟩=false:=Ha.lx.free 9
 have H5a:PQ W0 b G a2 x {aF with ai:=sp,conds:=cd,kind:=2,name:=n'} vs vc (.slice none 0 0) (.slice none 0 0) (W5.setCell ⟨x,8,none⟩ (.string n')):=Ha.set 8 (.string n') rfl rfl rfl rfl rfl
 have H5:Hid (PQ W0 b G a2 x {aF with ai:=sp,conds:=cd,kind:=2,name:=n',key:=k'} vs vc (.slice none 0 0) (.slice none 0 0) ((W5.setCell ⟨x,8,none⟩ (.string n')).setCell ⟨x,9,none⟩ (.string k'))):=H5a.set 9 (.string k') rfl rfl rfl rfl rfl
 clear Ha H5a h5 g5 HK
 go_wp2_with fail
 generalize (W5.setCell ⟨x,8,none⟩ (.string n')).setCell ⟨x,9,none⟩ (.string k')=W6 at H5⊢
 clear c8 f8 c9 f9
 refine(dA H5.out.p tT).mono ?_
 rintro e W7 ⟨rfl,h7,g7⟩
 have H7:=hid (H5.out.call h7 g7)
 clear h7 g7 H5
 go_wp2_with fail
 refine(xJ H7.out.p HT.out).mono ?_
 rintro e W8 ⟨rfl,h8,g8⟩
 have Ha:=H7.out.call h8 g8
 have c10:=Ha.lx.at_ 10 (.string ⟨#[]⟩) rfl
 have f10:W8.frozen? ⟨x,10,none⟩=false:=Ha.lx.free 10
 have c11:=Ha.lx.at_ 11 (.string ⟨#[]⟩) rfl
 have f11:W8.frozen? ⟨x,11,none⟩=false:=Ha.lx.free 11
 have c12:=Ha.lx.at_ 12 (.int .i64 0) rfl
 have f12:W8.frozen? ⟨x,12,none⟩=false:=Ha.lx.free 12
 have Hb:PQ W0 b G a3 x {aF with ai:=sp,conds:=cd,kind:=2,name:=n',key:=k',value:=⟨t'.name,⟨#[]⟩,0⟩} vs vc (.slice none 0 0) (.slice none 0 0) (W8.setCell ⟨x,10,none⟩ (.string t'.name)):=Ha.set 10 (.string t'.name) rfl rfl rfl rfl rfl
 have Hc:PQ W0 b G a3 x {aF with ai:=sp,conds:=cd,kind:=2,name:=n',key:=k',value:=⟨t'.name,t'.key,0⟩} vs vc (.slice none 0 0) (.slice none 0 0) ((W8.setCell ⟨x,10,none⟩ (.string t'.name)).setCell ⟨x,11,none⟩ (.string t'.key)):=Hb.set 11 (.string t'.key) rfl rfl rfl rfl rfl
 have H9:Hid (PQ W0 b G a3 x {aF with ai:=sp,conds:=cd,kind:=2,name:=n',key:=k',value:=t'} vs vc (.slice none 0 0) (.slice none 0 0) (((W8.setCell ⟨x,10,none⟩ (.string t'.name)).setCell ⟨x,11,none⟩ (.string t'.key)).setCell ⟨x,12,none⟩ (.int .i64 t'.val))):=Hc.set 12 (.int .i64 t'.val) rfl rfl rfl rfl rfl
 clear Ha Hb Hc h8 g8 H7
 go_wp2_with fail
 go_end0
 refine⟨rfl,.slice none 0 0,?_⟩
 unfold bS qg
 simp only[P0.out,P1.out,HP.out,HT.out,Bool.false_eq_true,if_false,if_true]
 exact H9.out
theorem Di {W0 W:World} {b G x:Nat} {st:RS} {sp:List aN} {cd:List bP} {vs vc:Value} (h:PQ W0 b G st x {aF with ai:=sp,conds:=cd} vs vc (.slice none 0 0) (.slice none 0 0) W) (h0:aE bq st=false) (h1:aE fN st=false) (h2:aE bI st=true):
  Calls Tryz.prog 101 #[.pointer (some ⟨b,0,none⟩),.pointer (some ⟨x,0,none⟩)] W fun e W'=>e=.returned (.tuple #[])∧∃vi,PQ W0 b G (bS {aF with ai:=sp,conds:=cd} st).2 x (bS {aF with ai:=sp,conds:=cd} st).1 vs vc vi (.slice none 0 0) W':=by
 have HI:=hid h
 have P0:=hid h0
 have P1:=hid h1
 have P2:=hid h2
 clear h h0 h1 h2
 go_enter Tryz.func101,Tryz.ntmps101
 go_wp2_with fail
 refine(aL HI.out.p bq false P0.out).mono ?_
 rintro e A0 ⟨rfl,h,g⟩
 rw[show ag bq st=st by unfold ag;rw[P0.out];rfl] at h
 have K0:=hid (HI.out.call h g)
 clear h g HI
 go_wp2_with fail
 refine(aL K0.out.p fN false P1.out).mono ?_
 rintro e A1 ⟨rfl,h,g⟩
 rw[show ag fN st=st by unfold ag;rw[P1.out];rfl] at h
 have K1:=hid (K0.out.call h g)
 clear h g K0
 go_wp2_with fail
 refine(aL K1.out.p bI true P2.out).mono ?_
 rintro e A2 ⟨rfl,h,g⟩
 have K2:=hid (K1.out.call h g)
 clear h g K1
 obtain⟨n',a2,hp⟩:∃n' az,du (ag bI st)=(n',az):=⟨_,_,rfl⟩
 have HP:=hid hp
 clear hp
 have c0:=K2.out.lx.at_ 0 (.int .i64 0) rfl
 have f0:A2.frozen? ⟨x,0,none⟩=false:=K2.out.lx.free 0
 have HK:Hid (PQ W0 b G (ag bI st) x {aF with ai:=sp,conds:=cd,kind:=3} vs vc (.slice none 0 0) (.slice none 0 0) (A2.setCell ⟨x,0,none⟩ (.int .i64 3))):=K2.out.set 0 (.int .i64 3) rfl rfl rfl rfl rfl
 clear K2
 go_wp2_with fail
 generalize A2.setCell ⟨x,0,none⟩ (.int .i64 3)=WK at HK⊢
 clear c0 f0
 refine(mS HK.out.p HP.out).mono ?_
 rintro e W5 ⟨rfl,h5,g5⟩
 have Ha:=HK.out.call h5 g5
 have c8:=Ha.lx.at_ 8 (.string ⟨#[]⟩) rfl
 have f8:W5.frozen? ⟨x,8,none⟩=false:=Ha.lx.free 8
 have H5:Hid (PQ W0 b G a2 x {aF with ai:=sp,conds:=cd,kind:=3,name:=n'} vs vc (.slice none 0 0) (.slice none 0 0) (W5.setCell ⟨x,8,none⟩ (.string n'))):=Ha.set 8 (.string n') rfl rfl rfl rfl rfl
 clear Ha h5 g5 HK
 go_wp2_with fail
 go_end0
 refine⟨rfl,.slice none 0 0,?_⟩
 unfold bS
 simp only[P0.out,P1.out,P2.out,HP.out,Bool.false_eq_true,if_false,if_true]
 exact H5.out
theorem Aa {W0 W:World} {b G x:Nat} {st:RS} {sp:List aN} {cd:List bP} {vs vc:Value} (h:PQ W0 b G st x {aF with ai:=sp,conds:=cd} vs vc (.slice none 0 0) (.slice none 0 0) W) (h0:aE bq st=false) (h1:aE fN st=false) (h2:aE bI st=false) (h3:aE aM st=true):
  Calls Tryz.prog 101 #[.pointer (some ⟨b,0,none⟩),.pointer (some ⟨x,0,none⟩)] W fun e W'=>e=.returned (.tuple #[])∧∃vi,PQ W0 b G (bS {aF with ai:=sp,conds:=cd} st).2 x (bS {aF with ai:=sp,conds:=cd} st).1 vs vc vi (.slice none 0 0) W':=by
 have HI:=hid h
 have P0:=hid h0
 have P1:=hid h1
 have P2:=hid h2
 have P3:=hid h3
 clear h h0 h1 h2 h3
 go_enter Tryz.func101,Tryz.ntmps101
 go_wp2_with fail
 refine(aL HI.out.p bq false P0.out).mono ?_
 rintro e A0 ⟨rfl,h,g⟩
 rw[show ag bq st=st by unfold ag;rw[P0.out];rfl] at h
 have K0:=hid (HI.out.call h g)
 clear h g HI
 go_wp2_with fail
 refine(aL K0.out.p fN false P1.out).mono ?_
 rintro e A1 ⟨rfl,h,g⟩
 rw[show ag fN st=st by unfold ag;rw[P1.out];rfl] at h
 have K1:=hid (K0.out.call h g)
 clear h g K0
 go_wp2_with fail
 refine(aL K1.out.p bI false P2.out).mono ?_
 rintro e A2 ⟨rfl,h,g⟩
 rw[show ag bI st=st by unfold ag;rw[P2.out];rfl] at h
 have K2:=hid (K1.out.call h g)
 clear h g K1
 go_wp2_with fail
 refine(aL K2.out.p aM true P3.out).mono ?_
 rintro e A3 ⟨rfl,h,g⟩
 have K3:=hid (K2.out.call h g)
 clear h g K2
 have c0:=K3.out.lx.at_ 0 (.int .i64 0) rfl
 have f0:A3.frozen? ⟨x,0,none⟩=false:=K3.out.lx.free 0
 have HK:Hid (PQ W0 b G (ag aM st) x {aF with ai:=sp,conds:=cd,kind:=4} vs vc (.slice none 0 0) (.slice none 0 0) (A3.setCell ⟨x,0,none⟩ (.int .i64 4))):=K3.out.set 0 (.int .i64 4) rfl rfl rfl rfl rfl
 clear K3
 go_wp2_with fail
 generalize A3.setCell ⟨x,0,none⟩ (.int .i64 4)=WK at HK⊢
 clear c0 f0
 refine(JO HK.out).mono ?_
 rintro e W5 ⟨rfl,hq⟩
 have H5:=hid hq
 clear hq
 go_wp2_with fail
 go_end0
 refine⟨rfl,.slice none 0 0,?_⟩
 unfold bS
 simp only[P0.out,P1.out,P2.out,P3.out,Bool.false_eq_true,if_false,if_true]
 exact H5.out
theorem Bq {W0 W:World} {b G x:Nat} {st:RS} {sp:List aN} {cd:List bP} {vs vc:Value} (h:PQ W0 b G st x {aF with ai:=sp,conds:=cd} vs vc (.slice none 0 0) (.slice none 0 0) W) (h0:aE bq st=false) (h1:aE fN st=false) (h2:aE bI st=false) (h3:aE aM st=false):
  Calls Tryz.prog 101 #[.pointer (some ⟨b,0,none⟩),.pointer (some ⟨x,0,none⟩)] W fun e W'=>e=.returned (.tuple #[])∧∃vi,PQ W0 b G (bS {aF with ai:=sp,conds:=cd} st).2 x (bS {aF with ai:=sp,conds:=cd} st).1 vs vc vi (.slice none 0 0) W':=by
 have HI:=hid h
 have P0:=hid h0
 have P1:=hid h1
 have P2:=hid h2
 have P3:=hid h3
 clear h h0 h1 h2 h3
 go_enter Tryz.func101,Tryz.ntmps101
 go_wp2_with fail
 refine(aL HI.out.p bq false P0.out).mono ?_
 rintro e A0 ⟨rfl,h,g⟩
 rw[show ag bq st=st by unfold ag;rw[P0.out];rfl] at h
 have K0:=hid (HI.out.call h g)
 clear h g HI
 go_wp2_with fail
 refine(aL K0.out.p fN false P1.out).mono ?_
 rintro e A1 ⟨rfl,h,g⟩
 rw[show ag fN st=st by unfold ag;rw[P1.out];rfl] at h
 have K1:=hid (K0.out.call h g)
 clear h g K0
 go_wp2_with fail
 refine(aL K1.out.p bI false P2.out).mono ?_
 rintro e A2 ⟨rfl,h,g⟩
 rw[show ag bI st=st by unfold ag;rw[P2.out];rfl] at h
 have K2:=hid (K1.out.call h g)
 clear h g K1
 go_wp2_with fail
 refine(aL K2.out.p aM false P3.out).mono ?_
 rintro e A3 ⟨rfl,h,g⟩
 rw[show ag aM st=st by unfold ag;rw[P3.out];rfl] at h
 have K3:=hid (K2.out.call h g)
 clear h g K2
 go_wp2_with fail
 refine(nk K3.out.p).mono ?_
 rintro e W5 ⟨rfl,h5,g5⟩
 have H5:=hid (K3.out.call h5 g5)
 clear h5 g5
 go_wp2_with fail
 go_end0
 refine⟨rfl,.slice none 0 0,?_⟩
 unfold bS
 simp only[P0.out,P1.out,P2.out,P3.out,Bool.false_eq_true,if_false]
 exact H5.out
theorem G7 {W0 W:World} {b G x:Nat} {st:RS} {sp:List aN} {cd:List bP} {vs vc:Value} (h:PQ W0 b G st x {aF with ai:=sp,conds:=cd} vs vc (.slice none 0 0) (.slice none 0 0) W) (hl:st.rest.length≤2001):
  Calls Tryz.prog 101 #[.pointer (some ⟨b,0,none⟩),.pointer (some ⟨x,0,none⟩)] W fun e W'=>e=.returned (.tuple #[])∧∃vi,PQ W0 b G (bS {aF with ai:=sp,conds:=cd} st).2 x (bS {aF with ai:=sp,conds:=cd} st).1 vs vc vi (.slice none 0 0) W':=by
 cases h0:aE bq st with
 | true=>exact zH h h0 hl
 | false=>
  cases h1:aE fN st with
  | true=>exact DI h h0 h1
  | false=>
   cases h2:aE bI st with
   | true=>exact Di h h0 h1 h2
   | false=>
    cases h3:aE aM st with
    | true=>exact Aa h h0 h1 h2 h3
    | false=>exact Bq h h0 h1 h2 h3
end
section
open Go.RowKit
theorem Ac {l:List dR} {k:Nat} (h:k<l.length):dK (l.take k) (l.drop k)=(((l.take k).any fun y=>ik y.key l[k].key) || dK (l.take (k+1)) (l.drop (k+1))):=by
 have e:l.take (k+1)=l.take k++[l[k]]:=by rw[List.take_add_one,List.getElem?_eq_getElem h];rfl
 rw[List.drop_eq_getElem_cons h,e]
 rfl
theorem wg {B:Nat} {l:List dR} {ao:Option Addr} {c:Nat} {W:World} (h:W.ownsRow B 91 2 (.slice ao l.length c) l.length (fB l)) (hn:l.length≤3000) (hc:l.length≤c):
  Calls Tryz.prog 159 #[.slice ao l.length c] W fun e W'=>e=.returned (.bool (dK [] l))∧Below W.heap.size W W':=by
 have HR:=hid h
 clear h
 go_enter Tryz.func159,Tryz.ntmps159
 go_wp2_with fail
 go_loopg [9] l.length (fun m iv w=>∃k:Nat,iv=.int .i64 (k:Int)∧k+m=l.length∧Below W.heap.size W w∧dK [] l=dK (l.take k) (l.drop k))
 case atStart=>exact⟨0,rfl,by omega,Below.refl _ _,rfl⟩
 case round=>
  obtain⟨k,rfl,hk,hb,htw⟩:=hrel
  have HB:=hid hb
  have HTW:=hid htw
  have hrow:=bW HR.out (af hb none)
  have HROW:=hid hrow
  clear hb htw
  by_cases hlt:k<l.length
  ·obtain⟨g,rfl,hcell⟩:=qv (l:=l) nS (fun _=>rfl) hrow hlt
   have p0:wr.cell? ⟨g,k*2,none⟩=some (.string l[k].key):=hcell 0 (by decide)
   have p1:wr.cell? ⟨g,k*2+1,none⟩=some (.int .i64 l[k].val):=hcell 1 (by decide)
   have hki:(k:Int)<(l.length:Int):=by omega
   have HST:=hid (Ac hlt)
   obtain⟨x,hx⟩:∃x,l[k]=x:=⟨_,rfl⟩
   rw[hx] at p0 p1 HST
   clear hcell hx hrow
   go_upto_block 1 with fail
   go_cut [] (fun w=>Below W.heap.size W w∧((l.take k).any fun y=>ik y.key x.key)=false)
   case first=>
    have hb1:Below W.heap.size W (wr.alloc (.cells #[.string x.key,.int .i64 x.val] 91)):=Below.alloc HB.out HB.out.size _
    have HB1:=hid hb1
    have HY:=hid (Loc.new wr #[.string x.key,.int .i64 x.val] 91)
    clear hb1
    go_upto_block 2 with fail
    obtain⟨Y,hY⟩:∃Y,Y=wr.heap.size:=⟨_,rfl⟩
    rw[←hY] at HY⊢
    clear hY
    generalize wr.alloc (.cells #[.string x.key,.int .i64 x.val] 91)=W1 at HB1 HY⊢
    clear p0 p1
    go_wp2_with fail
    go_loopg [18] k (fun m iv w=>∃j:Nat,iv=.int .i64 (j:Int)∧j+m=k∧Below W.heap.size W w∧Loc w Y #[.string x.key,.int .i64 x.val] 91∧((l.take j).any fun y=>ik y.key x.key)=false)
    case atStart=>exact⟨0,rfl,by omega,HB1.out,HY.out,rfl⟩
    case round=>
     obtain⟨j,rfl,hj,hb,hy,hno⟩:=hrel
     have HB2:=hid hb
     have HY2:=hid hy
     have HNO:=hid hno
     have hrow2:=bW HR.out (af hb none)
     clear hb hno HB1 HY
     by_cases hjl:j<k
     ·obtain⟨g',hg',hcell⟩:=qv (l:=l) nS (fun _=>rfl) hrow2 (show j<l.length by omega)
      injection hg' with hg'
      injection hg' with hg'
      subst hg'
      have p0:wr.cell? ⟨g,j*2,none⟩=some (.string (l[j]'(by omega)).key):=hcell 0 (by decide)
      have p1:wr.cell? ⟨g,j*2+1,none⟩=some (.int .i64 (l[j]'(by omega)).val):=hcell 1 (by decide)
      have hji:(j:Int)<(k:Int):=by omega
      obtain⟨y,hyy⟩:∃y,l[j]'(by omega)=y:=⟨_,rfl⟩
      have HNX:Hid (((l.take (j+1)).any fun z=>ik z.key x.key)=ik y.key x.key):=by
       show _=_
       have e:l.take (j+1)=l.take j++[y]:=by rw[List.take_add_one,List.getElem?_eq_getElem (by omega),hyy];rfl
       rw[e,List.any_append,HNO.out];simp
      have HYES:Hid (ik y.key x.key=true→((l.take k).any fun z=>ik z.key x.key)=true):=by
       intro e
       refine List.any_eq_true.2 ⟨y,?_,e⟩
       rw[←hyy]
       exact List.mem_take_iff_getElem.2 ⟨j,by omega,rfl⟩
      rw[hyy] at p0 p1
      have hb3:Below W.heap.size W (wr.alloc (.cells #[.string y.key,.int .i64 y.val] 91)):=Below.alloc HB2.out HB2.out.size _
      have HB3:=hid hb3
      have HY3:=hid (HY2.out.alloc (.cells #[.string y.key,.int .i64 y.val] 91))
      have HZ:=hid (Loc.new wr #[.string y.key,.int .i64 y.val] 91)
      clear hcell hrow2 hb3 hyy hy
      cases he:(y.key.toList==x.key.toList) with
      | true=>
       have HT:Hid (dK [] l=true):=by show _=_;rw[HTW.out,HST.out,HYES.out he];rfl
       go_upto_region 7 with fail
       obtain⟨Z,hZ⟩:∃Z,Z=wr.heap.size:=⟨_,rfl⟩
       rw[←hZ] at HZ⊢
       clear hZ
       generalize wr.alloc (.cells #[.string y.key,.int .i64 y.val] 91)=W3 at HB3 HY3 HZ⊢
       have z0:=HZ.out.at_ 0 (.string y.key) rfl
       have y0:=HY3.out.at_ 0 (.string x.key) rfl
       clear p0 p1
       go_wp2_with fail
       refine bodyPost_ret (v:=.bool true) ?_ rfl ⟨by rw[HT.out],HB3.out⟩
       simp[results,Tryz.results159,go_sem]
      | false=>
       go_upto_region 7 with fail
       obtain⟨Z,hZ⟩:∃Z,Z=wr.heap.size:=⟨_,rfl⟩
       rw[←hZ] at HZ⊢
       clear hZ
       generalize wr.alloc (.cells #[.string y.key,.int .i64 y.val] 91)=W3 at HB3 HY3 HZ⊢
       have z0:=HZ.out.at_ 0 (.string y.key) rfl
       have y0:=HY3.out.at_ 0 (.string x.key) rfl
       clear p0 p1
       go_wp2_with fail
       go_roundg (gk - 1)
       case measure=>omega
       case rel=>exact⟨j+1,by simp,by omega,HB3.out,HY3.out,by rw[HNX.out];exact he⟩
     ·have hji:¬(j:Int)<(k:Int):=by omega
      have hj2:j=k:=by omega
      clear hrow2 hy
      go_wp2_with fail
      go_meet
      case rel=>exact⟨HB2.out,by have:=HNO.out;rw[hj2] at this;exact this⟩
   case rest=>
    obtain⟨hb2,hno⟩:=hcut
    have HB2:=hid hb2
    have HNO:=hid hno
    clear hb2 hno
    go_wp2_with fail
    go_roundg (gk - 1)
    case measure=>omega
    case rel=>exact⟨k+1,by simp,by omega,HB2.out,by rw[HTW.out,HST.out,HNO.out];rfl⟩
  ·have hki:¬(k:Int)<(l.length:Int):=by omega
   have hk2:k=l.length:=by omega
   have HF:Hid (dK [] l=false):=by show _=_;rw[HTW.out,hk2,List.drop_length];rfl
   go_wp2_with fail
   refine bodyPost_ret (v:=.bool false) ?_ rfl ⟨by rw[HF.out],HB.out⟩
   simp[results,Tryz.results159,go_sem]
end
section
open Go.RowKit
theorem Fj {B:Nat} {l:List aN} {ao:Option Addr} {c:Nat} {n:ByteArray} {W:World} (h:W.ownsRow B 85 5 (.slice ao l.length c) l.length (eU l)) (hn:l.length≤3000):
  Calls Tryz.prog 103 #[.slice ao l.length c,.string n] W fun e W'=>e=.returned (.bool (fl l n))∧Below W.heap.size W W':=by
 have HR:=hid h
 clear h
 go_enter Tryz.func103,Tryz.ntmps103
 go_wp2_with fail
 go_loopg [9] l.length (fun m iv w=>∃k:Nat,iv=.int .i64 (k:Int)∧k+m=l.length∧Below W.heap.size W w∧fl (l.take k) n=false)
 case atStart=>exact⟨0,rfl,by omega,Below.refl _ _,rfl⟩
 case round=>
  obtain⟨k,rfl,hk,hb,hno⟩:=hrel
  have HB:=hid hb
  have HNO:=hid hno
  have hrow:=bW HR.out (af hb none)
  clear hb hno
  by_cases hlt:k<l.length
  ·obtain⟨g,rfl,hcell⟩:=qv (l:=l) kN (fun _=>rfl) hrow hlt
   have p0:wr.cell? ⟨g,k*5,none⟩=some (.string l[k].name):=hcell 0 (by decide)
   have p1:wr.cell? ⟨g,k*5+1,none⟩=some (.string l[k].label):=hcell 1 (by decide)
   have p2:wr.cell? ⟨g,k*5+2,none⟩=some (.string l[k].type):=hcell 2 (by decide)
   have p3:wr.cell? ⟨g,k*5+3,none⟩=some (.int .i64 l[k].least):=hcell 3 (by decide)
   have p4:wr.cell? ⟨g,k*5+4,none⟩=some (.int .i64 l[k].bf):=hcell 4 (by decide)
   have hki:(k:Int)<(l.length:Int):=by omega
   have hnx:=AH (n:=n) hlt
   obtain⟨x,hx⟩:∃x,l[k]=x:=⟨_,rfl⟩
   have HH:Hid (ik x.name n=true→fl l n=true):=by intro e;exact Am hlt (by rw[hx];exact e)
   rw[hx] at p0 p1 p2 p3 p4 hnx
   have HNX:=hid hnx
   have HB3:Hid (Below W.heap.size W (wr.alloc (.cells #[.string x.name,.string x.label,.string x.type,.int .i64 x.least,.int .i64 x.bf] 85))):=Below.alloc HB.out HB.out.size _
   have HZ:=hid (Loc.new wr #[.string x.name,.string x.label,.string x.type,.int .i64 x.least,.int .i64 x.bf] 85)
   clear hcell hx hrow hnx
   cases he:(x.name.toList==n.toList) with
   | true=>
    go_upto_region 4 with fail
    obtain⟨Z,hZ⟩:∃Z,Z=wr.heap.size:=⟨_,rfl⟩
    rw[←hZ] at HZ⊢
    clear hZ
    generalize wr.alloc (.cells #[.string x.name,.string x.label,.string x.type,.int .i64 x.least,.int .i64 x.bf] 85)=W3 at HB3 HZ⊢
    have z0:=HZ.out.at_ 0 (.string x.name) rfl
    clear p0 p1 p2 p3 p4
    go_wp2_with fail
    refine bodyPost_ret (v:=.bool true) ?_ rfl ⟨by rw[HH.out he],HB3.out⟩
    simp[results,Tryz.results103,go_sem]
   | false=>
    go_upto_region 4 with fail
    obtain⟨Z,hZ⟩:∃Z,Z=wr.heap.size:=⟨_,rfl⟩
    rw[←hZ] at HZ⊢
    clear hZ
    generalize wr.alloc (.cells #[.string x.name,.string x.label,.string x.type,.int .i64 x.least,.int .i64 x.bf] 85)=W3 at HB3 HZ⊢
    have z0:=HZ.out.at_ 0 (.string x.name) rfl
    clear p0 p1 p2 p3 p4
    go_wp2_with fail
    go_roundg (gk - 1)
    case measure=>omega
    case rel=>exact⟨k+1,by simp,by omega,HB3.out,by rw[HNX.out,HNO.out];exact he⟩
  ·have hki:¬(k:Int)<(l.length:Int):=by omega
   have hk2:k=l.length:=by omega
   have HF:Hid (fl l n=false):=by have:=HNO.out;rw[hk2,List.take_length] at this;exact this
   go_wp2_with fail
   refine bodyPost_ret (v:=.bool false) ?_ rfl ⟨by rw[HF.out],HB.out⟩
   simp[results,Tryz.results103,go_sem]
end
section
open Go.RowKit
theorem Loc.range {w:World} {b:Nat} {cs:Array Value} {T:TypeId} (h:Loc w b cs T):w.rangeAt b 0 cs.toList:=fun j v hv=>by
 rw[Nat.zero_add,h.cell j];simpa using hv
theorem Loc.there {w:World} {b:Nat} {cs:Array Value} {T:TypeId} (h:Loc w b cs T):w.there b 0 cs.size:=fun j hj=>by
 rw[Nat.zero_add,h.cell j]
 exact⟨by simp[hj],h.free j⟩
theorem Loc.setMany {X:Nat} {T:TypeId}:∀(l:List Value) (o:Nat) (w:World) (cs:Array Value),Loc w X cs T→o+l.length≤cs.size→Loc (w.setCells X o l) X (cs.toList.take o++l++cs.toList.drop (o+l.length)).toArray T
 | [],o,w,cs,h,_=>by simpa [World.setCells] using h
 | v::r,o,w,cs,h,hl=>by
  rw[World.setCells]
  have h1:=Loc.setMany r (o+1) _ _ (h.set o v) (by simp only[List.length_cons] at hl;simp;omega)
  have ho:o<cs.toList.length:=by simp only[List.length_cons] at hl;simp;omega
  have e:(cs.setIfInBounds o v).toList=cs.toList.set o v:=by simp
  rw[e] at h1
  have e1:(cs.toList.set o v).take (o+1)=cs.toList.take o++[v]:=by
   rw[List.take_add_one,List.take_set_of_le (Nat.le_refl _),List.getElem?_set_self ho];rfl
  have e2:(cs.toList.set o v).drop (o+1+r.length)=cs.toList.drop (o+(v::r).length):=by
   rw[List.drop_set_of_lt (by omega)]
   congr 1
   simp only[List.length_cons];omega
  rw[e1,e2] at h1
  simpa using h1
theorem Loc.dh {w:World} {X:Nat} {cs new:Array Value} {T:TypeId} (h:Loc w X cs T) (hs:new.size=cs.size):Loc (w.setCells X 0 new.toList) X new T:=by
 have h1:=Loc.setMany new.toList 0 w cs h (by simp[hs])
 have e:(cs.toList.take 0++new.toList++cs.toList.drop (0+new.toList.length)).toArray=new:=by
  have:cs.toList.drop (0+new.toList.length)=[]:=List.drop_eq_nil_of_le (by simp[hs])
  rw[this];simp
 rw[e] at h1
 exact h1
theorem aS (X:Nat):∀(l:List Value) (o:Nat) (w:World),w.grownBy (w.setCells X o l) (some X)
 | [],o,w=>by simpa [World.setCells] using ku w (some X)
 | v::r,o,w=>by rw[World.setCells];exact aB (aC w X o v) (aS X r (o+1) _)
theorem Tryz.aX:(Tryz.prog.info? 29).map (·.size)=some 17:=by kernel_rfl
theorem nh (q:au) {a1 a2 a3 a4:Option Addr} {n1 n2 n3 n4 k1 k2 k3 k4:Nat}:(qC q (.slice a1 n1 k1) (.slice a2 n2 k2) (.slice a3 n3 k3) (.slice a4 n4 k4)).all (·.oneCell')=true:=by
 simp[qC,Value.oneCell']
theorem Gz:(zq).all (·.oneCell')=true:=by simp[Value.oneCell']
theorem jr {ops:Array Oper} {rest:List Oper} {op:Oper} {a:Act} {w:World} {Q:Exit→Act→World→Prop} (hgd:op.guard=none) (ho:op.op=.build 29 #[]) (h:wpList Tryz.prog ops Q rest (a.put op.dst (.agg zq)) w):wpList Tryz.prog ops Q (op::rest) a w:=
 wpList_plain hgd fun _ hK=>by
  unfold Oper.wp execOp
  simp only[ho]
  go_simp
  exact hK _ _ h
theorem iF {P:Program} {ops:Array Oper} {rest:List Oper} {op:Oper} {a:Act} {w:World} {Q:Exit→Act→World→Prop} {x:Operand} (hgd:op.guard=none) (ho:op.op=.move x) (h:wpList P ops Q rest (a.put op.dst (a.eval x)) w):wpList P ops Q (op::rest) a w:=
 wpList_plain hgd fun _ hK=>by
  unfold Oper.wp execOp
  simp only[ho]
  exact hK _ _ h
theorem pv {fn:Func} {tmps:Array Value} {w:World} {X c d:Nat} {cs:Array Value} {e:Int} (hr:fn.results=#[.cell c 29,.tmp d]) (hc:tmps[c]?.getD undef=.pointer (some ⟨X,0,none⟩)) (hd:tmps[d]?.getD undef=.int .i64 e) (hL:Loc w X cs 29) (hs:cs.size=17):
  (results fn tmps).run Tryz.prog w=.ok (.tuple #[.agg cs,.int .i64 e]) w:=by
 have hl:=run_loadVar_mid (P:=Tryz.prog) w X 0 29 cs.toList _ hL.range Tryz.underlying29 rfl (by rw[Tryz.aX];simp[hs])
 unfold results
 rw[hr]
 simp[hc,hd,hl,asAddr]
end
section
open Go.RowKit
theorem rR {fn:Func} {tmps:Array Value} {w:World} {X c:Nat} {cs:Array Value} (hr:fn.results=#[.cell c 29]) (hc:tmps[c]?.getD undef=.pointer (some ⟨X,0,none⟩)) (hL:Loc w X cs 29) (hs:cs.size=17):
  (results fn tmps).run Tryz.prog w=.ok (.agg cs) w:=by
 have hl:=run_loadVar_mid (P:=Tryz.prog) w X 0 29 cs.toList _ hL.range Tryz.underlying29 rfl (by rw[Tryz.aX];simp[hs])
 unfold results
 rw[hr]
 simp[hc,hl,asAddr]
theorem mf {a w w2:World} {b X:Nat} (h:a.grownBy w (some b)) (g:w.grownBy w2 (some X)) (hX:a.heap.size≤X):a.grownBy w2 (some b):=
 ⟨g.os.trans h.os,g.tape.trans h.tape,g.output.trans h.output,Nat.le_trans h.size g.size,fun k hk hne=>(g.block k (Nat.lt_of_lt_of_le hk h.size) (by intro e;injection e with e;omega)).trans (h.block k hk hne)⟩
theorem sO {α:Type} {one:RS→α × RS} {sep:ByteArray} (n:Nat):∀(out:List α) (st:RS),(bz one sep n out st).1.length≤out.length+n:=by
 induction n with
 | zero=>intro out st;exact Nat.le_refl _
 | succ n ih=>
  intro out st
  simp only[bz]
  split
  ·have:=ih (out++[(one (ag sep st)).1]) (one (ag sep st)).2
   rw[List.length_append] at this
   simp only[List.length_singleton] at this
   omega
  ·simp only;omega
theorem wm {sep:ByteArray} {st:RS} (h:st.rest.length≤2000):(eO fu sep 6 st).1.length≤3000:=by
 have h1:=sO (one:=fu) (sep:=sep) (fu st).2.rest.length [(fu st).1] (fu st).2
 have h2:=Pure.nX st
 unfold eO
 simp only[List.length_singleton] at h1⊢
 omega
theorem CQ {b G:Nat} {st:RS} {W:World} (h:PI b G st W) (hl:st.rest.length≤2000):
  Calls Tryz.prog 96 #[.pointer (some ⟨b,0,none⟩)] W fun e W'=>∃vp,e=.returned (.agg (qC {aF with kind:=5,label:=(bG st).1.1,ay:=(bG st).1.2} (.slice none 0 0) (.slice none 0 0) (.slice none 0 0) vp))∧W'.ownsRow W.heap.size 91 2 vp (bG st).1.2.length (fB (bG st).1.2)∧PI b G (bG st).2 W'∧W.grownBy W' (some b):=by
 have g0:=ar W (.cells zq 29) none
 have HP:=hid (h.quiet g0)
 have HL0:=hid (Loc.new W zq 29)
 have HG0:=hid (ar W (.cells zq 29) (some b))
 have hsz:=size_alloc W (.cells zq 29)
 have hbw:b<W.heap.size:=by obtain⟨_,_,hb,_⟩:=h.box;exact hb.lt
 have hgw:=h.xU.2
 have hl1:=Pure.ew bE st
 obtain⟨tl,s1,ht⟩:∃t az,cN (aD bE st)=(t,az):=⟨_,_,rfl⟩
 have hl2:=Pure.oR (aD bE st)
 rw[ht] at hl2
 have HT:=hid ht
 clear g0 h ht
 go_enter Tryz.func96,Tryz.ntmps96
 go_wp2_with fail
 obtain⟨X0,hX0⟩:∃X0,X0=W.heap.size:=⟨_,rfl⟩
 rw[←hX0] at HL0⊢
 have hXW:W.heap.size≤X0:=by omega
 have HX0:Hid (X0≠b∧X0≠G):=by show _∧_;omega
 have hXZ:X0<(W.alloc (.cells zq 29)).heap.size:=by omega
 clear hX0
 generalize W.alloc (.cells zq 29)=Wz at HP HL0 HG0 hsz hXZ⊢
 refine(dA HP.out bE).mono ?_
 rintro e W1 ⟨rfl,h1,g1⟩
 have H1:=hid h1
 have G1:=hid g1
 clear h1 g1 HP
 go_wp2_with fail
 refine(rN H1.out HT.out).mono ?_
 rintro e W2 ⟨rfl,h2,g2⟩
 have g12:=aB G1.out g2
 have hs2:=g12.size
 have H2:Hid (PQ Wz b G s1 W2.heap.size {aF with kind:=5,label:=tl,ay:=[]} (.slice none 0 0) (.slice none 0 0) (.slice none 0 0) (.slice none 0 0) (W2.alloc (.cells #[.int .i64 5,.slice none 0 0,.slice none 0 0,.slice none 0 0,.int .i64 0,.bool false,.int .i64 0,.int .i64 0,.string ⟨#[]⟩,.string ⟨#[]⟩,.string ⟨#[]⟩,.string ⟨#[]⟩,.int .i64 0,.string ⟨#[]⟩,.string ⟨#[]⟩,.string tl,.slice none 0 0] 29))):=
  ⟨h2.quiet (ar W2 _ none),Loc.new W2 _ _,hs2,aB g12 (ar W2 _ _),⟨World.ownsRow_nil _ _ _ _,World.ownsRow_nil _ _ _ _,World.ownsRow_nil _ _ _ _,World.ownsRow_nil _ _ _ _⟩,by omega,by omega⟩
 clear h2 g2 g12 H1 G1
 go_wp2_with fail
 obtain⟨x,hx⟩:∃x,x=W2.heap.size:=⟨_,rfl⟩
 rw[←hx] at H2⊢
 clear hx
 generalize W2.alloc (.cells #[.int .i64 5,.slice none 0 0,.slice none 0 0,.slice none 0 0,.int .i64 0,.bool false,.int .i64 0,.int .i64 0,.string ⟨#[]⟩,.string ⟨#[]⟩,.string ⟨#[]⟩,.string ⟨#[]⟩,.int .i64 0,.string ⟨#[]⟩,.string ⟨#[]⟩,.string tl,.slice none 0 0] 29)=W3 at H2⊢
 obtain⟨m,hm⟩:∃m,aE cP s1=m:=⟨_,rfl⟩
 have HM:=hid hm
 clear hm hs2
 refine(aL H2.out.p cP m HM.out).mono ?_
 rintro e W4 ⟨rfl,h4,g4⟩
 have H4:=hid (H2.out.call h4 g4)
 clear h4 g4 H2
 go_upto_if 10 with fail
 go_cut [] (fun w=>∃l u vp,PQ Wz b G u x {aF with kind:=5,label:=tl,ay:=l} (.slice none 0 0) (.slice none 0 0) (.slice none 0 0) vp w∧(if m then eO fu aK 6 (ag cP s1) else ([],s1)).1=l∧(if m then aD gG (eO fu aK 6 (ag cP s1)).2 else s1)=u∧l.length≤3000)
 case first=>
  cases m with
  | false=>
   go_wp2_with fail
   go_meet
   case rel=>exact⟨[],s1,(.slice none 0 0),by have h:=H4.out;rw[show ag cP s1=s1 by unfold ag;rw[HM.out];rfl] at h;exact h,rfl,rfl,by simp⟩
  | true=>
   obtain⟨l,s2,hn⟩:∃l az,eO fu aK 6 (ag cP s1)=(l,az):=⟨_,_,rfl⟩
   have HN:=hid hn
   have hl3:=Pure.cK cP s1
   clear hn
   go_wp2_with fail
   refine(Fs H4.out.p (by omega) HN.out).mono ?_
   rintro e W5 ⟨v0,rfl,ho,h5,g5⟩
   obtain⟨ao,ca,rfl,hca⟩:=aU (l:=l) ho
   have hlen:=wm (sep:=aK) (st:=ag cP s1) (by omega)
   rw[HN.out] at hlen
   have Ha:=H4.out.call h5 g5
   have c16:=Ha.lx.at_ 16 (.slice none 0 0) rfl
   have f16:W5.frozen? ⟨x,16,none⟩=false:=Ha.lx.free 16
   have H5:=hid (H4.out.ay h5 g5 ho)
   clear Ha ho h5 g5 H4
   go_wp2_with fail
   generalize W5.setCell ⟨x,16,none⟩ (.slice ao l.length ca)=W6 at H5⊢
   clear c16 f16
   refine(dA H5.out.p gG).mono ?_
   rintro e W7 ⟨rfl,h7,g7⟩
   have H7:=hid (H5.out.call h7 g7)
   clear h7 g7 H5
   go_wp2_with fail
   go_meet
   case rel=>exact⟨l,_,_,H7.out,by rw[HN.out];rfl,by rw[HN.out];rfl,hlen⟩
 case rest=>
  clear H4
  obtain⟨l,u,vp,hq,e1,e2,hlen⟩:=hcut
  obtain⟨pa,pc,rfl,hpc⟩:=aU (l:=l) hq.rows.rp
  have H5:=hid hq
  have HC0:Hid (bG st=((tl,l),if dK [] l then dv else aD bA u)):=by
   show _=_
   unfold bG
   simp only[HT.out,HM.out]
   rw[←e1,←e2]
   cases m<;>rfl
  clear hq e1 e2
  go_wp2_with fail
  refine(dA H5.out.p bA).mono ?_
  rintro e W6 ⟨rfl,h6,g6⟩
  have H6:=hid (H5.out.call h6 g6)
  clear h6 g6 H5
  have c16:=H6.out.lx.at_ 16 (.slice pa l.length pc) rfl
  go_wp2_with fail
  refine(wg H6.out.rows.rp hlen hpc).mono ?_
  rintro e W7 ⟨rfl,hb7⟩
  have H7:=hid (H6.out.call (H6.out.p.quiet (af hb7 none)) (af hb7 _))
  clear hb7 H6 c16
  cases htw:dK [] l with
  | false=>
   have HC:Hid (bG st=((tl,l),aD bA u)):=by show _=_;rw[HC0.out,htw];rfl
   have HLE:Hid (Loc W7 X0 zq 29):=HL0.out.grown H7.out.grown (by intro e;injection e with e;exact HX0.out.1 e)
   clear htw
   go_upto_region 9 with fail
   refine wp_region_lit ?_
   refine wpList_load_mid rfl 29 _ rfl x 0 rfl (qC {aF with kind:=5,label:=tl,ay:=l} (.slice none 0 0) (.slice none 0 0) (.slice none 0 0) (.slice pa l.length pc)).toList _ H7.out.lx.range Tryz.underlying29 rfl (by rw[Tryz.aX];rfl) ?_
   refine wpList_store_mid rfl 29 _ _ rfl X0 0 (qC {aF with kind:=5,label:=tl,ay:=l} (.slice none 0 0) (.slice none 0 0) (.slice none 0 0) (.slice pa l.length pc)) rfl rfl HLE.out.there Tryz.aX (nh _) ?_
   have hF:Loc (W7.setCells X0 0 (qC {aF with kind:=5,label:=tl,ay:=l} (.slice none 0 0) (.slice none 0 0) (.slice none 0 0) (.slice pa l.length pc)).toList) X0 (qC {aF with kind:=5,label:=tl,ay:=l} (.slice none 0 0) (.slice none 0 0) (.slice none 0 0) (.slice pa l.length pc)) 29:=HLE.out.dh rfl
   have hG:=aS X0 (qC {aF with kind:=5,label:=tl,ay:=l} (.slice none 0 0) (.slice none 0 0) (.slice none 0 0) (.slice pa l.length pc)).toList 0 W7
   have hP:PI b G (aD bA u) (W7.setCells X0 0 (qC {aF with kind:=5,label:=tl,ay:=l} (.slice none 0 0) (.slice none 0 0) (.slice none 0 0) (.slice pa l.length pc)).toList):=H7.out.p.kept hG (by intro e;injection e with e;exact HX0.out.1 e.symm) (by intro e;injection e with e;exact HX0.out.2 e.symm)
   have hRow:=H7.out.rows.rp.kept hG (Or.inr (aQ H7.out.rows.rp HLE.out (by decide)))
   have hGG:W.grownBy (W7.setCells X0 0 (qC {aF with kind:=5,label:=tl,ay:=l} (.slice none 0 0) (.slice none 0 0) (.slice none 0 0) (.slice pa l.length pc)).toList) (some b):=mf (aB HG0.out H7.out.grown) hG hXW
   obtain⟨WF,hWF⟩:∃WF,W7.setCells X0 0 (qC {aF with kind:=5,label:=tl,ay:=l} (.slice none 0 0) (.slice none 0 0) (.slice none 0 0) (.slice pa l.length pc)).toList=WF:=⟨_,rfl⟩
   rw[hWF] at hF hP hRow hGG⊢
   clear hWF hG
   go_wp2_with fail
   refine bodyPost_ret (v:=.agg (qC {aF with kind:=5,label:=tl,ay:=l} (.slice none 0 0) (.slice none 0 0) (.slice none 0 0) (.slice pa l.length pc))) ?_ rfl ⟨.slice pa l.length pc,?_,?_,?_,hGG⟩
   ·exact rR Tryz.results96 rfl hF rfl
   ·rw[HC.out]
   ·rw[HC.out];exact bQ hRow (by omega)
   ·rw[HC.out];exact hP
  | true=>
   have HC:Hid (bG st=((tl,l),dv)):=by show _=_;rw[HC0.out,htw];rfl
   clear htw
   go_wp2_with fail
   refine(nk H7.out.p).mono ?_
   rintro e W8 ⟨rfl,h8,g8⟩
   have H8:=hid (H7.out.call h8 g8)
   clear h8 g8 H7
   have HLE:Hid (Loc W8 X0 zq 29):=HL0.out.grown H8.out.grown (by intro e;injection e with e;exact HX0.out.1 e)
   go_upto_region 9 with fail
   refine wp_region_lit ?_
   refine wpList_load_mid rfl 29 _ rfl x 0 rfl (qC {aF with kind:=5,label:=tl,ay:=l} (.slice none 0 0) (.slice none 0 0) (.slice none 0 0) (.slice pa l.length pc)).toList _ H8.out.lx.range Tryz.underlying29 rfl (by rw[Tryz.aX];rfl) ?_
   refine wpList_store_mid rfl 29 _ _ rfl X0 0 (qC {aF with kind:=5,label:=tl,ay:=l} (.slice none 0 0) (.slice none 0 0) (.slice none 0 0) (.slice pa l.length pc)) rfl rfl HLE.out.there Tryz.aX (nh _) ?_
   have hF:Loc (W8.setCells X0 0 (qC {aF with kind:=5,label:=tl,ay:=l} (.slice none 0 0) (.slice none 0 0) (.slice none 0 0) (.slice pa l.length pc)).toList) X0 (qC {aF with kind:=5,label:=tl,ay:=l} (.slice none 0 0) (.slice none 0 0) (.slice none 0 0) (.slice pa l.length pc)) 29:=HLE.out.dh rfl
   have hG:=aS X0 (qC {aF with kind:=5,label:=tl,ay:=l} (.slice none 0 0) (.slice none 0 0) (.slice none 0 0) (.slice pa l.length pc)).toList 0 W8
   have hP:PI b G dv (W8.setCells X0 0 (qC {aF with kind:=5,label:=tl,ay:=l} (.slice none 0 0) (.slice none 0 0) (.slice none 0 0) (.slice pa l.length pc)).toList):=H8.out.p.kept hG (by intro e;injection e with e;exact HX0.out.1 e.symm) (by intro e;injection e with e;exact HX0.out.2 e.symm)
   have hRow:=H8.out.rows.rp.kept hG (Or.inr (aQ H8.out.rows.rp HLE.out (by decide)))
   have hGG:W.grownBy (W8.setCells X0 0 (qC {aF with kind:=5,label:=tl,ay:=l} (.slice none 0 0) (.slice none 0 0) (.slice none 0 0) (.slice pa l.length pc)).toList) (some b):=mf (aB HG0.out H8.out.grown) hG hXW
   obtain⟨WF,hWF⟩:∃WF,W8.setCells X0 0 (qC {aF with kind:=5,label:=tl,ay:=l} (.slice none 0 0) (.slice none 0 0) (.slice none 0 0) (.slice pa l.length pc)).toList=WF:=⟨_,rfl⟩
   rw[hWF] at hF hP hRow hGG⊢
   clear hWF hG
   go_wp2_with fail
   refine bodyPost_ret (v:=.agg (qC {aF with kind:=5,label:=tl,ay:=l} (.slice none 0 0) (.slice none 0 0) (.slice none 0 0) (.slice pa l.length pc))) ?_ rfl ⟨.slice pa l.length pc,?_,?_,?_,hGG⟩
   ·exact rR Tryz.results96 rfl hF rfl
   ·rw[HC.out]
   ·rw[HC.out];exact bQ hRow (by omega)
   ·rw[HC.out];exact hP
end
end Go.Proofs.YtobgbmfpicmpcaaGreatDoor
