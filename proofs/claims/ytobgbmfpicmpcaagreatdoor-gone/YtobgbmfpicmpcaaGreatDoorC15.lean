/- The program's scope: the variables that a query uses. -/
import Derived.Test.YtobgbmfpicmpcaaGreatDoorC14
import Derived.Deep.Onto
import Derived.Test.YtobgbmfpicmpcaaGreatDoorC05
import Derived.Lib.Hide
set_option maxRecDepth 100000
set_option maxHeartbeats 8000000
namespace Go.Proofs.YtobgbmfpicmpcaaGreatDoor
open Go.Lib (hid)
section
open Go.RowKit
theorem Kh {B:Nat} {q:au} {vs vc vi vp:Value} {W:World} (hrs:W.ownsRow B 85 5 vs q.ai.length (eU q.ai)) (hrc:W.ownsRow B 87 7 vc q.conds.length (eT q.conds)) (hrt:W.ownsRow B 89 2 vi q.items.length (eR q.items)) (hl2:q.conds.length≤3000) (hl3:q.items.length≤3000):
  Calls Tryz.prog 102 #[.agg (qC q vs vc vi vp)] W fun e W'=>∃v,e=.returned v∧W'.ownsRow W.heap.size 9 1 v (lM q).length (strs (lM q))∧(lM q).length≤9003∧Below W.heap.size W W':=by
 obtain⟨i1,hj,hy0,hy1,hy2⟩:=info_parts Tryz.tN
 obtain⟨aos,cas,rfl,hcas⟩:=aU (l:=q.ai) hrs
 obtain⟨aoc,cac,rfl,hcac⟩:=aU (l:=q.conds) hrc
 obtain⟨aoi,cai,rfl,hcai⟩:=aU (l:=q.items) hrt
 have g0:=ar W (.cells (qC q (.slice aos q.ai.length cas) (.slice aoc q.conds.length cac) (.slice aoi q.items.length cai) vp) 29) none
 have H0:Hid (uM W B W.heap.size (qC q (.slice aos q.ai.length cas) (.slice aoc q.conds.length cac) (.slice aoi q.items.length cai) vp) q (.slice aos q.ai.length cas) (.slice aoc q.conds.length cac) (.slice aoi q.items.length cai) (.slice none 0 0) [] (W.alloc (.cells (qC q (.slice aos q.ai.length cas) (.slice aoc q.conds.length cac) (.slice aoi q.items.length cai) vp) 29))):=
  ⟨Below.alloc (Below.refl _ _) (Nat.le_refl _) _,Loc.new W _ _,Nat.le_refl _,bW hrs g0,bW hrc g0,bW hrt g0,World.ownsRow_nil _ _ _ _⟩
 clear hrs hrc hrt g0
 go_enter Tryz.func102,Tryz.ntmps102
 go_upto_region 2 with fail
 obtain⟨X,hX⟩:∃X,X=W.heap.size:=⟨_,rfl⟩
 rw[←hX] at H0⊢
 generalize W.alloc (.cells (qC q (.slice aos q.ai.length cas) (.slice aoc q.conds.length cac) (.slice aoi q.items.length cai) vp) 29)=W1 at H0⊢
 have hXW:W.heap.size≤X:=by omega
 clear hX
 have c2:=H0.out.lq.at_ 2 (.slice aoc q.conds.length cac) rfl
 go_upto_block 0 with fail
 clear c2
 go_cut [3] (fun v w=>uM W B X (qC q (.slice aos q.ai.length cas) (.slice aoc q.conds.length cac) (.slice aoi q.items.length cai) vp) q (.slice aos q.ai.length cas) (.slice aoc q.conds.length cac) (.slice aoi q.items.length cai) v (fF q.conds) w)
 case first=>
  go_wp2_with fail
  go_loopg [3,11] q.conds.length (fun m v iv w=>∃k:Nat,iv=.int .i64 (k:Int)∧k+m=q.conds.length∧uM W B X (qC q (.slice aos q.ai.length cas) (.slice aoc q.conds.length cac) (.slice aoi q.items.length cai) vp) q (.slice aos q.ai.length cas) (.slice aoc q.conds.length cac) (.slice aoi q.items.length cai) v (fF (q.conds.take k)) w)
  case atStart=>exact⟨0,rfl,by omega,H0.out⟩
  case round=>
   obtain⟨k,rfl,hk,hq⟩:=hrel
   have HQ:=hid hq
   clear H0
   by_cases hlt:k<q.conds.length
   ·obtain⟨g,rfl,hcell⟩:=qv (l:=q.conds) kk (fun _=>rfl) hq.rc hlt
    obtain⟨y,hy⟩:∃y,q.conds[k]=y:=⟨_,rfl⟩
    rw[hy] at hcell
    have p0:wr.cell? ⟨g,k*7,none⟩=some (.int .i64 y.op):=hcell 0 (by decide)
    have p1:wr.cell? ⟨g,k*7+1,none⟩=some (.string y.a.name):=hcell 1 (by decide)
    have p2:wr.cell? ⟨g,k*7+2,none⟩=some (.string y.a.key):=hcell 2 (by decide)
    have p3:wr.cell? ⟨g,k*7+3,none⟩=some (.int .i64 y.a.val):=hcell 3 (by decide)
    have p4:wr.cell? ⟨g,k*7+4,none⟩=some (.string y.b.name):=hcell 4 (by decide)
    have p5:wr.cell? ⟨g,k*7+5,none⟩=some (.string y.b.key):=hcell 5 (by decide)
    have p6:wr.cell? ⟨g,k*7+6,none⟩=some (.int .i64 y.b.val):=hcell 6 (by decide)
    have hki:(k:Int)<(q.conds.length:Int):=by omega
    have HNX:Hid (fF (q.conds.take (k+1))=fF (q.conds.take k)++[y.a.name,y.b.name]):=by show _=_;rw[tK hlt,hy]
    have hnl:=oM (q.conds.take k)
    rw[List.length_take_of_le (by omega)] at hnl
    obtain⟨ns,hns⟩:∃ns,fF (q.conds.take k)=ns:=⟨_,rfl⟩
    rw[hns] at HQ HNX hnl
    have hnb:ns.length≤6000:=by omega
    have HZ:=hid (Loc.new wr #[.int .i64 y.op,.string y.a.name,.string y.a.key,.int .i64 y.a.val,.string y.b.name,.string y.b.key,.int .i64 y.b.val] 87)
    have H2:=hid (HQ.out.alloc (.cells #[.int .i64 y.op,.string y.a.name,.string y.a.key,.int .i64 y.a.val,.string y.b.name,.string y.b.key,.int .i64 y.b.val] 87))
    clear hns hlt hnl hcell hy hq HQ
    go_upto_region 5 with fail
    obtain⟨Z,hZ⟩:∃Z,Z=wr.heap.size:=⟨_,rfl⟩
    rw[←hZ] at HZ⊢
    clear hZ
    generalize wr.alloc (.cells #[.int .i64 y.op,.string y.a.name,.string y.a.key,.int .i64 y.a.val,.string y.b.name,.string y.b.key,.int .i64 y.b.val] 87)=W3 at HZ H2⊢
    clear p0 p1 p2 p3 p4 p5 p6
    have z1:=HZ.out.at_ 1 (.string y.a.name) rfl
    have z4:=HZ.out.at_ 4 (.string y.b.name) rfl
    have HD:=hid (H2.out.alloc (.cells #[.string y.a.name,.string y.b.name] 9))
    go_wp2_with (at_builtin;go_must (refine wpList_append_lies _ rfl _ _ 56 rfl W.heap.size 9 i1 (.string ⟨#[]⟩) 1 16 Tryz.underlying56 hj hy0 hy1 hy2 rfl (by decide) u3 _ _ rfl HD.out.rl _ 2 2 [.string y.a.name,.string y.b.name] rfl rfl (World.news_of_block (heap_alloc_new W3 _)) wV (by omega) (by unfold maxLen;omega) (by omega) HD.out.low.size _ rfl ?_;intro g2 cap2 w5 hown hgrow _ _;have H5:=hid (HD.out.more (l:=[y.a.name,y.b.name]) hgrow (by rw[nz,List.length_append];exact hown));clear hown hgrow))
    go_roundg (gk - 1)
    case measure=>omega
    case rel=>exact⟨k+1,by simp,by omega,by rw[HNX.out];exact H5.out⟩
   ·have hki:¬(k:Int)<(q.conds.length:Int):=by omega
    have hk2:k=q.conds.length:=by omega
    clear hq
    go_wp2_with fail
    go_meet
    case rel=>
     rw[hk2,List.take_length] at HQ
     exact HQ.out
 case rest=>
  clear H0
  have H1:=hid hcut
  have hn0:=oM q.conds
  obtain⟨n0,hns0⟩:∃n0,fF q.conds=n0:=⟨_,rfl⟩
  rw[hns0] at H1 hn0
  have HN0:=hid hns0
  have hn0b:n0.length≤6000:=by omega
  clear hcut hns0 hn0
  have c3:=H1.out.lq.at_ 3 (.slice aoi q.items.length cai) rfl
  go_upto_block 2 with fail
  clear c3
  go_cut [3] (fun v w=>uM W B X (qC q (.slice aos q.ai.length cas) (.slice aoc q.conds.length cac) (.slice aoi q.items.length cai) vp) q (.slice aos q.ai.length cas) (.slice aoc q.conds.length cac) (.slice aoi q.items.length cai) v (n0++dS q.items) w)
  case first=>
   go_wp2_with fail
   go_loopg [3,28] q.items.length (fun m v iv w=>∃k:Nat,iv=.int .i64 (k:Int)∧k+m=q.items.length∧uM W B X (qC q (.slice aos q.ai.length cas) (.slice aoc q.conds.length cac) (.slice aoi q.items.length cai) vp) q (.slice aos q.ai.length cas) (.slice aoc q.conds.length cac) (.slice aoi q.items.length cai) v (n0++dS (q.items.take k)) w)
   case atStart=>exact⟨0,rfl,by omega,by rw[show dS (q.items.take 0)=[] from rfl,List.append_nil];exact H1.out⟩
   case round=>
    obtain⟨k,rfl,hk,hq⟩:=hrel
    have HQ:=hid hq
    clear H1
    by_cases hlt:k<q.items.length
    ·obtain⟨g,rfl,hcell⟩:=qv (l:=q.items) mT (fun _=>rfl) hq.rt hlt
     obtain⟨y,hy⟩:∃y,q.items[k]=y:=⟨_,rfl⟩
     rw[hy] at hcell
     have p0:wr.cell? ⟨g,k*2,none⟩=some (.string y.name):=hcell 0 (by decide)
     have p1:wr.cell? ⟨g,k*2+1,none⟩=some (.string y.key):=hcell 1 (by decide)
     have hki:(k:Int)<(q.items.length:Int):=by omega
     have HNX:Hid (n0++dS (q.items.take (k+1))=(n0++dS (q.items.take k))++[y.name]):=by show _=_;rw[tP hlt,hy,List.append_assoc]
     have hnl:=oI (q.items.take k)
     rw[List.length_take_of_le (by omega)] at hnl
     have hnb:(n0++dS (q.items.take k)).length≤9000:=by rw[List.length_append];omega
     obtain⟨ns,hns⟩:∃ns,n0++dS (q.items.take k)=ns:=⟨_,rfl⟩
     rw[hns] at HQ HNX hnb
     have HZ:=hid (Loc.new wr #[.string y.name,.string y.key] 89)
     have H2:=hid (HQ.out.alloc (.cells #[.string y.name,.string y.key] 89))
     clear hns hlt hnl hcell hy hq HQ
     go_upto_region 10 with fail
     obtain⟨Z,hZ⟩:∃Z,Z=wr.heap.size:=⟨_,rfl⟩
     rw[←hZ] at HZ⊢
     clear hZ
     generalize wr.alloc (.cells #[.string y.name,.string y.key] 89)=W3 at HZ H2⊢
     clear p0 p1
     have z0:=HZ.out.at_ 0 (.string y.name) rfl
     have HD:=hid (H2.out.alloc (.cells #[.string y.name] 9))
     go_wp2_with (at_builtin;go_must (refine wpList_append_lies _ rfl _ _ 56 rfl W.heap.size 9 i1 (.string ⟨#[]⟩) 1 16 Tryz.underlying56 hj hy0 hy1 hy2 rfl (by decide) u3 _ _ rfl HD.out.rl _ 1 1 [.string y.name] rfl rfl (World.news_of_block (heap_alloc_new W3 _)) Hq (by omega) (by unfold maxLen;omega) (by omega) HD.out.low.size _ rfl ?_;intro g2 cap2 w5 hown hgrow _ _;have H5:=hid (HD.out.more (l:=[y.name]) hgrow (by rw[nz,List.length_append];exact hown));clear hown hgrow))
     go_roundg (gk - 1)
     case measure=>omega
     case rel=>exact⟨k+1,by simp,by omega,by rw[HNX.out];exact H5.out⟩
    ·have hki:¬(k:Int)<(q.items.length:Int):=by omega
     have hk2:k=q.items.length:=by omega
     clear hq
     go_wp2_with fail
     go_meet
     case rel=>
      rw[hk2,List.take_length] at HQ
      exact HQ.out
  case rest=>
   clear H1
   have hn1:=oI q.items
   have H2:=hid hcut
   have hn1b:(n0++dS q.items).length≤9000:=by rw[List.length_append];omega
   obtain⟨n1,hns1⟩:∃n1,n0++dS q.items=n1:=⟨_,rfl⟩
   rw[hns1] at H2 hn1b
   have HU:Hid (lM q=n1++(if q.kind≠6 then [q.name,q.dest] else [])):=by
    show _=_
    unfold lM
    rw[←hns1,←HN0.out]
    rfl
   clear hcut hns1 hn1
   obtain⟨pa,pc,hu⟩:∃ao cap,u3=.slice ao n1.length cap:=by
    obtain⟨ao,cap,e,_⟩:=aU (l:=n1) H2.out.rl
    exact⟨ao,cap,e⟩
   subst hu
   have c0:=H2.out.lq.at_ 0 (.int .i64 q.kind) rfl
   by_cases h6:q.kind=6
   ·have HE:Hid (lM q=n1):=by show _=_;rw[HU.out,if_neg (by simp[h6])];exact List.append_nil _
    go_wp2_with fail
    refine bodyPost_ret (v:=.slice pa n1.length pc) ?_ rfl ⟨_,rfl,by rw[HE.out];exact H2.out.rl,by rw[HE.out];omega,H2.out.low⟩
    simp[results,Tryz.results102,go_sem]
   ·have HE:Hid (lM q=n1++[q.name,q.dest]):=by show _=_;rw[HU.out,if_pos h6]
    have c8:=H2.out.lq.at_ 8 (.string q.name) rfl
    have c14:=H2.out.lq.at_ 14 (.string q.dest) rfl
    have HD:=hid (H2.out.alloc (.cells #[.string q.name,.string q.dest] 9))
    go_wp2_with (at_builtin;go_must (refine wpList_append_lies _ rfl _ _ 56 rfl W.heap.size 9 i1 (.string ⟨#[]⟩) 1 16 Tryz.underlying56 hj hy0 hy1 hy2 rfl (by decide) (.slice pa n1.length pc) _ _ rfl HD.out.rl _ 2 2 [.string q.name,.string q.dest] rfl rfl (World.news_of_block (heap_alloc_new wc _)) wV (by omega) (by unfold maxLen;omega) (by omega) HD.out.low.size _ rfl ?_;intro g2 cap2 w5 hown hgrow _ _;have H5:=hid (HD.out.more (l:=[q.name,q.dest]) hgrow (by rw[nz,List.length_append];exact hown));clear hown hgrow))
    refine bodyPost_ret (v:=.slice (some ⟨g2,0,none⟩) (n1.length+2) cap2) ?_ rfl ⟨_,rfl,by rw[HE.out];exact H5.out.rl,by rw[HE.out,List.length_append];simp;omega,H5.out.low⟩
    simp[results,Tryz.results102,go_sem]
end
section
open Go.RowKit
theorem xm {B:Nat} {q:au} {vs vc vi vp:Value} {W:World} (hrs:W.ownsRow B 85 5 vs q.ai.length (eU q.ai)) (hrc:W.ownsRow B 87 7 vc q.conds.length (eT q.conds)) (hrt:W.ownsRow B 89 2 vi q.items.length (eR q.items)) (hl1:q.ai.length≤3000) (hl2:q.conds.length≤3000) (hl3:q.items.length≤3000):
  Calls Tryz.prog 47 #[.agg (qC q vs vc vi vp)] W fun e W'=>e=.returned (.bool (eG q))∧Below W.heap.size W W':=by
 obtain⟨aos,cas,rfl,hcas⟩:=aU (l:=q.ai) hrs
 obtain⟨aoc,cac,rfl,hcac⟩:=aU (l:=q.conds) hrc
 obtain⟨aoi,cai,rfl,hcai⟩:=aU (l:=q.items) hrt
 have g0:=ar W (.cells (qC q (.slice aos q.ai.length cas) (.slice aoc q.conds.length cac) (.slice aoi q.items.length cai) vp) 29) none
 have H0:Hid (uM W B W.heap.size (qC q (.slice aos q.ai.length cas) (.slice aoc q.conds.length cac) (.slice aoi q.items.length cai) vp) q (.slice aos q.ai.length cas) (.slice aoc q.conds.length cac) (.slice aoi q.items.length cai) (.slice none 0 0) [] (W.alloc (.cells (qC q (.slice aos q.ai.length cas) (.slice aoc q.conds.length cac) (.slice aoi q.items.length cai) vp) 29))):=
  ⟨Below.alloc (Below.refl _ _) (Nat.le_refl _) _,Loc.new W _ _,Nat.le_refl _,bW hrs g0,bW hrc g0,bW hrt g0,World.ownsRow_nil _ _ _ _⟩
 clear hrs hrc hrt g0
 go_enter Tryz.func47,Tryz.ntmps47
 go_upto_region 1 with fail
 obtain⟨X,hX⟩:∃X,X=W.heap.size:=⟨_,rfl⟩
 rw[←hX] at H0⊢
 generalize W.alloc (.cells (qC q (.slice aos q.ai.length cas) (.slice aoc q.conds.length cac) (.slice aoi q.items.length cai) vp) 29)=W1 at H0⊢
 clear hX
 refine wp_region_lit ?_
 refine wpList_load_mid rfl 29 _ rfl X 0 rfl (qC q (.slice aos q.ai.length cas) (.slice aoc q.conds.length cac) (.slice aoi q.items.length cai) vp).toList _ H0.out.lq.range Tryz.underlying29 rfl (by rw[Tryz.aX];rfl) ?_
 go_wp2_with fail
 refine(Kh (vp:=vp) H0.out.rs H0.out.rc H0.out.rt hl2 hl3).mono ?_
 rintro e W2 ⟨v0,rfl,ho,hlen,hb2⟩
 obtain⟨pa,pc,rfl,hpc⟩:=aU (l:=lM q) ho
 have H2:Hid (uM W B X (qC q (.slice aos q.ai.length cas) (.slice aoc q.conds.length cac) (.slice aoi q.items.length cai) vp) q (.slice aos q.ai.length cas) (.slice aoc q.conds.length cac) (.slice aoi q.items.length cai) (.slice pa (lM q).length pc) (lM q) W2):=by
  have h:=H0.out.later hb2
  exact⟨h.low,h.lq,h.nx,h.rs,h.rc,h.rt,ho.mono H0.out.low.size⟩
 obtain⟨ns,hns⟩:∃ns,lM q=ns:=⟨_,rfl⟩
 rw[hns] at H2 hlen hpc⊢
 have HNS:=hid hns
 clear ho hb2 H0 hns
 go_wp2_with fail
 go_loopg [8] ns.length (fun m iv w=>∃k:Nat,iv=.int .i64 (k:Int)∧k+m=ns.length∧uM W B X (qC q (.slice aos q.ai.length cas) (.slice aoc q.conds.length cac) (.slice aoi q.items.length cai) vp) q (.slice aos q.ai.length cas) (.slice aoc q.conds.length cac) (.slice aoi q.items.length cai) (.slice pa ns.length pc) ns w∧(ns.take k).all (fun n=>n.toList.isEmpty || fl q.ai n)=true)
 case atStart=>exact⟨0,rfl,by omega,H2.out,rfl⟩
 case round=>
  obtain⟨k,rfl,hk,hq,hall⟩:=hrel
  have HQ:=hid hq
  have HALL:=hid hall
  clear H2 hall
  by_cases hlt:k<ns.length
  ·obtain⟨g,rfl,hcell⟩:=qv (l:=ns) (fun s=>[.string s]) (fun _=>rfl) (by rw[←DE];exact hq.rl) hlt
   have p0:wr.cell? ⟨g,k,none⟩=some (.string ns[k]):=by have:=hcell 0 (by decide);simpa using this
   have hki:(k:Int)<(ns.length:Int):=by omega
   obtain⟨nm,hnm⟩:∃nm,ns[k]=nm:=⟨_,rfl⟩
   have HNX:Hid ((ns.take (k+1)).all (fun n=>n.toList.isEmpty || fl q.ai n)=(nm.toList.isEmpty || fl q.ai nm)):=by
    show _=_
    rw[show ns.take (k+1)=ns.take k++[ns[k]] by rw[List.take_add_one,List.getElem?_eq_getElem hlt];rfl,List.all_append,HALL.out,hnm]
    simp
   have HNO:Hid ((nm.toList.isEmpty || fl q.ai nm)=false→eG q=false):=by
    intro e
    have h1:ns.all (fun n=>n.toList.isEmpty || fl q.ai n)=false:=by
     rw[List.all_eq_false]
     exact⟨ns[k],List.getElem_mem hlt,by rw[hnm,e];simp⟩
    unfold eG
    rw[HNS.out,h1]
    rfl
   rw[hnm] at p0
   clear hcell hnm hlt hq
   cases he:nm.toList.isEmpty with
   | true=>
    go_wp2_with fail
    go_roundg (gk - 1)
    case measure=>omega
    case rel=>exact⟨k+1,by simp,by omega,HQ.out,by rw[HNX.out,he];rfl⟩
   | false=>
    have c1:=HQ.out.lq.at_ 1 (.slice aos q.ai.length cas) rfl
    go_wp2_with fail
    refine(Fj (n:=nm) HQ.out.rs hl1).mono ?_
    rintro e W5 ⟨rfl,hb5⟩
    have H5:=hid (HQ.out.later hb5)
    clear hb5 c1 p0
    obtain⟨bd,hbd⟩:∃bd,fl q.ai nm=bd:=⟨_,rfl⟩
    have HBD:=hid hbd
    rw[hbd]
    clear hbd
    cases bd with
    | true=>
     go_wp2_with fail
     go_roundg (gk - 1)
     case measure=>omega
     case rel=>exact⟨k+1,by simp,by omega,H5.out,by rw[HNX.out,HBD.out];simp⟩
    | false=>
     have HR:Hid (eG q=false):=HNO.out (by rw[he,HBD.out];rfl)
     go_wp2_with fail
     refine bodyPost_ret (v:=.bool false) ?_ rfl ⟨?_,H5.out.low⟩
     ·simp[results,Tryz.results47,go_sem]
     ·rw[HR.out]
  ·have hki:¬(k:Int)<(ns.length:Int):=by omega
   have hk2:k=ns.length:=by omega
   have c0:=HQ.out.lq.at_ 0 (.int .i64 q.kind) rfl
   have c8:=HQ.out.lq.at_ 8 (.string q.name) rfl
   have c10:=HQ.out.lq.at_ 10 (.string q.value.name) rfl
   have HSC:Hid (eG q=(decide (q.kind≠2) || q.value.name.toList.isEmpty || (q.value.name.toList==q.name.toList))):=by
    show _=_
    have:=HALL.out
    rw[hk2,List.take_length] at this
    unfold eG
    rw[HNS.out,this]
    rfl
   clear hq
   by_cases h2:q.kind=2
   ·cases he:q.value.name.toList.isEmpty with
    | true=>
     go_wp2_with fail
     refine bodyPost_ret (v:=.bool true) ?_ rfl ⟨?_,HQ.out.low⟩
     ·simp[results,Tryz.results47,go_sem]
     ·rw[HSC.out,he];simp
    | false=>
     cases hf:(q.value.name.toList==q.name.toList) with
     | true=>
      go_wp2_with fail
      refine bodyPost_ret (v:=.bool true) ?_ rfl ⟨?_,HQ.out.low⟩
      ·simp[results,Tryz.results47,go_sem]
      ·rw[HSC.out,hf];simp
     | false=>
      go_wp2_with fail
      refine bodyPost_ret (v:=.bool false) ?_ rfl ⟨?_,HQ.out.low⟩
      ·simp[results,Tryz.results47,go_sem]
      ·rw[HSC.out,he,hf];simp[h2]
   ·go_wp2_with fail
    refine bodyPost_ret (v:=.bool true) ?_ rfl ⟨?_,HQ.out.low⟩
    ·simp[results,Tryz.results47,go_sem]
    ·rw[HSC.out];simp[h2]
end
section
open Go.RowKit
def ot (b G:Nat) (W:World) (x:au × RS) (e:Ending) (W':World):Prop:=
 ∃vs vc vi vp,e=.returned (.agg (qC x.1 vs vc vi vp))∧jd W.heap.size x.1 vs vc vi vp W'∧PI b G x.2 W'∧W.grownBy W' (some b)
theorem C7 {b G:Nat} {st:RS} {W:World} (h:PI b G st W) (hl:st.rest.length≤2000) (hc:aE eW st=false) (hm:aE aM st=true):
  Calls Tryz.prog 45 #[.pointer (some ⟨b,0,none⟩)] W (ot b G W (eF st)):=by
 have g0:=ar W (.cells zq 29) none
 have HP:=hid (h.quiet g0)
 have HL0:=hid (Loc.new W zq 29)
 have HG0:=hid (ar W (.cells zq 29) (some b))
 have hsz:=size_alloc W (.cells zq 29)
 have hbw:b<W.heap.size:=by obtain⟨_,_,hb,_⟩:=h.box;exact hb.lt
 have hgw:=h.xU.2
 clear g0 h
 go_enter Tryz.func45,Tryz.ntmps45
 go_wp2_with fail
 obtain⟨X0,hX0⟩:∃X0,X0=W.heap.size:=⟨_,rfl⟩
 rw[←hX0] at HL0⊢
 have hXW:W.heap.size≤X0:=by omega
 have HX0:Hid (X0≠b∧X0≠G):=by show _∧_;omega
 have hXZ:X0<(W.alloc (.cells zq 29)).heap.size:=by omega
 clear hX0
 generalize W.alloc (.cells zq 29)=Wz at HP HL0 HG0 hsz hXZ⊢
 have ea:ag eW st=st:=by unfold ag;rw[hc];rfl
 refine(aL HP.out eW false hc).mono ?_
 rintro e W1 ⟨rfl,h1,g1⟩
 rw[ea] at h1
 have H1:=hid h1
 have G1:=hid (aB HG0.out g1)
 have HL1:=hid (HL0.out.grown g1 (by intro e;injection e with e;exact HX0.out.1 e))
 clear h1 g1 HP HG0 HL0 ea
 go_wp2_with fail
 refine(aL H1.out aM true hm).mono ?_
 rintro e W2 ⟨rfl,h2,g2⟩
 have H2:=hid h2
 have G2:=hid (aB G1.out g2)
 have HL2:=hid (HL1.out.grown g2 (by intro e;injection e with e;exact HX0.out.1 e))
 have hl3:=Pure.cK aM st
 clear h2 g2 H1 G1 HL1
 go_wp2_with fail
 refine(CQ H2.out (by omega)).mono ?_
 rintro e W3 ⟨vp,rfl,ho,h3,g3⟩
 have HL3:=hid (HL2.out.grown g3 (by intro e;injection e with e;exact HX0.out.1 e))
 have G3:=hid (aB G2.out g3)
 have ho':=bQ ho G2.out.size
 have HC:Hid (eF st=({aF with kind:=5,label:=(bG (ag aM st)).1.1,ay:=(bG (ag aM st)).1.2},(bG (ag aM st)).2)):=by show _=_;unfold eF;rw[hc,hm];rfl
 obtain⟨⟨⟨l0,p0⟩,s3⟩,hcr⟩:∃c,bG (ag aM st)=c:=⟨_,rfl⟩
 rw[hcr] at ho' h3 HC⊢
 obtain⟨pa,pc,rfl,hpc⟩:=aU (l:=p0) ho'
 have HRow:=hid ho'
 have H3:=hid h3
 clear ho ho' h3 g3 hcr H2 G2 HL2
 rename_i KK hKK
 refine hKK _ _ ?_
 refine wpList_store_mid rfl 29 _ _ rfl X0 0 (qC {aF with kind:=5,label:=l0,ay:=p0} (.slice none 0 0) (.slice none 0 0) (.slice none 0 0) (.slice pa p0.length pc)) rfl rfl HL3.out.there Tryz.aX (nh _) ?_
 have hF:Loc (W3.setCells X0 0 (qC {aF with kind:=5,label:=l0,ay:=p0} (.slice none 0 0) (.slice none 0 0) (.slice none 0 0) (.slice pa p0.length pc)).toList) X0 (qC {aF with kind:=5,label:=l0,ay:=p0} (.slice none 0 0) (.slice none 0 0) (.slice none 0 0) (.slice pa p0.length pc)) 29:=HL3.out.dh rfl
 have hG:=aS X0 (qC {aF with kind:=5,label:=l0,ay:=p0} (.slice none 0 0) (.slice none 0 0) (.slice none 0 0) (.slice pa p0.length pc)).toList 0 W3
 have hP:PI b G s3 (W3.setCells X0 0 (qC {aF with kind:=5,label:=l0,ay:=p0} (.slice none 0 0) (.slice none 0 0) (.slice none 0 0) (.slice pa p0.length pc)).toList):=H3.out.kept hG (by intro e;injection e with e;exact HX0.out.1 e.symm) (by intro e;injection e with e;exact HX0.out.2 e.symm)
 have hRow:=HRow.out.kept hG (Or.inr (aQ HRow.out HL3.out (by decide)))
 have hGG:W.grownBy (W3.setCells X0 0 (qC {aF with kind:=5,label:=l0,ay:=p0} (.slice none 0 0) (.slice none 0 0) (.slice none 0 0) (.slice pa p0.length pc)).toList) (some b):=mf G3.out hG hXW
 obtain⟨WF,hWF⟩:∃WF,W3.setCells X0 0 (qC {aF with kind:=5,label:=l0,ay:=p0} (.slice none 0 0) (.slice none 0 0) (.slice none 0 0) (.slice pa p0.length pc)).toList=WF:=⟨_,rfl⟩
 rw[hWF] at hF hP hRow hGG⊢
 clear hWF hG
 go_wp2_with fail
 refine bodyPost_ret (v:=.agg (qC {aF with kind:=5,label:=l0,ay:=p0} (.slice none 0 0) (.slice none 0 0) (.slice none 0 0) (.slice pa p0.length pc))) ?_ rfl ?_
 ·exact rR Tryz.results45 rfl hF rfl
 ·rw[HC.out]
  exact⟨_,_,_,_,rfl,⟨World.ownsRow_nil _ _ _ _,World.ownsRow_nil _ _ _ _,World.ownsRow_nil _ _ _ _,hRow⟩,hP,hGG⟩
end
section
open Go.RowKit
theorem qi {ops:Array Oper} {rest:List Oper} {op:Oper} {a:Act} {w:World} {Q:Exit→Act→World→Prop} {t:Nat} {n0:ByteArray} (hgd:op.guard=none) (ho:op.op=.build 29 #[(0,.const (.int .i64 6)),(8,.tmp t)]) (hx:a.tmps[t]?=some (.string n0)) (h:wpList Tryz.prog ops Q rest (a.put op.dst (.agg #[.int .i64 6,.slice none 0 0,.slice none 0 0,.slice none 0 0,.int .i64 0,.bool false,.int .i64 0,.int .i64 0,.string n0,.string ⟨#[]⟩,.string ⟨#[]⟩,.string ⟨#[]⟩,.int .i64 0,.string ⟨#[]⟩,.string ⟨#[]⟩,.string ⟨#[]⟩,.slice none 0 0])) w):wpList Tryz.prog ops Q (op::rest) a w:=
 wpList_plain hgd fun _ hK=>by
  unfold Oper.wp execOp
  simp only[ho]
  obtain⟨ts,ds⟩:=a
  go_simp
  exact hK _ _ h
theorem Dl {b G:Nat} {st:RS} {W:World} (h:PI b G st W) (hc:aE eW st=true):
  Calls Tryz.prog 45 #[.pointer (some ⟨b,0,none⟩)] W (ot b G W (eF st)):=by
 have g0:=ar W (.cells zq 29) none
 have HP:=hid (h.quiet g0)
 have HL0:=hid (Loc.new W zq 29)
 have HG0:=hid (ar W (.cells zq 29) (some b))
 have hsz:=size_alloc W (.cells zq 29)
 have hbw:b<W.heap.size:=by obtain⟨_,_,hb,_⟩:=h.box;exact hb.lt
 have hgw:=h.xU.2
 clear g0 h
 go_enter Tryz.func45,Tryz.ntmps45
 go_wp2_with fail
 obtain⟨X0,hX0⟩:∃X0,X0=W.heap.size:=⟨_,rfl⟩
 rw[←hX0] at HL0⊢
 have hXW:W.heap.size≤X0:=by omega
 have HX0:Hid (X0≠b∧X0≠G):=by show _∧_;omega
 have hXZ:X0<(W.alloc (.cells zq 29)).heap.size:=by omega
 clear hX0
 generalize W.alloc (.cells zq 29)=Wz at HP HL0 HG0 hsz hXZ⊢
 obtain⟨n0,s2,hn⟩:∃n az,du (ag eW st)=(n,az):=⟨_,_,rfl⟩
 have HN:=hid hn
 have HC:Hid (eF st=({aF with kind:=6,name:=n0},s2)):=by show _=_;unfold eF;rw[hc];simp only[hn];rfl
 clear hn
 refine(aL HP.out eW true hc).mono ?_
 rintro e W1 ⟨rfl,h1,g1⟩
 have H1:=hid h1
 have G1:=hid (aB HG0.out g1)
 have HL1:=hid (HL0.out.grown g1 (by intro e;injection e with e;exact HX0.out.1 e))
 clear h1 g1 HP HG0 HL0
 go_wp2_with fail
 refine(mS H1.out HN.out).mono ?_
 rintro e W2 ⟨rfl,h2,g2⟩
 have H2:=hid h2
 have G2:=hid (aB G1.out g2)
 have HL2:=hid (HL1.out.grown g2 (by intro e;injection e with e;exact HX0.out.1 e))
 clear h2 g2 H1 G1 HL1
 rename_i KK hKK
 refine hKK _ _ ?_
 refine qi (n0:=n0) rfl rfl rfl ?_
 refine wpList_store_mid rfl 29 _ _ rfl X0 0 (qC {aF with kind:=6,name:=n0} (.slice none 0 0) (.slice none 0 0) (.slice none 0 0) (.slice none 0 0)) rfl rfl HL2.out.there Tryz.aX (nh _) ?_
 have hF:Loc (W2.setCells X0 0 (qC {aF with kind:=6,name:=n0} (.slice none 0 0) (.slice none 0 0) (.slice none 0 0) (.slice none 0 0)).toList) X0 (qC {aF with kind:=6,name:=n0} (.slice none 0 0) (.slice none 0 0) (.slice none 0 0) (.slice none 0 0)) 29:=HL2.out.dh rfl
 have hG:=aS X0 (qC {aF with kind:=6,name:=n0} (.slice none 0 0) (.slice none 0 0) (.slice none 0 0) (.slice none 0 0)).toList 0 W2
 have hP:PI b G s2 (W2.setCells X0 0 (qC {aF with kind:=6,name:=n0} (.slice none 0 0) (.slice none 0 0) (.slice none 0 0) (.slice none 0 0)).toList):=H2.out.kept hG (by intro e;injection e with e;exact HX0.out.1 e.symm) (by intro e;injection e with e;exact HX0.out.2 e.symm)
 have hGG:W.grownBy (W2.setCells X0 0 (qC {aF with kind:=6,name:=n0} (.slice none 0 0) (.slice none 0 0) (.slice none 0 0) (.slice none 0 0)).toList) (some b):=mf G2.out hG hXW
 obtain⟨WF,hWF⟩:∃WF,W2.setCells X0 0 (qC {aF with kind:=6,name:=n0} (.slice none 0 0) (.slice none 0 0) (.slice none 0 0) (.slice none 0 0)).toList=WF:=⟨_,rfl⟩
 rw[hWF] at hF hP hGG⊢
 clear hWF hG
 go_wp2_with fail
 refine bodyPost_ret (v:=.agg (qC {aF with kind:=6,name:=n0} (.slice none 0 0) (.slice none 0 0) (.slice none 0 0) (.slice none 0 0))) ?_ rfl ?_
 ·exact rR Tryz.results45 rfl hF rfl
 ·rw[HC.out]
  exact⟨_,_,_,_,rfl,⟨World.ownsRow_nil _ _ _ _,World.ownsRow_nil _ _ _ _,World.ownsRow_nil _ _ _ _,World.ownsRow_nil _ _ _ _⟩,hP,hGG⟩
end
section
open Go.RowKit
theorem EK (st:RS):(ov st).2.rest.length≤st.rest.length:=
 Nat.le_trans (Pure.iG _ _) (uO st)
theorem uk (n:Nat):∀(out:List aN) (st:RS),(aT n out st).2.rest.length≤st.rest.length:=by
 induction n with
 | zero=>intro out st;exact Nat.le_refl _
 | succ n ih=>
  intro out st
  simp only[aT]
  split
  ·exact Nat.le_trans (ih _ _) (Nat.le_trans (Pure.iG _ _) (Pure.cK _ _))
  ·split
   ·exact Nat.le_trans (ih _ _) (Nat.le_trans (EK _) (Pure.cK _ _))
   ·exact Nat.le_refl _
theorem zT (st:RS):(eE st).2.rest.length≤st.rest.length:=by
 unfold eE
 simp only
 split
 ·exact Nat.zero_le _
 ·exact Nat.le_trans (uk _ _ _) (Pure.iG _ _)
theorem wA {α:Type} {one:RS→α × RS} {sep:ByteArray} (h:∀st,(one st).2.rest.length≤st.rest.length) (n:Nat):∀(out:List α) (st:RS),(bz one sep n out st).2.rest.length≤st.rest.length:=by
 induction n with
 | zero=>intro out st;exact Nat.le_refl _
 | succ n ih=>
  intro out st
  simp only[bz]
  split
  ·exact Nat.le_trans (ih _ _) (Nat.le_trans (h _) (Pure.cK _ _))
  ·exact Nat.le_refl _
theorem Ab (st:RS):(dN st).2.rest.length≤st.rest.length:=by
 unfold dN
 split
 ·unfold eO
  simp only
  split
  ·exact Nat.zero_le _
  ·exact Nat.le_trans (wA Pure.lE _ _ _) (Nat.le_trans (Pure.lE _) (Pure.cK _ _))
 ·exact Nat.le_refl _
end
section
open Go.RowKit
theorem Bv {b G:Nat} {st:RS} {W:World} (h:PI b G st W) (hl:st.rest.length≤2000) (hc:aE eW st=false) (hm:aE aM st=false):
  Calls Tryz.prog 45 #[.pointer (some ⟨b,0,none⟩)] W (ot b G W (eF st)):=by
 have g0:=ar W (.cells zq 29) none
 have HP:=hid (h.quiet g0)
 have HL0:=hid (Loc.new W zq 29)
 have HG0:=hid (ar W (.cells zq 29) (some b))
 have hsz:=size_alloc W (.cells zq 29)
 have hbw:b<W.heap.size:=by obtain⟨_,_,hb,_⟩:=h.box;exact hb.lt
 have hgw:=h.xU.2
 clear g0 h
 go_enter Tryz.func45,Tryz.ntmps45
 go_wp2_with fail
 obtain⟨X0,hX0⟩:∃X0,X0=W.heap.size:=⟨_,rfl⟩
 rw[←hX0] at HL0⊢
 have hXW:W.heap.size≤X0:=by omega
 have HX0:Hid (X0≠b∧X0≠G):=by show _∧_;omega
 have hXZ:X0<(W.alloc (.cells zq 29)).heap.size:=by omega
 clear hX0
 generalize W.alloc (.cells zq 29)=Wz at HP HL0 HG0 hsz hXZ⊢
 have ea:ag eW st=st:=by unfold ag;rw[hc];rfl
 have eb:ag aM st=st:=by unfold ag;rw[hm];rfl
 refine(aL HP.out eW false hc).mono ?_
 rintro e W1 ⟨rfl,h1,g1⟩
 rw[ea] at h1
 have H1:=hid h1
 have G1:=hid g1
 clear h1 g1 HP ea
 go_wp2_with fail
 refine(aL H1.out aM false hm).mono ?_
 rintro e W2 ⟨rfl,h2,g2⟩
 rw[eb] at h2
 have H2:=hid h2
 have G2:=hid (aB G1.out g2)
 clear h2 g2 H1 G1 eb
 go_wp2_with fail
 refine(dA H2.out dz).mono ?_
 rintro e W3 ⟨rfl,h3,g3⟩
 have H3:=hid h3
 have G3:=hid (aB G2.out g3)
 have hl3:=Pure.ew dz st
 clear h3 g3 H2 G2
 obtain⟨l,s4,hsp⟩:∃l az,eE (aD dz st)=(l,az):=⟨_,_,rfl⟩
 have HS:=hid hsp
 have HC0:Hid (eF st=bS {aF with ai:=l,conds:=(dN s4).1} (dN s4).2):=by show _=_;unfold eF;rw[hc,hm];simp only[hsp];rfl
 have hl4:s4.rest.length≤2000:=by have:=zT (aD dz st);rw[hsp] at this;simp only at this;omega
 clear hsp
 go_wp2_with fail
 refine(J8 H3.out (by omega) HS.out).mono ?_
 rintro e W4 ⟨v0,rfl,ho,h4,g4⟩
 obtain⟨sa,sc,rfl,hsc⟩:=aU (l:=l) ho
 have g14:=aB G3.out g4
 have hs4:=g14.size
 have H4:Hid (PQ Wz b G s4 W4.heap.size {aF with ai:=l,conds:=[]} (.slice sa l.length sc) (.slice none 0 0) (.slice none 0 0) (.slice none 0 0) (W4.alloc (.cells #[.int .i64 0,.slice sa l.length sc,.slice none 0 0,.slice none 0 0,.int .i64 0,.bool false,.int .i64 0,.int .i64 0,.string ⟨#[]⟩,.string ⟨#[]⟩,.string ⟨#[]⟩,.string ⟨#[]⟩,.int .i64 0,.string ⟨#[]⟩,.string ⟨#[]⟩,.string ⟨#[]⟩,.slice none 0 0] 29))):=
  ⟨h4.quiet (ar W4 _ none),Loc.new W4 _ _,hs4,aB g14 (ar W4 _ _),⟨bW (bQ ho G3.out.size) (ar W4 _ none),World.ownsRow_nil _ _ _ _,World.ownsRow_nil _ _ _ _,World.ownsRow_nil _ _ _ _⟩,by omega,by omega⟩
 clear h4 g4 g14 H3 G3 ho
 go_wp2_with fail
 obtain⟨x,hx⟩:∃x,x=W4.heap.size:=⟨_,rfl⟩
 rw[←hx] at H4⊢
 clear hx
 generalize W4.alloc (.cells #[.int .i64 0,.slice sa l.length sc,.slice none 0 0,.slice none 0 0,.int .i64 0,.bool false,.int .i64 0,.int .i64 0,.string ⟨#[]⟩,.string ⟨#[]⟩,.string ⟨#[]⟩,.string ⟨#[]⟩,.int .i64 0,.string ⟨#[]⟩,.string ⟨#[]⟩,.string ⟨#[]⟩,.slice none 0 0] 29)=W5 at H4⊢
 obtain⟨m,hmm⟩:∃m,aE ej s4=m:=⟨_,rfl⟩
 have HM:=hid hmm
 clear hmm hs4
 refine(aL H4.out.p ej m HM.out).mono ?_
 rintro e W6 ⟨rfl,h6,g6⟩
 have H6:=hid (H4.out.call h6 g6)
 clear h6 g6 H4
 go_upto_if 21 with fail
 go_cut [] (fun w=>∃vc,PQ Wz b G (dN s4).2 x {aF with ai:=l,conds:=(dN s4).1} (.slice sa l.length sc) vc (.slice none 0 0) (.slice none 0 0) w)
 case first=>
  cases m with
  | false=>
   go_wp2_with fail
   go_meet
   case rel=>exact⟨(.slice none 0 0),by have h:=H6.out;rw[show ag ej s4=s4 by unfold ag;rw[HM.out];rfl] at h;rw[show dN s4=([],s4) by unfold dN;rw[HM.out];rfl];exact h⟩
  | true=>
   obtain⟨cl,s7,hn⟩:∃l az,eO fR pP 6 (ag ej s4)=(l,az):=⟨_,_,rfl⟩
   have HN:=hid hn
   have hl7:=Pure.cK ej s4
   clear hn
   go_wp2_with fail
   refine(Fg H6.out.p (by omega) HN.out).mono ?_
   rintro e W7 ⟨v0,rfl,ho,h7,g7⟩
   obtain⟨ao,ca,rfl,hca⟩:=aU (l:=cl) ho
   have Ha:=H6.out.call h7 g7
   have c2:=Ha.lx.at_ 2 (.slice none 0 0) rfl
   have f2:W7.frozen? ⟨x,2,none⟩=false:=Ha.lx.free 2
   have H7:=hid (H6.out.conds h7 g7 ho)
   clear Ha ho h7 g7 H6
   go_wp2_with fail
   go_meet
   case rel=>exact⟨_,by rw[show dN s4=(cl,s7) by unfold dN;rw[HM.out];exact HN.out];exact H7.out⟩
 case rest=>
  obtain⟨vc,hq⟩:=hcut
  have hl5:=Ab s4
  obtain⟨⟨l2,s5⟩,hw⟩:∃c,dN s4=c:=⟨_,rfl⟩
  rw[hw] at hq HC0 hl5
  simp only at hq HC0 hl5
  have H7:=hid hq
  clear hq hw H6
  go_wp2_with fail
  refine(G7 H7.out (by omega)).mono ?_
  rintro e W8 ⟨rfl,vi,hq⟩
  obtain⟨⟨q9,s9⟩,ha⟩:∃c,bS {aF with ai:=l,conds:=l2} s5=c:=⟨_,rfl⟩
  rw[ha] at hq HC0
  simp only at hq
  obtain⟨na,nc,evs,_⟩:=aU (l:=q9.ai) hq.rows.rs
  obtain⟨ca,cc,rfl,_⟩:=aU (l:=q9.conds) hq.rows.rc
  obtain⟨ia,ic,rfl,_⟩:=aU (l:=q9.items) hq.rows.rt
  have H8:=hid hq
  have HL8:=hid (HL0.out.grown H8.out.grown (by intro e;injection e with e;exact HX0.out.1 e))
  clear hq ha H7 evs
  go_upto_region 10 with fail
  refine wp_region_lit ?_
  refine wpList_load_mid rfl 29 _ rfl x 0 rfl (qC q9 (.slice sa l.length sc) (.slice ca q9.conds.length cc) (.slice ia q9.items.length ic) (.slice none 0 0)).toList _ H8.out.lx.range Tryz.underlying29 rfl (by rw[Tryz.aX];rfl) ?_
  refine wpList_store_mid rfl 29 _ _ rfl X0 0 (qC q9 (.slice sa l.length sc) (.slice ca q9.conds.length cc) (.slice ia q9.items.length ic) (.slice none 0 0)) rfl rfl HL8.out.there Tryz.aX (nh _) ?_
  have hF:Loc (W8.setCells X0 0 (qC q9 (.slice sa l.length sc) (.slice ca q9.conds.length cc) (.slice ia q9.items.length ic) (.slice none 0 0)).toList) X0 (qC q9 (.slice sa l.length sc) (.slice ca q9.conds.length cc) (.slice ia q9.items.length ic) (.slice none 0 0)) 29:=HL8.out.dh rfl
  have hG:=aS X0 (qC q9 (.slice sa l.length sc) (.slice ca q9.conds.length cc) (.slice ia q9.items.length ic) (.slice none 0 0)).toList 0 W8
  have hP:PI b G s9 (W8.setCells X0 0 (qC q9 (.slice sa l.length sc) (.slice ca q9.conds.length cc) (.slice ia q9.items.length ic) (.slice none 0 0)).toList):=H8.out.p.kept hG (by intro e;injection e with e;exact HX0.out.1 e.symm) (by intro e;injection e with e;exact HX0.out.2 e.symm)
  have hR:=nH H8.out.rows HL8.out hG
  have hGG:W.grownBy (W8.setCells X0 0 (qC q9 (.slice sa l.length sc) (.slice ca q9.conds.length cc) (.slice ia q9.items.length ic) (.slice none 0 0)).toList) (some b):=mf (aB HG0.out H8.out.grown) hG hXW
  obtain⟨WF,hWF⟩:∃WF,W8.setCells X0 0 (qC q9 (.slice sa l.length sc) (.slice ca q9.conds.length cc) (.slice ia q9.items.length ic) (.slice none 0 0)).toList=WF:=⟨_,rfl⟩
  rw[hWF] at hF hP hR hGG⊢
  clear hWF hG
  go_wp2_with fail
  refine bodyPost_ret (v:=.agg (qC q9 (.slice sa l.length sc) (.slice ca q9.conds.length cc) (.slice ia q9.items.length ic) (.slice none 0 0))) ?_ rfl ?_
  ·exact rR Tryz.results45 rfl hF rfl
  ·rw[HC0.out]
   exact⟨_,_,_,_,rfl,⟨bQ hR.rs (by omega),bQ hR.rc (by omega),bQ hR.rt (by omega),bQ hR.rp (by omega)⟩,hP,hGG⟩
end
namespace Pure
theorem EW (a:ByteArray):ik a a=true:=by unfold ik;simp
theorem bg {a b:Bool} (h:a=true→b=true) (hb:b=false):a=false:=by
 cases a
 ·rfl
 ·rw[h rfl] at hb;cases hb
end Pure
end Go.Proofs.YtobgbmfpicmpcaaGreatDoor
