/- The program's scope: every variable is bound. -/
import Derived.Test.YtobgbmfpicmpcaaGreatDoorC22
import Derived.Deep.Onto
import Derived.Test.YtobgbmfpicmpcaaGreatDoorC07
import Derived.Shelf.LaysM
import Derived.Shelf.Strconv.Clone
import Derived.Shelf.LaysC
import Derived.Shelf.Strconv.AtoiAll
import Derived.Shelf.Strings.Prefix
import Derived.Test.YtobgbmfpicmpcaaGreatDoorProg
import Derived.Test.YtobgbmfpicmpcaaGreatDoorC02
import Derived.Deep.QuietTactic
import Derived.BigQuiet
namespace Go.Proofs.YtobgbmfpicmpcaaGreatDoor
open Go.RowKit
set_option maxRecDepth 100000 in
set_option maxHeartbeats 4000000 in
theorem inScope_ {B:Nat} {q:PQuery} {vs vc vi vp:Value} {W:World} (hrs:W.ownsRow B 85 5 vs q.spots.length (spotCells q.spots)) (hrc:W.ownsRow B 87 7 vc q.conds.length (condCells q.conds)) (hrt:W.ownsRow B 89 2 vi q.items.length (itemCells q.items)) (hl1:q.spots.length≤3000) (hl2:q.conds.length≤3000) (hl3:q.items.length≤3000):
  Calls Tryz.prog 47 #[.agg (qC q vs vc vi vp)] W fun e W'=>e=.returned (.bool (inScopeP q))∧Below W.heap.size W W':=by
 obtain⟨aos,cas,rfl,hcas⟩:=row_slice (l:=q.spots) hrs
 obtain⟨aoc,cac,rfl,hcac⟩:=row_slice (l:=q.conds) hrc
 obtain⟨aoi,cai,rfl,hcai⟩:=row_slice (l:=q.items) hrt
 have g0:=grown_alloc W (.cells (qC q (.slice aos q.spots.length cas) (.slice aoc q.conds.length cac) (.slice aoi q.items.length cai) vp) 29) none
 have H0:Hid (SAt W B W.heap.size (qC q (.slice aos q.spots.length cas) (.slice aoc q.conds.length cac) (.slice aoi q.items.length cai) vp) q (.slice aos q.spots.length cas) (.slice aoc q.conds.length cac) (.slice aoi q.items.length cai) (.slice none 0 0) [] (W.alloc (.cells (qC q (.slice aos q.spots.length cas) (.slice aoc q.conds.length cac) (.slice aoi q.items.length cai) vp) 29))):=
  ⟨Below.alloc (Below.refl _ _) (Nat.le_refl _) _,Loc.new W _ _,Nat.le_refl _,kept_none hrs g0,kept_none hrc g0,kept_none hrt g0,World.ownsRow_nil _ _ _ _⟩
 clear hrs hrc hrt g0
 go_enter Tryz.func47,Tryz.ntmps47
 go_upto_region 1 with fail
 obtain⟨X,hX⟩:∃X,X=W.heap.size:=⟨_,rfl⟩
 rw[←hX] at H0⊢
 generalize W.alloc (.cells (qC q (.slice aos q.spots.length cas) (.slice aoc q.conds.length cac) (.slice aoi q.items.length cai) vp) 29)=W1 at H0⊢
 clear hX
 refine wp_region_lit ?_
 refine wpList_load_mid rfl 29 _ rfl X 0 rfl (qC q (.slice aos q.spots.length cas) (.slice aoc q.conds.length cac) (.slice aoi q.items.length cai) vp).toList _ H0.out.lq.range Tryz.underlying29 rfl (by rw[Tryz.sizeQuery];rfl) ?_
 go_wp2_with fail
 refine(used_ (vp:=vp) H0.out.rs H0.out.rc H0.out.rt hl2 hl3).mono ?_
 rintro e W2 ⟨v0,rfl,ho,hlen,hb2⟩
 obtain⟨pa,pc,rfl,hpc⟩:=row_slice (l:=usedP q) ho
 have H2:Hid (SAt W B X (qC q (.slice aos q.spots.length cas) (.slice aoc q.conds.length cac) (.slice aoi q.items.length cai) vp) q (.slice aos q.spots.length cas) (.slice aoc q.conds.length cac) (.slice aoi q.items.length cai) (.slice pa (usedP q).length pc) (usedP q) W2):=by
  have h:=H0.out.later hb2
  exact⟨h.low,h.lq,h.nx,h.rs,h.rc,h.rt,ho.mono H0.out.low.size⟩
 obtain⟨ns,hns⟩:∃ns,usedP q=ns:=⟨_,rfl⟩
 rw[hns] at H2 hlen hpc⊢
 have HNS:=Lib.hid hns
 clear ho hb2 H0 hns
 go_wp2_with fail
 go_loopg [8] ns.length (fun m iv w=>∃k:Nat,iv=.int .i64 (k:Int)∧k+m=ns.length∧SAt W B X (qC q (.slice aos q.spots.length cas) (.slice aoc q.conds.length cac) (.slice aoi q.items.length cai) vp) q (.slice aos q.spots.length cas) (.slice aoc q.conds.length cac) (.slice aoi q.items.length cai) (.slice pa ns.length pc) ns w∧(ns.take k).all (fun n=>n.toList.isEmpty || boundR q.spots n)=true)
 case atStart=>exact⟨0,rfl,by omega,H2.out,rfl⟩
 case round=>
  obtain⟨k,rfl,hk,hq,hall⟩:=hrel
  have HQ:=Lib.hid hq
  have HALL:=Lib.hid hall
  clear H2 hall
  by_cases hlt:k<ns.length
  ·obtain⟨g,rfl,hcell⟩:=row_at (l:=ns) (fun s=>[.string s]) (fun _=>rfl) (by rw[←strs_flat];exact hq.rl) hlt
   have p0:wr.cell? ⟨g,k,none⟩=some (.string ns[k]):=by have:=hcell 0 (by decide);simpa using this
   have hki:(k:Int)<(ns.length:Int):=by omega
   obtain⟨nm,hnm⟩:∃nm,ns[k]=nm:=⟨_,rfl⟩
   have HNX:Hid ((ns.take (k+1)).all (fun n=>n.toList.isEmpty || boundR q.spots n)=(nm.toList.isEmpty || boundR q.spots nm)):=by
    show _=_
    rw[show ns.take (k+1)=ns.take k++[ns[k]] by rw[List.take_add_one,List.getElem?_eq_getElem hlt];rfl,List.all_append,HALL.out,hnm]
    simp
   have HNO:Hid ((nm.toList.isEmpty || boundR q.spots nm)=false→inScopeP q=false):=by
    intro e
    have h1:ns.all (fun n=>n.toList.isEmpty || boundR q.spots n)=false:=by
     rw[List.all_eq_false]
     exact⟨ns[k],List.getElem_mem hlt,by rw[hnm,e];simp⟩
    unfold inScopeP
    rw[HNS.out,h1]
    rfl
   rw[hnm] at p0
   clear hcell hnm hlt hq
   cases he:nm.toList.isEmpty with
   | true=>
    go_wp2_with fail
    go_roundg (gk - 1)
    case measure=>omega
    case rel=>exact⟨k+1,by simp,by omega,HQ.out,by rw[HNX.out,he];rfl⟩
   | false=>
    have c1:=HQ.out.lq.at_ 1 (.slice aos q.spots.length cas) rfl
    go_wp2_with fail
    refine(hasSpot_ (n:=nm) HQ.out.rs hl1).mono ?_
    rintro e W5 ⟨rfl,hb5⟩
    have H5:=Lib.hid (HQ.out.later hb5)
    clear hb5 c1 p0
    obtain⟨bd,hbd⟩:∃bd,boundR q.spots nm=bd:=⟨_,rfl⟩
    have HBD:=Lib.hid hbd
    rw[hbd]
    clear hbd
    cases bd with
    | true=>
     go_wp2_with fail
     go_roundg (gk - 1)
     case measure=>omega
     case rel=>exact⟨k+1,by simp,by omega,H5.out,by rw[HNX.out,HBD.out];simp⟩
    | false=>
     have HR:Hid (inScopeP q=false):=HNO.out (by rw[he,HBD.out];rfl)
     go_wp2_with fail
     refine bodyPost_ret (v:=.bool false) ?_ rfl ⟨?_,H5.out.low⟩
     ·simp[results,Tryz.results47,go_sem]
     ·rw[HR.out]
  ·have hki:¬(k:Int)<(ns.length:Int):=by omega
   have hk2:k=ns.length:=by omega
   have c0:=HQ.out.lq.at_ 0 (.int .i64 q.kind) rfl
   have c8:=HQ.out.lq.at_ 8 (.string q.name) rfl
   have c10:=HQ.out.lq.at_ 10 (.string q.value.name) rfl
   have HSC:Hid (inScopeP q=(decide (q.kind≠2) || q.value.name.toList.isEmpty || (q.value.name.toList==q.name.toList))):=by
    show _=_
    have:=HALL.out
    rw[hk2,List.take_length] at this
    unfold inScopeP
    rw[HNS.out,this]
    rfl
   clear hq
   by_cases h2:q.kind=2
   ·cases he:q.value.name.toList.isEmpty with
    | true=>
     go_wp2_with fail
     refine bodyPost_ret (v:=.bool true) ?_ rfl ⟨?_,HQ.out.low⟩
     ·simp[results,Tryz.results47,go_sem]
     ·rw[HSC.out,he];simp
    | false=>
     cases hf:(q.value.name.toList==q.name.toList) with
     | true=>
      go_wp2_with fail
      refine bodyPost_ret (v:=.bool true) ?_ rfl ⟨?_,HQ.out.low⟩
      ·simp[results,Tryz.results47,go_sem]
      ·rw[HSC.out,hf];simp
     | false=>
      go_wp2_with fail
      refine bodyPost_ret (v:=.bool false) ?_ rfl ⟨?_,HQ.out.low⟩
      ·simp[results,Tryz.results47,go_sem]
      ·rw[HSC.out,he,hf];simp[h2]
   ·go_wp2_with fail
    refine bodyPost_ret (v:=.bool true) ?_ rfl ⟨?_,HQ.out.low⟩
    ·simp[results,Tryz.results47,go_sem]
    ·rw[HSC.out];simp[h2]
end Go.Proofs.YtobgbmfpicmpcaaGreatDoor

/- The program's parser: a whole query. -/
namespace Go.Proofs.YtobgbmfpicmpcaaGreatDoor
open Go.RowKit
def QueryPost (b G:Nat) (W:World) (x:PQuery × RS) (e:Ending) (W':World):Prop:=
 ∃vs vc vi vp,e=.returned (.agg (qC x.1 vs vc vi vp))∧QRows W.heap.size x.1 vs vc vi vp W'∧PI b G x.2 W'∧W.grownBy W' (some b)
set_option maxRecDepth 100000 in
set_option maxHeartbeats 4000000 in
theorem queryMake {b G:Nat} {st:RS} {W:World} (h:PI b G st W) (hl:st.rest.length≤2000) (hc:peekP kCALL st=false) (hm:peekP kCREATE st=true):
  Calls Tryz.prog 45 #[.pointer (some ⟨b,0,none⟩)] W (QueryPost b G W (queryP st)):=by
 have g0:=grown_alloc W (.cells zq 29) none
 have HP:=Lib.hid (h.quiet g0)
 have HL0:=Lib.hid (Loc.new W zq 29)
 have HG0:=Lib.hid (grown_alloc W (.cells zq 29) (some b))
 have hsz:=size_alloc W (.cells zq 29)
 have hbw:b<W.heap.size:=by obtain⟨_,_,hb,_⟩:=h.box;exact hb.lt
 have hgw:=h.far.2
 clear g0 h
 go_enter Tryz.func45,Tryz.ntmps45
 go_wp2_with fail
 obtain⟨X0,hX0⟩:∃X0,X0=W.heap.size:=⟨_,rfl⟩
 rw[←hX0] at HL0⊢
 have hXW:W.heap.size≤X0:=by omega
 have HX0:Hid (X0≠b∧X0≠G):=by show _∧_;omega
 have hXZ:X0<(W.alloc (.cells zq 29)).heap.size:=by omega
 clear hX0
 generalize W.alloc (.cells zq 29)=Wz at HP HL0 HG0 hsz hXZ⊢
 have ea:acceptP kCALL st=st:=by unfold acceptP;rw[hc];rfl
 refine(accept_ HP.out kCALL false hc).mono ?_
 rintro e W1 ⟨rfl,h1,g1⟩
 rw[ea] at h1
 have H1:=Lib.hid h1
 have G1:=Lib.hid (grown_trans HG0.out g1)
 have HL1:=Lib.hid (HL0.out.grown g1 (by intro e;injection e with e;exact HX0.out.1 e))
 clear h1 g1 HP HG0 HL0 ea
 go_wp2_with fail
 refine(accept_ H1.out kCREATE true hm).mono ?_
 rintro e W2 ⟨rfl,h2,g2⟩
 have H2:=Lib.hid h2
 have G2:=Lib.hid (grown_trans G1.out g2)
 have HL2:=Lib.hid (HL1.out.grown g2 (by intro e;injection e with e;exact HX0.out.1 e))
 have hl3:=Pure.acceptP_len kCREATE st
 clear h2 g2 H1 G1 HL1
 go_wp2_with fail
 refine(creation_ H2.out (by omega)).mono ?_
 rintro e W3 ⟨vp,rfl,ho,h3,g3⟩
 have HL3:=Lib.hid (HL2.out.grown g3 (by intro e;injection e with e;exact HX0.out.1 e))
 have G3:=Lib.hid (grown_trans G2.out g3)
 have ho':=row_weaken ho G2.out.size
 have HC:Hid (queryP st=({query0 with kind:=5,label:=(creationP (acceptP kCREATE st)).1.1,pairs:=(creationP (acceptP kCREATE st)).1.2},(creationP (acceptP kCREATE st)).2)):=by show _=_;unfold queryP;rw[hc,hm];rfl
 obtain⟨⟨⟨l0,p0⟩,s3⟩,hcr⟩:∃c,creationP (acceptP kCREATE st)=c:=⟨_,rfl⟩
 rw[hcr] at ho' h3 HC⊢
 obtain⟨pa,pc,rfl,hpc⟩:=row_slice (l:=p0) ho'
 have HRow:=Lib.hid ho'
 have H3:=Lib.hid h3
 clear ho ho' h3 g3 hcr H2 G2 HL2
 rename_i KK hKK
 refine hKK _ _ ?_
 refine wpList_store_mid rfl 29 _ _ rfl X0 0 (qC {query0 with kind:=5,label:=l0,pairs:=p0} (.slice none 0 0) (.slice none 0 0) (.slice none 0 0) (.slice pa p0.length pc)) rfl rfl HL3.out.there Tryz.sizeQuery (qC_one _) ?_
 have hF:Loc (W3.setCells X0 0 (qC {query0 with kind:=5,label:=l0,pairs:=p0} (.slice none 0 0) (.slice none 0 0) (.slice none 0 0) (.slice pa p0.length pc)).toList) X0 (qC {query0 with kind:=5,label:=l0,pairs:=p0} (.slice none 0 0) (.slice none 0 0) (.slice none 0 0) (.slice pa p0.length pc)) 29:=HL3.out.setAll rfl
 have hG:=grown_setMany X0 (qC {query0 with kind:=5,label:=l0,pairs:=p0} (.slice none 0 0) (.slice none 0 0) (.slice none 0 0) (.slice pa p0.length pc)).toList 0 W3
 have hP:PI b G s3 (W3.setCells X0 0 (qC {query0 with kind:=5,label:=l0,pairs:=p0} (.slice none 0 0) (.slice none 0 0) (.slice none 0 0) (.slice pa p0.length pc)).toList):=H3.out.kept hG (by intro e;injection e with e;exact HX0.out.1 e.symm) (by intro e;injection e with e;exact HX0.out.2 e.symm)
 have hRow:=HRow.out.kept hG (Or.inr (row_loc HRow.out HL3.out (by decide)))
 have hGG:W.grownBy (W3.setCells X0 0 (qC {query0 with kind:=5,label:=l0,pairs:=p0} (.slice none 0 0) (.slice none 0 0) (.slice none 0 0) (.slice pa p0.length pc)).toList) (some b):=grown_far G3.out hG hXW
 obtain⟨WF,hWF⟩:∃WF,W3.setCells X0 0 (qC {query0 with kind:=5,label:=l0,pairs:=p0} (.slice none 0 0) (.slice none 0 0) (.slice none 0 0) (.slice pa p0.length pc)).toList=WF:=⟨_,rfl⟩
 rw[hWF] at hF hP hRow hGG⊢
 clear hWF hG
 go_wp2_with fail
 refine bodyPost_ret (v:=.agg (qC {query0 with kind:=5,label:=l0,pairs:=p0} (.slice none 0 0) (.slice none 0 0) (.slice none 0 0) (.slice pa p0.length pc))) ?_ rfl ?_
 ·exact retOne Tryz.results45 rfl hF rfl
 ·rw[HC.out]
  exact⟨_,_,_,_,rfl,⟨World.ownsRow_nil _ _ _ _,World.ownsRow_nil _ _ _ _,World.ownsRow_nil _ _ _ _,hRow⟩,hP,hGG⟩
end Go.Proofs.YtobgbmfpicmpcaaGreatDoor

/- The program's parser: a whole query that calls a view. -/
namespace Go.Proofs.YtobgbmfpicmpcaaGreatDoor
open Go.RowKit
set_option maxRecDepth 100000 in
theorem wpList_callQuery {ops:Array Oper} {rest:List Oper} {op:Oper} {a:Act} {w:World} {Q:Exit→Act→World→Prop} {t:Nat} {n0:ByteArray} (hgd:op.guard=none) (ho:op.op=.build 29 #[(0,.const (.int .i64 6)),(8,.tmp t)]) (hx:a.tmps[t]?=some (.string n0)) (h:wpList Tryz.prog ops Q rest (a.put op.dst (.agg #[.int .i64 6,.slice none 0 0,.slice none 0 0,.slice none 0 0,.int .i64 0,.bool false,.int .i64 0,.int .i64 0,.string n0,.string ⟨#[]⟩,.string ⟨#[]⟩,.string ⟨#[]⟩,.int .i64 0,.string ⟨#[]⟩,.string ⟨#[]⟩,.string ⟨#[]⟩,.slice none 0 0])) w):wpList Tryz.prog ops Q (op::rest) a w:=
 wpList_plain hgd fun _ hK=>by
  unfold Oper.wp execOp
  simp only[ho]
  obtain⟨ts,ds⟩:=a
  go_simp
  exact hK _ _ h
set_option maxRecDepth 100000 in
set_option maxHeartbeats 4000000 in
theorem queryCall {b G:Nat} {st:RS} {W:World} (h:PI b G st W) (hc:peekP kCALL st=true):
  Calls Tryz.prog 45 #[.pointer (some ⟨b,0,none⟩)] W (QueryPost b G W (queryP st)):=by
 have g0:=grown_alloc W (.cells zq 29) none
 have HP:=Lib.hid (h.quiet g0)
 have HL0:=Lib.hid (Loc.new W zq 29)
 have HG0:=Lib.hid (grown_alloc W (.cells zq 29) (some b))
 have hsz:=size_alloc W (.cells zq 29)
 have hbw:b<W.heap.size:=by obtain⟨_,_,hb,_⟩:=h.box;exact hb.lt
 have hgw:=h.far.2
 clear g0 h
 go_enter Tryz.func45,Tryz.ntmps45
 go_wp2_with fail
 obtain⟨X0,hX0⟩:∃X0,X0=W.heap.size:=⟨_,rfl⟩
 rw[←hX0] at HL0⊢
 have hXW:W.heap.size≤X0:=by omega
 have HX0:Hid (X0≠b∧X0≠G):=by show _∧_;omega
 have hXZ:X0<(W.alloc (.cells zq 29)).heap.size:=by omega
 clear hX0
 generalize W.alloc (.cells zq 29)=Wz at HP HL0 HG0 hsz hXZ⊢
 obtain⟨n0,s2,hn⟩:∃n az,nameP (acceptP kCALL st)=(n,az):=⟨_,_,rfl⟩
 have HN:=Lib.hid hn
 have HC:Hid (queryP st=({query0 with kind:=6,name:=n0},s2)):=by show _=_;unfold queryP;rw[hc];simp only[hn];rfl
 clear hn
 refine(accept_ HP.out kCALL true hc).mono ?_
 rintro e W1 ⟨rfl,h1,g1⟩
 have H1:=Lib.hid h1
 have G1:=Lib.hid (grown_trans HG0.out g1)
 have HL1:=Lib.hid (HL0.out.grown g1 (by intro e;injection e with e;exact HX0.out.1 e))
 clear h1 g1 HP HG0 HL0
 go_wp2_with fail
 refine(name_ H1.out HN.out).mono ?_
 rintro e W2 ⟨rfl,h2,g2⟩
 have H2:=Lib.hid h2
 have G2:=Lib.hid (grown_trans G1.out g2)
 have HL2:=Lib.hid (HL1.out.grown g2 (by intro e;injection e with e;exact HX0.out.1 e))
 clear h2 g2 H1 G1 HL1
 rename_i KK hKK
 refine hKK _ _ ?_
 refine wpList_callQuery (n0:=n0) rfl rfl rfl ?_
 refine wpList_store_mid rfl 29 _ _ rfl X0 0 (qC {query0 with kind:=6,name:=n0} (.slice none 0 0) (.slice none 0 0) (.slice none 0 0) (.slice none 0 0)) rfl rfl HL2.out.there Tryz.sizeQuery (qC_one _) ?_
 have hF:Loc (W2.setCells X0 0 (qC {query0 with kind:=6,name:=n0} (.slice none 0 0) (.slice none 0 0) (.slice none 0 0) (.slice none 0 0)).toList) X0 (qC {query0 with kind:=6,name:=n0} (.slice none 0 0) (.slice none 0 0) (.slice none 0 0) (.slice none 0 0)) 29:=HL2.out.setAll rfl
 have hG:=grown_setMany X0 (qC {query0 with kind:=6,name:=n0} (.slice none 0 0) (.slice none 0 0) (.slice none 0 0) (.slice none 0 0)).toList 0 W2
 have hP:PI b G s2 (W2.setCells X0 0 (qC {query0 with kind:=6,name:=n0} (.slice none 0 0) (.slice none 0 0) (.slice none 0 0) (.slice none 0 0)).toList):=H2.out.kept hG (by intro e;injection e with e;exact HX0.out.1 e.symm) (by intro e;injection e with e;exact HX0.out.2 e.symm)
 have hGG:W.grownBy (W2.setCells X0 0 (qC {query0 with kind:=6,name:=n0} (.slice none 0 0) (.slice none 0 0) (.slice none 0 0) (.slice none 0 0)).toList) (some b):=grown_far G2.out hG hXW
 obtain⟨WF,hWF⟩:∃WF,W2.setCells X0 0 (qC {query0 with kind:=6,name:=n0} (.slice none 0 0) (.slice none 0 0) (.slice none 0 0) (.slice none 0 0)).toList=WF:=⟨_,rfl⟩
 rw[hWF] at hF hP hGG⊢
 clear hWF hG
 go_wp2_with fail
 refine bodyPost_ret (v:=.agg (qC {query0 with kind:=6,name:=n0} (.slice none 0 0) (.slice none 0 0) (.slice none 0 0) (.slice none 0 0))) ?_ rfl ?_
 ·exact retOne Tryz.results45 rfl hF rfl
 ·rw[HC.out]
  exact⟨_,_,_,_,rfl,⟨World.ownsRow_nil _ _ _ _,World.ownsRow_nil _ _ _ _,World.ownsRow_nil _ _ _ _,World.ownsRow_nil _ _ _ _⟩,hP,hGG⟩
end Go.Proofs.YtobgbmfpicmpcaaGreatDoor

/- The program's parser: no part of it leaves more tokens than it found. -/
namespace Go.Proofs.YtobgbmfpicmpcaaGreatDoor
open Go.RowKit
theorem hopP_len (st:RS):(hopP st).2.rest.length≤st.rest.length:=
 Nat.le_trans (Pure.spotP_len _ _) (stepP_len st)
theorem spotsLoop_len (n:Nat):∀(out:List PSpot) (st:RS),(spotsLoop n out st).2.rest.length≤st.rest.length:=by
 induction n with
 | zero=>intro out st;exact Nat.le_refl _
 | succ n ih=>
  intro out st
  simp only[spotsLoop]
  split
  ·exact Nat.le_trans (ih _ _) (Nat.le_trans (Pure.spotP_len _ _) (Pure.acceptP_len _ _))
  ·split
   ·exact Nat.le_trans (ih _ _) (Nat.le_trans (hopP_len _) (Pure.acceptP_len _ _))
   ·exact Nat.le_refl _
theorem spotsP_len (st:RS):(spotsP st).2.rest.length≤st.rest.length:=by
 unfold spotsP
 simp only
 split
 ·exact Nat.zero_le _
 ·exact Nat.le_trans (spotsLoop_len _ _ _) (Pure.spotP_len _ _)
theorem listLoop_len {α:Type} {one:RS→α × RS} {sep:ByteArray} (h:∀st,(one st).2.rest.length≤st.rest.length) (n:Nat):∀(out:List α) (st:RS),(listLoop one sep n out st).2.rest.length≤st.rest.length:=by
 induction n with
 | zero=>intro out st;exact Nat.le_refl _
 | succ n ih=>
  intro out st
  simp only[listLoop]
  split
  ·exact Nat.le_trans (ih _ _) (Nat.le_trans (h _) (Pure.acceptP_len _ _))
  ·exact Nat.le_refl _
theorem whereP_len (st:RS):(whereP st).2.rest.length≤st.rest.length:=by
 unfold whereP
 split
 ·unfold listP
  simp only
  split
  ·exact Nat.zero_le _
  ·exact Nat.le_trans (listLoop_len Pure.condP_len _ _ _) (Nat.le_trans (Pure.condP_len _) (Pure.acceptP_len _ _))
 ·exact Nat.le_refl _
end Go.Proofs.YtobgbmfpicmpcaaGreatDoor

/- The program's parser: a whole query that matches. -/
namespace Go.Proofs.YtobgbmfpicmpcaaGreatDoor
open Go.RowKit
set_option maxRecDepth 100000 in
set_option maxHeartbeats 4000000 in
theorem queryMatch {b G:Nat} {st:RS} {W:World} (h:PI b G st W) (hl:st.rest.length≤2000) (hc:peekP kCALL st=false) (hm:peekP kCREATE st=false):
  Calls Tryz.prog 45 #[.pointer (some ⟨b,0,none⟩)] W (QueryPost b G W (queryP st)):=by
 have g0:=grown_alloc W (.cells zq 29) none
 have HP:=Lib.hid (h.quiet g0)
 have HL0:=Lib.hid (Loc.new W zq 29)
 have HG0:=Lib.hid (grown_alloc W (.cells zq 29) (some b))
 have hsz:=size_alloc W (.cells zq 29)
 have hbw:b<W.heap.size:=by obtain⟨_,_,hb,_⟩:=h.box;exact hb.lt
 have hgw:=h.far.2
 clear g0 h
 go_enter Tryz.func45,Tryz.ntmps45
 go_wp2_with fail
 obtain⟨X0,hX0⟩:∃X0,X0=W.heap.size:=⟨_,rfl⟩
 rw[←hX0] at HL0⊢
 have hXW:W.heap.size≤X0:=by omega
 have HX0:Hid (X0≠b∧X0≠G):=by show _∧_;omega
 have hXZ:X0<(W.alloc (.cells zq 29)).heap.size:=by omega
 clear hX0
 generalize W.alloc (.cells zq 29)=Wz at HP HL0 HG0 hsz hXZ⊢
 have ea:acceptP kCALL st=st:=by unfold acceptP;rw[hc];rfl
 have eb:acceptP kCREATE st=st:=by unfold acceptP;rw[hm];rfl
 refine(accept_ HP.out kCALL false hc).mono ?_
 rintro e W1 ⟨rfl,h1,g1⟩
 rw[ea] at h1
 have H1:=Lib.hid h1
 have G1:=Lib.hid g1
 clear h1 g1 HP ea
 go_wp2_with fail
 refine(accept_ H1.out kCREATE false hm).mono ?_
 rintro e W2 ⟨rfl,h2,g2⟩
 rw[eb] at h2
 have H2:=Lib.hid h2
 have G2:=Lib.hid (grown_trans G1.out g2)
 clear h2 g2 H1 G1 eb
 go_wp2_with fail
 refine(expect_ H2.out kMATCH).mono ?_
 rintro e W3 ⟨rfl,h3,g3⟩
 have H3:=Lib.hid h3
 have G3:=Lib.hid (grown_trans G2.out g3)
 have hl3:=Pure.expectP_len kMATCH st
 clear h3 g3 H2 G2
 obtain⟨l,s4,hsp⟩:∃l az,spotsP (expectP kMATCH st)=(l,az):=⟨_,_,rfl⟩
 have HS:=Lib.hid hsp
 have HC0:Hid (queryP st=actionP {query0 with spots:=l,conds:=(whereP s4).1} (whereP s4).2):=by show _=_;unfold queryP;rw[hc,hm];simp only[hsp];rfl
 have hl4:s4.rest.length≤2000:=by have:=spotsP_len (expectP kMATCH st);rw[hsp] at this;simp only at this;omega
 clear hsp
 go_wp2_with fail
 refine(spots_ H3.out (by omega) HS.out).mono ?_
 rintro e W4 ⟨v0,rfl,ho,h4,g4⟩
 obtain⟨sa,sc,rfl,hsc⟩:=row_slice (l:=l) ho
 have g14:=grown_trans G3.out g4
 have hs4:=g14.size
 have H4:Hid (PQ Wz b G s4 W4.heap.size {query0 with spots:=l,conds:=[]} (.slice sa l.length sc) (.slice none 0 0) (.slice none 0 0) (.slice none 0 0) (W4.alloc (.cells #[.int .i64 0,.slice sa l.length sc,.slice none 0 0,.slice none 0 0,.int .i64 0,.bool false,.int .i64 0,.int .i64 0,.string ⟨#[]⟩,.string ⟨#[]⟩,.string ⟨#[]⟩,.string ⟨#[]⟩,.int .i64 0,.string ⟨#[]⟩,.string ⟨#[]⟩,.string ⟨#[]⟩,.slice none 0 0] 29))):=
  ⟨h4.quiet (grown_alloc W4 _ none),Loc.new W4 _ _,hs4,grown_trans g14 (grown_alloc W4 _ _),⟨kept_none (row_weaken ho G3.out.size) (grown_alloc W4 _ none),World.ownsRow_nil _ _ _ _,World.ownsRow_nil _ _ _ _,World.ownsRow_nil _ _ _ _⟩,by omega,by omega⟩
 clear h4 g4 g14 H3 G3 ho
 go_wp2_with fail
 obtain⟨x,hx⟩:∃x,x=W4.heap.size:=⟨_,rfl⟩
 rw[←hx] at H4⊢
 clear hx
 generalize W4.alloc (.cells #[.int .i64 0,.slice sa l.length sc,.slice none 0 0,.slice none 0 0,.int .i64 0,.bool false,.int .i64 0,.int .i64 0,.string ⟨#[]⟩,.string ⟨#[]⟩,.string ⟨#[]⟩,.string ⟨#[]⟩,.int .i64 0,.string ⟨#[]⟩,.string ⟨#[]⟩,.string ⟨#[]⟩,.slice none 0 0] 29)=W5 at H4⊢
 obtain⟨m,hmm⟩:∃m,peekP kWHERE s4=m:=⟨_,rfl⟩
 have HM:=Lib.hid hmm
 clear hmm hs4
 refine(accept_ H4.out.p kWHERE m HM.out).mono ?_
 rintro e W6 ⟨rfl,h6,g6⟩
 have H6:=Lib.hid (H4.out.call h6 g6)
 clear h6 g6 H4
 go_upto_if 21 with fail
 go_cut [] (fun w=>∃vc,PQ Wz b G (whereP s4).2 x {query0 with spots:=l,conds:=(whereP s4).1} (.slice sa l.length sc) vc (.slice none 0 0) (.slice none 0 0) w)
 case first=>
  cases m with
  | false=>
   go_wp2_with fail
   go_meet
   case rel=>exact⟨(.slice none 0 0),by have h:=H6.out;rw[show acceptP kWHERE s4=s4 by unfold acceptP;rw[HM.out];rfl] at h;rw[show whereP s4=([],s4) by unfold whereP;rw[HM.out];rfl];exact h⟩
  | true=>
   obtain⟨cl,s7,hn⟩:∃l az,listP condP kAND 6 (acceptP kWHERE s4)=(l,az):=⟨_,_,rfl⟩
   have HN:=Lib.hid hn
   have hl7:=Pure.acceptP_len kWHERE s4
   clear hn
   go_wp2_with fail
   refine(listCond H6.out.p (by omega) HN.out).mono ?_
   rintro e W7 ⟨v0,rfl,ho,h7,g7⟩
   obtain⟨ao,ca,rfl,hca⟩:=row_slice (l:=cl) ho
   have Ha:=H6.out.call h7 g7
   have c2:=Ha.lx.at_ 2 (.slice none 0 0) rfl
   have f2:W7.frozen? ⟨x,2,none⟩=false:=Ha.lx.free 2
   have H7:=Lib.hid (H6.out.conds h7 g7 ho)
   clear Ha ho h7 g7 H6
   go_wp2_with fail
   go_meet
   case rel=>exact⟨_,by rw[show whereP s4=(cl,s7) by unfold whereP;rw[HM.out];exact HN.out];exact H7.out⟩
 case rest=>
  obtain⟨vc,hq⟩:=hcut
  have hl5:=whereP_len s4
  obtain⟨⟨l2,s5⟩,hw⟩:∃c,whereP s4=c:=⟨_,rfl⟩
  rw[hw] at hq HC0 hl5
  simp only at hq HC0 hl5
  have H7:=Lib.hid hq
  clear hq hw H6
  go_wp2_with fail
  refine(action_ H7.out (by omega)).mono ?_
  rintro e W8 ⟨rfl,vi,hq⟩
  obtain⟨⟨q9,s9⟩,ha⟩:∃c,actionP {query0 with spots:=l,conds:=l2} s5=c:=⟨_,rfl⟩
  rw[ha] at hq HC0
  simp only at hq
  obtain⟨na,nc,evs,_⟩:=row_slice (l:=q9.spots) hq.rows.rs
  obtain⟨ca,cc,rfl,_⟩:=row_slice (l:=q9.conds) hq.rows.rc
  obtain⟨ia,ic,rfl,_⟩:=row_slice (l:=q9.items) hq.rows.rt
  have H8:=Lib.hid hq
  have HL8:=Lib.hid (HL0.out.grown H8.out.grown (by intro e;injection e with e;exact HX0.out.1 e))
  clear hq ha H7 evs
  go_upto_region 10 with fail
  refine wp_region_lit ?_
  refine wpList_load_mid rfl 29 _ rfl x 0 rfl (qC q9 (.slice sa l.length sc) (.slice ca q9.conds.length cc) (.slice ia q9.items.length ic) (.slice none 0 0)).toList _ H8.out.lx.range Tryz.underlying29 rfl (by rw[Tryz.sizeQuery];rfl) ?_
  refine wpList_store_mid rfl 29 _ _ rfl X0 0 (qC q9 (.slice sa l.length sc) (.slice ca q9.conds.length cc) (.slice ia q9.items.length ic) (.slice none 0 0)) rfl rfl HL8.out.there Tryz.sizeQuery (qC_one _) ?_
  have hF:Loc (W8.setCells X0 0 (qC q9 (.slice sa l.length sc) (.slice ca q9.conds.length cc) (.slice ia q9.items.length ic) (.slice none 0 0)).toList) X0 (qC q9 (.slice sa l.length sc) (.slice ca q9.conds.length cc) (.slice ia q9.items.length ic) (.slice none 0 0)) 29:=HL8.out.setAll rfl
  have hG:=grown_setMany X0 (qC q9 (.slice sa l.length sc) (.slice ca q9.conds.length cc) (.slice ia q9.items.length ic) (.slice none 0 0)).toList 0 W8
  have hP:PI b G s9 (W8.setCells X0 0 (qC q9 (.slice sa l.length sc) (.slice ca q9.conds.length cc) (.slice ia q9.items.length ic) (.slice none 0 0)).toList):=H8.out.p.kept hG (by intro e;injection e with e;exact HX0.out.1 e.symm) (by intro e;injection e with e;exact HX0.out.2 e.symm)
  have hR:=rows_loc H8.out.rows HL8.out hG
  have hGG:W.grownBy (W8.setCells X0 0 (qC q9 (.slice sa l.length sc) (.slice ca q9.conds.length cc) (.slice ia q9.items.length ic) (.slice none 0 0)).toList) (some b):=grown_far (grown_trans HG0.out H8.out.grown) hG hXW
  obtain⟨WF,hWF⟩:∃WF,W8.setCells X0 0 (qC q9 (.slice sa l.length sc) (.slice ca q9.conds.length cc) (.slice ia q9.items.length ic) (.slice none 0 0)).toList=WF:=⟨_,rfl⟩
  rw[hWF] at hF hP hR hGG⊢
  clear hWF hG
  go_wp2_with fail
  refine bodyPost_ret (v:=.agg (qC q9 (.slice sa l.length sc) (.slice ca q9.conds.length cc) (.slice ia q9.items.length ic) (.slice none 0 0))) ?_ rfl ?_
  ·exact retOne Tryz.results45 rfl hF rfl
  ·rw[HC0.out]
   exact⟨_,_,_,_,rfl,⟨row_weaken hR.rs (by omega),row_weaken hR.rc (by omega),row_weaken hR.rt (by omega),row_weaken hR.rp (by omega)⟩,hP,hGG⟩
end Go.Proofs.YtobgbmfpicmpcaaGreatDoor

/- Words that are joined by blanks are cut into these words again. No program in this text. -/
namespace Go.Proofs.YtobgbmfpicmpcaaGreatDoor.Pure
structure WordOk (w:ByteArray) (t:Tok):Prop where
 ne:0<w.size
 nb:bt w 0≠32
 cut:∀(s:ByteArray) (k:Nat),(∀j,j<w.size→bt s (k+j)=bt w j)→k+w.size≤s.size→(bt s (k+w.size)=32∨k+w.size=s.size)→one s k=some (k+w.size,t)
theorem extract_word {w s:ByteArray} {k:Nat} (h:∀j,j<w.size→bt s (k+j)=bt w j) (hk:k+w.size≤s.size):s.extract k (k+w.size)=w:=by
 have hz:=size_extract' s k (k+w.size) hk
 refine ext_bt (by omega) fun j hj=>?_
 rw[bt_extract s k (k+w.size) j hk (by omega),h j (by omega)]
def marks:List ByteArray:=[mOpen,mClose,mColon,mComma,mDot,mDots,mStar,mTo,mArrow,mBrace,mUnbrace,mEq,mNe,mLt,mLe,mGt,mGe]
theorem mark1 {c:UInt8} (h:c.toNat=46∨c.toNat=60∨c.toNat=62∨c.toNat=40∨c.toNat=41∨c.toNat=58∨c.toNat=44∨c.toNat=61∨c.toNat=42∨c.toNat=123∨c.toNat=125):WordOk ⟨#[c]⟩ ⟨3,⟨#[c]⟩,0⟩:=by
 have hz:(⟨#[c]⟩:ByteArray).size=1:=rfl
 have h0:bt (⟨#[c]⟩:ByteArray) 0=(c.toNat:Int):=rfl
 refine⟨by omega,by omega,?_⟩
 intro s k hw hk he
 have ex:=extract_word hw hk
 rw[hz] at hw hk he ex⊢
 have hc:=hw 0 (by omega)
 rw[Nat.add_zero,h0] at hc
 have hd:bt s (k+1)=32∨bt s (k+1)=-1:=by
  rcases he with e|e
  ·exact Or.inl e
  ·exact Or.inr (bt_out (by omega))
 have hm:markLen s k=1:=by
  unfold markLen
  simp only
  repeat' split
  all_goals omega
 have hl:letB (bt s k)=false:=letB_no (by omega)
 have hg:digB (bt s k)=false:=digB_no (by omega)
 unfold one
 rw[hl,hg,hm,ex]
 simp
 omega
end Go.Proofs.YtobgbmfpicmpcaaGreatDoor.Pure

/- Numerals are cut as numbers; a joined text is cut into its words. No program in this text. -/
namespace Go.Proofs.YtobgbmfpicmpcaaGreatDoor.Pure
end Go.Proofs.YtobgbmfpicmpcaaGreatDoor.Pure

/- Words that were written are read: terms, spots, conditions, items, pairs. No program in this text. -/
namespace Go.Proofs.YtobgbmfpicmpcaaGreatDoor
def inInt (n:Int):Prop:=-1000000000≤n∧n≤1000000000
def GoodTerm (t:PTerm):Prop:=(t.name=e0∧t.key=e0∧inInt t.val)∨(isName t.name=true∧isName t.key=true∧t.val=0)
structure GoodSpot (s:PSpot):Prop where
 nam:isName s.name=true
 lab:s.label=e0∨isTitle s.label=true
 typ:(s.type=e0∧s.least=0∧s.most=0)∨(isTitle s.type=true∧0≤s.least∧s.least≤s.most∧s.most≤4)
structure GoodCond (c:PCond):Prop where
 ops:1≤c.op∧c.op≤8
 lef:GoodTerm c.a
 rig:(c.op≤6∧GoodTerm c.b)∨(7≤c.op∧c.b=term0)
def GoodItem (x:PItem):Prop:=(x.name=e0∧x.key=e0)∨(isName x.name=true∧(x.key=e0∨isName x.key=true))
def GoodPair (p:PPair):Prop:=isName p.key=true∧inInt p.val
end Go.Proofs.YtobgbmfpicmpcaaGreatDoor
namespace Go.Proofs.YtobgbmfpicmpcaaGreatDoor.Pure
def tokOf (w:ByteArray):Tok:=((one w 0).map (·.2)).getD tok0
def K (ws:List ByteArray):List Tok:=ws.map tokOf
end Go.Proofs.YtobgbmfpicmpcaaGreatDoor.Pure

/- Words that were written are read: lists, and whole queries. No program in this text. -/
namespace Go.Proofs.YtobgbmfpicmpcaaGreatDoor
structure GoodMatch (q:PQuery):Prop where
 spots:∀s∈q.spots,GoodSpot s
 first:∃s r,q.spots=s::r∧s.type=e0
 spotn:q.spots.length≤6
 conds:∀c∈q.conds,GoodCond c
 condn:q.conds.length≤6
def GoodRead (q:PQuery):Prop:=
 GoodMatch q∧(∀x∈q.items,GoodItem x)∧q.items≠[]∧q.items.length≤6∧0≤q.order∧q.order≤q.items.length∧(q.order=0→q.down=false)∧0≤q.skip∧q.skip≤1000000000∧(q.limit=-1∨(0≤q.limit∧q.limit≤1000000000))
  ∧ q=⟨1,q.spots,q.conds,q.items,q.order,q.down,q.skip,q.limit,e0,e0,term0,e0,e0,e0,[]⟩
def GoodSet (q:PQuery):Prop:=
 GoodMatch q∧isName q.name=true∧isName q.key=true∧GoodTerm q.value∧q=⟨2,q.spots,q.conds,[],0,false,0,0,q.name,q.key,q.value,e0,e0,e0,[]⟩
def GoodDrop (q:PQuery):Prop:=
 GoodMatch q∧isName q.name=true∧q=⟨3,q.spots,q.conds,[],0,false,0,0,q.name,e0,term0,e0,e0,e0,[]⟩
def GoodLink (q:PQuery):Prop:=
 GoodMatch q∧isName q.name=true∧isTitle q.type=true∧isName q.to=true∧q=⟨4,q.spots,q.conds,[],0,false,0,0,q.name,e0,term0,q.type,q.to,e0,[]⟩
def GoodMake (q:PQuery):Prop:=
 isTitle q.label=true∧(∀p∈q.pairs,GoodPair p)∧q.pairs.length≤6∧twiceP [] q.pairs=false∧q=⟨5,[],[],[],0,false,0,0,e0,e0,term0,e0,e0,q.label,q.pairs⟩
def GoodCall (q:PQuery):Prop:=isName q.name=true∧q=⟨6,[],[],[],0,false,0,0,q.name,e0,term0,e0,e0,e0,[]⟩
def GoodQ (q:PQuery):Prop:=GoodRead q∨GoodSet q∨GoodDrop q∨GoodLink q∨GoodMake q∨GoodCall q
end Go.Proofs.YtobgbmfpicmpcaaGreatDoor
namespace Go.Proofs.YtobgbmfpicmpcaaGreatDoor.Pure
end Go.Proofs.YtobgbmfpicmpcaaGreatDoor.Pure

/- Words that were written are read: what stands behind a match, and whole queries. No program in this text. -/
namespace Go.Proofs.YtobgbmfpicmpcaaGreatDoor.Pure
end Go.Proofs.YtobgbmfpicmpcaaGreatDoor.Pure

/- A whole query that was written is read again; what is read is good. No program in this text. -/
namespace Go.Proofs.YtobgbmfpicmpcaaGreatDoor.Pure
theorem take_good {k:Int} {st:RS} (h:(takeP k st).2.bad=false):kindP (takeP k st).1=k:=by
 unfold takeP at h⊢
 split
 ·rename_i hs
  unfold seesP at hs
  cases hr:st.rest with
  | nil=>rw[hr] at hs;cases hs
  | cons t r=>rw[hr] at hs;simpa using hs
 ·rename_i hs
  rw[if_neg hs] at h;cases h
theorem kind_name {t:Tok} (h:kindP t=1):isName t.text=true:=by
 unfold kindP at h
 split at h
 ·cases h
 ·split at h
  ·cases h
  ·split at h
   ·unfold kindW at h
    split at h
    ·assumption
    ·split at h<;>cases h
   ·cases h
theorem kind_title {t:Tok} (h:kindP t=2):isTitle t.text=true:=by
 unfold kindP at h
 split at h
 ·cases h
 ·split at h
  ·cases h
  ·split at h
   ·unfold kindW at h
    split at h
    ·cases h
    ·split at h
     ·assumption
     ·cases h
   ·cases h
theorem name_good {st:RS} (h:(nameP st).2.bad=false):isName (nameP st).1=true:=kind_name (take_good h)
theorem title_good {st:RS} (h:(titleP st).2.bad=false):isTitle (titleP st).1=true:=kind_title (take_good h)
theorem num_good {lo hi:Int} {st:RS} (h:(numberP lo hi st).2.bad=false):lo≤(numberP lo hi st).1∧(numberP lo hi st).1≤hi:=by
 unfold numberP at h⊢
 simp only at h⊢
 split at h
 ·cases h
 ·omega
theorem spot_good {x:PSpot} {st:RS} (h:(spotP x st).2.bad=false) (hx:x.label=e0):isName (spotP x st).1.name=true∧((spotP x st).1.label=e0∨isTitle (spotP x st).1.label=true)∧(spotP x st).1.type=x.type∧(spotP x st).1.least=x.least∧(spotP x st).1.most=x.most:=by
 unfold spotP at h⊢
 simp only at h⊢
 have h1:=good_of expectP_bad h
 by_cases hp:peekP mColon (nameP (expectP mOpen st)).2=true
 ·simp only[hp,if_true] at h1⊢
  exact⟨name_good (good_of acceptP_bad (good_of titleP_bad h1)),Or.inr (title_good h1),trivial,trivial,trivial⟩
 ·simp only[hp,if_false,Bool.false_eq_true] at h1⊢
  exact⟨name_good h1,Or.inl hx,trivial,trivial,trivial⟩
theorem star_good {st:RS} (h:(starP st).2.bad=false):0≤(starP st).1.1∧(starP st).1.1≤(starP st).1.2∧(starP st).1.2≤4:=by
 unfold starP at h⊢
 split
 ·rename_i hp
  rw[if_pos hp] at h
  simp only at h⊢
  have h2:=num_good h
  have h1:=num_good (good_of expectP_bad (good_of numberP_bad h))
  exact⟨h1.1,h2.1,h2.2⟩
 ·simp
theorem step_good {st:RS} (h:(stepP st).2.bad=false):isTitle (stepP st).1.type=true∧0≤(stepP st).1.least∧(stepP st).1.least≤(stepP st).1.most∧(stepP st).1.most≤4∧(stepP st).1.label=e0:=by
 unfold stepP at h⊢
 simp only at h⊢
 have h1:=good_of expectP_bad h
 have h2:=star_good h1
 exact⟨title_good (good_of starP_bad h1),h2.1,h2.2.1,h2.2.2,trivial⟩
theorem start_good {st:RS} (h:(spotP spot0 st).2.bad=false):GoodSpot (spotP spot0 st).1:=by
 obtain⟨a,b,c,d,e⟩:=spot_good h rfl
 exact⟨a,b,Or.inl ⟨c,d,e⟩⟩
theorem hop_good {st:RS} (h:(hopP st).2.bad=false):GoodSpot (hopP st).1:=by
 unfold hopP at h⊢
 obtain⟨t,l0,l1,l2,l3⟩:=step_good (good_of spotP_bad h)
 obtain⟨a,b,c,d,e⟩:=spot_good h l3
 exact⟨a,b,Or.inr ⟨by rw[c];exact t,by rw[d];exact l0,by rw[d,e];exact l1,by rw[e];exact l2⟩⟩
theorem spotsLoop_good (n:Nat):∀(out:List PSpot) (st:RS),(spotsLoop n out st).2.bad=false→(∀s∈out,GoodSpot s)→(∀s∈(spotsLoop n out st).1,GoodSpot s)∧∃t,(spotsLoop n out st).1=out++t:=by
 induction n with
 | zero=>intro out st _ h;exact⟨h,[],by simp[spotsLoop]⟩
 | succ n ih=>
  intro out st hb h
  unfold spotsLoop at hb⊢
  by_cases h1:peekP mComma st=true
  ·simp only[h1,if_true] at hb⊢
   have hg:(spotP spot0 (acceptP mComma st)).2.bad=false:=good_of (spotsLoop_bad n) hb
   obtain⟨a,t,e⟩:=ih _ _ hb (fun s hs=>by rcases List.mem_append.1 hs with hs|hs;exact h s hs;rw[List.mem_singleton.1 hs];exact start_good hg)
   exact⟨a,_::t,by rw[e,List.append_assoc];rfl⟩
  ·by_cases h2:peekP mTo st=true
   ·simp only[h1,h2,if_true,if_false,Bool.false_eq_true] at hb⊢
    have hg:(hopP (acceptP mTo st)).2.bad=false:=good_of (spotsLoop_bad n) hb
    obtain⟨a,t,e⟩:=ih _ _ hb (fun s hs=>by rcases List.mem_append.1 hs with hs|hs;exact h s hs;rw[List.mem_singleton.1 hs];exact hop_good hg)
    exact⟨a,_::t,by rw[e,List.append_assoc];rfl⟩
   ·simp only[h1,h2,if_false,Bool.false_eq_true] at hb⊢
    exact⟨h,[],by simp⟩
theorem spots_good {st:RS} (h:(spotsP st).2.bad=false):(∀s∈(spotsP st).1,GoodSpot s)∧(∃s r,(spotsP st).1=s::r∧s.type=e0)∧(spotsP st).1.length≤6:=by
 unfold spotsP at h⊢
 simp only at h⊢
 split at h
 ·cases h
 ·have hg:(spotP spot0 st).2.bad=false:=good_of (spotsLoop_bad _) h
  obtain⟨a,t,e⟩:=spotsLoop_good _ _ _ h (fun s hs=>by rw[List.mem_singleton.1 hs];exact start_good hg)
  refine⟨a,⟨(spotP spot0 st).1,t,by rw[e];rfl,(spot_good hg rfl).2.2.1⟩,by omega⟩
theorem listLoop_good {α:Type} {one:RS→α × RS} {sep:ByteArray} {P:α→Prop} (ho:∀{st:RS},st.bad=true→(one st).2.bad=true) (hp:∀{st:RS},(one st).2.bad=false→P (one st).1) (n:Nat):∀(out:List α) (st:RS),(listLoop one sep n out st).2.bad=false→(∀x∈out,P x)→(∀x∈(listLoop one sep n out st).1,P x)∧∃t,(listLoop one sep n out st).1=out++t:=by
 induction n with
 | zero=>intro out st _ h;exact⟨h,[],by simp[listLoop]⟩
 | succ n ih=>
  intro out st hb h
  unfold listLoop at hb⊢
  by_cases h1:peekP sep st=true
  ·simp only[h1,if_true] at hb⊢
   have hg:(one (acceptP sep st)).2.bad=false:=good_of (listLoop_bad ho n) hb
   obtain⟨a,t,e⟩:=ih _ _ hb (fun s hs=>by rcases List.mem_append.1 hs with hs|hs;exact h s hs;rw[List.mem_singleton.1 hs];exact hp hg)
   exact⟨a,_::t,by rw[e,List.append_assoc];rfl⟩
  ·simp only[h1,if_false,Bool.false_eq_true] at hb⊢
   exact⟨h,[],by simp⟩
theorem list_good {α:Type} {one:RS→α × RS} {sep:ByteArray} {P:α→Prop} {most:Nat} (ho:∀{st:RS},st.bad=true→(one st).2.bad=true) (hp:∀{st:RS},(one st).2.bad=false→P (one st).1) {st:RS} (h:(listP one sep most st).2.bad=false):(∀x∈(listP one sep most st).1,P x)∧(listP one sep most st).1≠[]∧(listP one sep most st).1.length≤most:=by
 unfold listP at h⊢
 simp only at h⊢
 split at h
 ·cases h
 ·have hg:(one st).2.bad=false:=good_of (listLoop_bad ho _) h
  obtain⟨a,t,e⟩:=listLoop_good ho hp _ _ _ h (fun s hs=>by rw[List.mem_singleton.1 hs];exact hp hg)
  refine⟨a,by rw[e];simp,by omega⟩
theorem prop_good {st:RS} (h:(propP st).2.bad=false):isName (propP st).1.1=true∧isName (propP st).1.2=true:=by
 unfold propP at h⊢
 simp only at h⊢
 exact⟨name_good (good_of expectP_bad (good_of nameP_bad h)),name_good h⟩
theorem term_good {st:RS} (h:(termP st).2.bad=false):GoodTerm (termP st).1:=by
 unfold termP at h⊢
 split
 ·rename_i hp
  rw[if_pos hp] at h
  simp only at h⊢
  have:=num_good h
  exact Or.inl ⟨rfl,rfl,this⟩
 ·rename_i hp
  rw[if_neg hp] at h
  simp only at h⊢
  have:=prop_good h
  exact Or.inr ⟨this.1,this.2,rfl⟩
theorem opLoopP_good:∀(l:List ByteArray) (i:Int) (st:RS),(opLoopP l i st).2.bad=false→1≤i→1≤(opLoopP l i st).1∧(opLoopP l i st).1<i+l.length
 | [],i,st,h,_=>by cases h
 | m::r,i,st,h,hi=>by
  unfold opLoopP at h⊢
  split
  ·simp;omega
  ·rename_i hp
   rw[if_neg hp] at h
   have:=opLoopP_good r (i+1) st h (by omega)
   simp only[List.length_cons]
   omega
theorem cond_good {st:RS} (h:(condP st).2.bad=false):GoodCond (condP st).1:=by
 unfold condP at h⊢
 simp only at h⊢
 by_cases hp:peekP kIS (termP st).2=true
 ·simp only[hp,if_true] at h⊢
  have ha:=term_good (good_of acceptP_bad (good_of acceptP_bad (good_of expectP_bad h)))
  refine⟨?_,ha,Or.inr ⟨?_,rfl⟩⟩
  ·simp only;split<;>omega
  ·simp only;split<;>omega
 ·simp only[hp,if_false,Bool.false_eq_true] at h⊢
  have hb:=term_good h
  have ho:=good_of termP_bad h
  have hr:=opLoopP_good opsR 1 _ ho (by omega)
  have hl:opsR.length=6:=rfl
  rw[hl] at hr
  have ha:=term_good (good_of opLoopP_bad ho)
  exact⟨⟨hr.1,by simp only;omega⟩,ha,Or.inl ⟨by simp only;omega,hb⟩⟩
theorem item_good {st:RS} (h:(itemP st).2.bad=false):GoodItem (itemP st).1:=by
 unfold itemP at h⊢
 by_cases hp:peekP kCOUNT st=true
 ·simp only[hp,if_true] at h⊢
  exact Or.inl ⟨rfl,rfl⟩
 ·simp only[hp,if_false,Bool.false_eq_true] at h⊢
  by_cases hd:peekP mDot (nameP st).2=true
  ·simp only[hd,if_true] at h⊢
   exact Or.inr ⟨name_good (good_of acceptP_bad (good_of nameP_bad h)),Or.inr (name_good h)⟩
  ·simp only[hd,if_false,Bool.false_eq_true] at h⊢
   exact Or.inr ⟨name_good h,Or.inl rfl⟩
theorem pair_good {st:RS} (h:(pairP st).2.bad=false):GoodPair (pairP st).1:=by
 unfold pairP at h⊢
 simp only at h⊢
 exact⟨name_good (good_of expectP_bad (good_of numberP_bad h)),num_good h⟩
end Go.Proofs.YtobgbmfpicmpcaaGreatDoor.Pure

/- What is read is good, whole; its words are words, and few; what was written is read as it was. No program in this text. -/
namespace Go.Proofs.YtobgbmfpicmpcaaGreatDoor.Pure
theorem order_good {k:Int} {st:RS} (h:(orderP k st).2.bad=false) (hk:0≤k):0≤(orderP k st).1.1∧(orderP k st).1.1≤k∧((orderP k st).1.1=0→(orderP k st).1.2=false):=by
 unfold orderP at h⊢
 by_cases hp:peekP kORDER st=true
 ·simp only[hp,if_true] at h⊢
  have:=num_good (good_of acceptP_bad h)
  refine⟨by omega,this.2,fun e=>by omega⟩
 ·simp only[hp,if_false,Bool.false_eq_true] at h⊢
  exact⟨by omega,hk,fun _=>trivial⟩
theorem part_good {w:ByteArray} {d:Int} {st:RS} (h:(partP w d st).2.bad=false):(partP w d st).1=d∨(0≤(partP w d st).1∧(partP w d st).1≤1000000000):=by
 unfold partP at h⊢
 by_cases hp:peekP w st=true
 ·simp only[hp,if_true] at h⊢
  exact Or.inr (num_good h)
 ·simp only[hp,if_false,Bool.false_eq_true] at h⊢
  exact Or.inl trivial
theorem creation_good {st:RS} (h:(creationP st).2.bad=false):isTitle (creationP st).1.1=true∧(∀p∈(creationP st).1.2,GoodPair p)∧(creationP st).1.2.length≤6∧twiceP [] (creationP st).1.2=false:=by
 have ht:(titleP (expectP mOpen st)).2.bad=false:=good_of creationP_bad h
 unfold creationP at h⊢
 simp only at h⊢
 by_cases hp:peekP mBrace (titleP (expectP mOpen st)).2=true
 ·simp only[hp,if_true] at h⊢
  split at h
  ·cases h
  ·rename_i htw
   have h1:=good_of expectP_bad (good_of expectP_bad h)
   obtain⟨a,_,c⟩:=list_good pairP_bad pair_good h1
   exact⟨title_good ht,a,c,by simpa using htw⟩
 ·simp only[hp,if_false,Bool.false_eq_true] at h⊢
  exact⟨title_good ht,(fun p hp=>(by cases hp)),by simp,rfl⟩
theorem where_good {st:RS} (h:(whereP st).2.bad=false):(∀c∈(whereP st).1,GoodCond c)∧(whereP st).1.length≤6:=by
 unfold whereP at h⊢
 by_cases hp:peekP kWHERE st=true
 ·simp only[hp,if_true] at h⊢
  obtain⟨a,_,c⟩:=list_good condP_bad cond_good h
  exact⟨a,c⟩
 ·simp only[hp,if_false,Bool.false_eq_true] at h⊢
  exact⟨(fun c hc=>(by cases hc)),by simp⟩
theorem link_good {st:RS} (h:(linkP st).2.bad=false):isName (linkP st).1.1=true∧isTitle (linkP st).1.2.1=true∧isName (linkP st).1.2.2=true:=by
 unfold linkP at h⊢
 simp only at h⊢
 have h1:=good_of expectP_bad h
 have h2:=good_of expectP_bad (good_of expectP_bad (good_of nameP_bad h1))
 have h3:=good_of expectP_bad (good_of expectP_bad (good_of titleP_bad h2))
 exact⟨name_good h3,title_good h2,name_good h1⟩
theorem set_good {st:RS} (h:(setP st).2.bad=false):isName (setP st).1.1=true∧isName (setP st).1.2.1=true∧GoodTerm (setP st).1.2.2:=by
 unfold setP at h⊢
 simp only at h⊢
 have h1:=prop_good (good_of expectP_bad (good_of termP_bad h))
 exact⟨h1.1,h1.2,term_good h⟩
theorem read_good {st:RS} (h:(readP st).2.bad=false):(∀x∈(readP st).1.items,GoodItem x)∧(readP st).1.items≠[]∧(readP st).1.items.length≤6∧0≤(readP st).1.order∧(readP st).1.order≤(readP st).1.items.length∧((readP st).1.order=0→(readP st).1.down=false)∧0≤(readP st).1.skip∧(readP st).1.skip≤1000000000∧((readP st).1.limit=-1∨(0≤(readP st).1.limit∧(readP st).1.limit≤1000000000)):=by
 unfold readP at h⊢
 simp only at h⊢
 have h1:=good_of partP_bad h
 have h2:=good_of partP_bad h1
 have h3:=good_of orderP_bad h2
 obtain⟨a,b,c⟩:=list_good itemP_bad item_good h3
 obtain⟨o1,o2,o3⟩:=order_good h2 (by omega)
 have hs:=part_good h1
 have hl:=part_good h
 refine⟨a,b,c,o1,o2,o3,by omega,by omega,hl⟩
theorem action_good {q:PQuery} {st:RS} (h:(actionP q st).2.bad=false) (hm:GoodMatch q) (hq:q={query0 with spots:=q.spots,conds:=q.conds}):GoodQ (actionP q st).1:=by
 have mk:∀q':PQuery,q'.spots=q.spots→q'.conds=q.conds→GoodMatch q':=fun q' e1 e2=>⟨by rw[e1];exact hm.spots,by rw[e1];exact hm.first,by rw[e1];exact hm.spotn,by rw[e2];exact hm.conds,by rw[e2];exact hm.condn⟩
 unfold actionP at h⊢
 by_cases h1:peekP kRETURN st=true
 ·simp only[h1,if_true] at h⊢
  obtain⟨a,b,c,d,e,f,g,i,j⟩:=read_good h
  refine Or.inl ⟨mk _ rfl rfl,a,b,c,d,e,f,g,i,j,?_⟩
  rw[hq];rfl
 ·by_cases h2:peekP kSET st=true
  ·simp only[h1,h2,if_true,if_false,Bool.false_eq_true] at h⊢
   obtain⟨a,b,c⟩:=set_good h
   refine Or.inr (Or.inl ⟨mk _ rfl rfl,a,b,c,?_⟩)
   rw[hq];rfl
  ·by_cases h3:peekP kDELETE st=true
   ·simp only[h1,h2,h3,if_true,if_false,Bool.false_eq_true] at h⊢
    refine Or.inr (Or.inr (Or.inl ⟨mk _ rfl rfl,name_good h,?_⟩))
    rw[hq];rfl
   ·by_cases h4:peekP kCREATE st=true
    ·simp only[h1,h2,h3,h4,if_true,if_false,Bool.false_eq_true] at h⊢
     obtain⟨a,b,c⟩:=link_good h
     refine Or.inr (Or.inr (Or.inr (Or.inl ⟨mk _ rfl rfl,a,b,c,?_⟩)))
     rw[hq];rfl
    ·simp only[h1,h2,h3,h4,if_false,Bool.false_eq_true] at h
     cases h
theorem query_good {st:RS} (h:(queryP st).2.bad=false):GoodQ (queryP st).1:=by
 unfold queryP at h⊢
 by_cases h1:peekP kCALL st=true
 ·simp only[h1,if_true] at h⊢
  exact Or.inr (Or.inr (Or.inr (Or.inr (Or.inr ⟨name_good h,rfl⟩))))
 ·by_cases h2:peekP kCREATE st=true
  ·simp only[h1,h2,if_true,if_false,Bool.false_eq_true] at h⊢
   obtain⟨a,b,c,d⟩:=creation_good h
   exact Or.inr (Or.inr (Or.inr (Or.inr (Or.inl ⟨a,b,c,d,rfl⟩))))
  ·simp only[h1,h2,if_false,Bool.false_eq_true] at h⊢
   have ha:=good_of actionP_bad h
   have hs:=good_of whereP_bad ha
   obtain⟨a,b,c⟩:=spots_good hs
   obtain⟨d,e⟩:=where_good ha
   exact action_good h ⟨a,b,c,d,e⟩ rfl
def Wd (w:ByteArray):Prop:=WordOk w (tokOf w)∧w.size≤11
def WL (n:Nat) (l:List ByteArray):Prop:=(∀w∈l,Wd w)∧l.length≤n
theorem spaced_len:∀l:List ByteArray,(∀w∈l,Wd w)→(spaced l).length≤l.length*12
 | [],_=>by simp[spaced_nil]
 | w::r,h=>by
  rw[spaced_cons]
  have h1:=(h w (by simp)).2
  have h2:=spaced_len r (fun x hx=>h x (by simp[hx]))
  have hb:(bl w).length=w.size:=len_toList w
  simp only[List.length_cons,List.length_append,hb]
  omega
theorem joined_len {l:List ByteArray} (h:WL 160 l):(joined l).length≤2000:=by
 cases l with
 | nil=>simp[joined,Lib.join]
 | cons w r=>
  rw[joined_cons]
  have h1:=(h.1 w (by simp)).2
  have h2:=spaced_len r (fun x hx=>h.1 x (by simp[hx]))
  have h3:=h.2
  have hb:(bl w).length=w.size:=len_toList w
  simp only[List.length_cons,List.length_append,hb] at h3⊢
  omega
theorem parse_isgood {ts:List Tok} (h:(parseP ts).2=0):GoodQ (parseP ts).1:=by
 unfold parseP at h⊢
 simp only at h⊢
 split at h
 ·cases h
 ·rename_i hb
  rw[if_neg hb]
  split at h
  ·rename_i hs
   rw[if_pos hs]
   refine query_good ?_
   simp only[Bool.or_eq_true,not_or] at hb
   simpa using hb.1
  ·cases h
end Go.Proofs.YtobgbmfpicmpcaaGreatDoor.Pure

/- The library's contracts for strings.Clone's inner call, strconv.Atoi and strings.TrimPrefix, laid at this program's own numbers by the shelf's one command and its plain mode. -/
namespace Go.Proofs
open Go.Shelf
def Tryz.laysM316_ren : Go.Shelf.Ren := ⟨fun | 316 => 148 | n => n, fun | 9 => 9 | 3 => 3 | 4 => 4 | 37 => 168 | 0 => 0 | 127 => 247 | 5 => 5 | n => n, fun | n => n⟩
theorem Tryz.laysM316 : Go.Proofs.LaysM.n316 Tryz.prog Tryz.laysM316_ren := {
  mixed := by kernel_rfl
  f316 := Tryz.func148.trans (congrArg some (by kernel_rfl))
  t0 := Tryz.underlying0
  a0 := Tryz.isAgg0
  z0 := Tryz.sizeOf0
  v0 := Tryz.zeroValue0
  t3 := Tryz.underlying3
  a3 := Tryz.isAgg3
  z3 := Tryz.sizeOf3
  v3 := Tryz.zeroValue3
  t4 := Tryz.underlying4
  a4 := Tryz.isAgg4
  z4 := Tryz.sizeOf4
  v4 := Tryz.zeroValue4
  t9 := Tryz.underlying9
  a9 := Tryz.isAgg9
  z9 := Tryz.sizeOf9
  v9 := Tryz.zeroValue9
  t37 := Tryz.underlying168
  a37 := Tryz.isAgg168
  z37 := Tryz.sizeOf168
  v37 := Tryz.zeroValue168
  t127 := Tryz.underlying247
  a127 := Tryz.isAgg247
  z127 := Tryz.sizeOf247
  v127 := Tryz.zeroValue247
  t5 := Tryz.underlying5
  a5 := Tryz.isAgg5
  z5 := Tryz.sizeOf5
  v5 := Tryz.zeroValue5
  i0 := by kernel_rfl
  i3 := by kernel_rfl
  i4 := by kernel_rfl
  i5 := by kernel_rfl
  i9 := by kernel_rfl
  i37 := by kernel_rfl
  i127 := by kernel_rfl }
open Go.RowKit in
theorem Tryz.stringslite_Clone (s : ByteArray) (w : World) (hlim : s.size ≤ 281474976710656) :
    Calls Tryz.prog 148 #[.string s] w fun e w' => e = .returned (.string s) ∧ Below w.heap.size w w' := Any.stringslite_Clone Tryz.laysM316 s w hlim
def Tryz.laysC172_ren : Go.Shelf.Ren := ⟨fun | 172 => 274 | 244 => 319 | 245 => 320 | 247 => 346 | 279 => 347 | 280 => 348 | 281 => 349 | 282 => 350 | 287 => 360 | 316 => 148 | 171 => 36 | 205 => 361 | 321 => 384 | 322 => 385 | 243 => 77 | 246 => 149 | 283 => 206 | 284 => 207 | 285 => 208 | 286 => 209 | 129 => 253 | 317 => 269 | 318 => 270 | 319 => 271 | 320 => 272 | 337 => 316 | 338 => 317 | n => n, fun | 9 => 9 | 3 => 3 | 75 => 177 | 76 => 178 | 4 => 4 | 5 => 5 | 167 => 409 | 37 => 168 | 0 => 0 | 85 => 410 | 2 => 2 | 168 => 412 | 53 => 278 | 175 => 423 | 46 => 204 | 210 => 426 | 127 => 247 | 145 => 442 | 143 => 440 | 21 => 21 | 171 => 277 | 173 => 281 | 212 => 348 | 51 => 327 | 20 => 20 | 213 => 349 | 232 => 407 | 233 => 408 | 80 => 79 | n => n, fun | 15 => 4 | 16 => 5 | 17 => 0 | 18 => 2 | 19 => 3 | n => n⟩
theorem Tryz.laysC172 : Go.Proofs.LaysC.n172 Tryz.prog Tryz.laysC172_ren := {
  mixed := by kernel_rfl
  f129 := Tryz.func253.trans (congrArg some (by kernel_rfl))
  f171 := Tryz.func36.trans (congrArg some (by kernel_rfl))
  f172 := Tryz.func274.trans (congrArg some (by kernel_rfl))
  f205 := Tryz.func361.trans (congrArg some (by kernel_rfl))
  f243 := Tryz.func77.trans (congrArg some (by kernel_rfl))
  f244 := Tryz.func319.trans (congrArg some (by kernel_rfl))
  f245 := Tryz.func320.trans (congrArg some (by kernel_rfl))
  f246 := Tryz.func149.trans (congrArg some (by kernel_rfl))
  f247 := Tryz.func346.trans (congrArg some (by kernel_rfl))
  f279 := Tryz.func347.trans (congrArg some (by kernel_rfl))
  f280 := Tryz.func348.trans (congrArg some (by kernel_rfl))
  f281 := Tryz.func349.trans (congrArg some (by kernel_rfl))
  f282 := Tryz.func350.trans (congrArg some (by kernel_rfl))
  f283 := Tryz.func206.trans (congrArg some (by kernel_rfl))
  f284 := Tryz.func207.trans (congrArg some (by kernel_rfl))
  f285 := Tryz.func208.trans (congrArg some (by kernel_rfl))
  f286 := Tryz.func209.trans (congrArg some (by kernel_rfl))
  f287 := Tryz.func360.trans (congrArg some (by kernel_rfl))
  f316 := Tryz.func148.trans (congrArg some (by kernel_rfl))
  f317 := Tryz.func269.trans (congrArg some (by kernel_rfl))
  f318 := Tryz.func270.trans (congrArg some (by kernel_rfl))
  f319 := Tryz.func271.trans (congrArg some (by kernel_rfl))
  f320 := Tryz.func272.trans (congrArg some (by kernel_rfl))
  f321 := Tryz.func384.trans (congrArg some (by kernel_rfl))
  f322 := Tryz.func385.trans (congrArg some (by kernel_rfl))
  f337 := Tryz.func316.trans (congrArg some (by kernel_rfl))
  f338 := Tryz.func317.trans (congrArg some (by kernel_rfl))
  t0 := Tryz.underlying0
  a0 := Tryz.isAgg0
  z0 := Tryz.sizeOf0
  v0 := Tryz.zeroValue0
  t2 := Tryz.underlying2
  a2 := Tryz.isAgg2
  z2 := Tryz.sizeOf2
  v2 := Tryz.zeroValue2
  t3 := Tryz.underlying3
  a3 := Tryz.isAgg3
  z3 := Tryz.sizeOf3
  v3 := Tryz.zeroValue3
  t4 := Tryz.underlying4
  a4 := Tryz.isAgg4
  z4 := Tryz.sizeOf4
  v4 := Tryz.zeroValue4
  t5 := Tryz.underlying5
  a5 := Tryz.isAgg5
  z5 := Tryz.sizeOf5
  v5 := Tryz.zeroValue5
  t9 := Tryz.underlying9
  a9 := Tryz.isAgg9
  z9 := Tryz.sizeOf9
  v9 := Tryz.zeroValue9
  t20 := Tryz.underlying20
  a20 := Tryz.isAgg20
  z20 := Tryz.sizeOf20
  v20 := Tryz.zeroValue20
  t21 := Tryz.underlying21
  a21 := Tryz.isAgg21
  z21 := Tryz.sizeOf21
  v21 := Tryz.zeroValue21
  t37 := Tryz.underlying168
  a37 := Tryz.isAgg168
  z37 := Tryz.sizeOf168
  v37 := Tryz.zeroValue168
  t46 := Tryz.underlying204
  a46 := Tryz.isAgg204
  z46 := Tryz.sizeOf204
  v46 := Tryz.zeroValue204
  t51 := Tryz.underlying327
  a51 := Tryz.isAgg327
  z51 := Tryz.sizeOf327
  v51 := Tryz.zeroValue327
  t53 := Tryz.underlying278
  a53 := Tryz.isAgg278
  z53 := Tryz.sizeOf278
  v53 := Tryz.zeroValue278
  t75 := Tryz.underlying177
  a75 := Tryz.isAgg177
  z75 := Tryz.sizeOf177
  v75 := Tryz.zeroValue177
  t76 := Tryz.underlying178
  a76 := Tryz.isAgg178
  z76 := Tryz.sizeOf178
  v76 := Tryz.zeroValue178
  t85 := Tryz.underlying410
  a85 := Tryz.isAgg410
  z85 := Tryz.sizeOf410
  v85 := Tryz.zeroValue410
  t127 := Tryz.underlying247
  a127 := Tryz.isAgg247
  z127 := Tryz.sizeOf247
  v127 := Tryz.zeroValue247
  t143 := Tryz.underlying440
  a143 := Tryz.isAgg440
  z143 := Tryz.sizeOf440
  v143 := Tryz.zeroValue440
  t145 := Tryz.underlying442
  a145 := Tryz.isAgg442
  z145 := Tryz.sizeOf442
  v145 := Tryz.zeroValue442
  t167 := Tryz.underlying409
  a167 := Tryz.isAgg409
  z167 := Tryz.sizeOf409
  v167 := Tryz.zeroValue409
  t168 := Tryz.underlying412
  a168 := Tryz.isAgg412
  z168 := Tryz.sizeOf412
  v168 := Tryz.zeroValue412
  t171 := Tryz.underlying277
  a171 := Tryz.isAgg277
  z171 := Tryz.sizeOf277
  v171 := Tryz.zeroValue277
  t173 := Tryz.underlying281
  a173 := Tryz.isAgg281
  z173 := Tryz.sizeOf281
  v173 := Tryz.zeroValue281
  t175 := Tryz.underlying423
  a175 := Tryz.isAgg423
  z175 := Tryz.sizeOf423
  v175 := Tryz.zeroValue423
  t210 := Tryz.underlying426
  a210 := Tryz.isAgg426
  z210 := Tryz.sizeOf426
  v210 := Tryz.zeroValue426
  t212 := Tryz.underlying348
  a212 := Tryz.isAgg348
  z212 := Tryz.sizeOf348
  v212 := Tryz.zeroValue348
  t213 := Tryz.underlying349
  a213 := Tryz.isAgg349
  z213 := Tryz.sizeOf349
  t232 := Tryz.underlying407
  a232 := Tryz.isAgg407
  z232 := Tryz.sizeOf407
  v232 := Tryz.zeroValue407
  t233 := Tryz.underlying408
  a233 := Tryz.isAgg408
  z233 := Tryz.sizeOf408
  v233 := Tryz.zeroValue408
  g15 := by kernel_rfl
  g16 := by kernel_rfl
  g17 := by kernel_rfl
  g18 := by kernel_rfl
  g19 := by kernel_rfl
  t80 := Tryz.underlying79
  a80 := Tryz.isAgg79
  z80 := Tryz.sizeOf79
  v80 := Tryz.zeroValue79
  i0 := by kernel_rfl
  i2 := by kernel_rfl
  i3 := by kernel_rfl
  i4 := by kernel_rfl
  i5 := by kernel_rfl
  i9 := by kernel_rfl
  i20 := by kernel_rfl
  i21 := by kernel_rfl
  i37 := by kernel_rfl
  i46 := by kernel_rfl
  i51 := by kernel_rfl
  i53 := by kernel_rfl
  i75 := by kernel_rfl
  i76 := by kernel_rfl
  i80 := by kernel_rfl
  i85 := by kernel_rfl
  i127 := by kernel_rfl
  i143 := by kernel_rfl
  i145 := by kernel_rfl
  i167 := by kernel_rfl
  i168 := by kernel_rfl
  i171 := by kernel_rfl
  i173 := by kernel_rfl
  i175 := by kernel_rfl
  i210 := by kernel_rfl
  i212 := by kernel_rfl
  i232 := by kernel_rfl
  i233 := by kernel_rfl
  m15 := by kernel_rfl
  m16 := by kernel_rfl
  m17 := by kernel_rfl
  m18 := by kernel_rfl
  m19 := by kernel_rfl
  c0 := by kernel_rfl
  c2 := by kernel_rfl
  c3 := by kernel_rfl
  c4 := by kernel_rfl
  c5 := by kernel_rfl
  c9 := by kernel_rfl
  c20 := by kernel_rfl
  c21 := by kernel_rfl
  c37 := by kernel_rfl
  c46 := by kernel_rfl
  c51 := by kernel_rfl
  c53 := by kernel_rfl
  c75 := by kernel_rfl
  c76 := by kernel_rfl
  c80 := by kernel_rfl
  c85 := by kernel_rfl
  c127 := by kernel_rfl
  c143 := by kernel_rfl
  c145 := by kernel_rfl
  c167 := by kernel_rfl
  c168 := by kernel_rfl
  c171 := by kernel_rfl
  c173 := by kernel_rfl
  c175 := by kernel_rfl
  c210 := by kernel_rfl
  c212 := by kernel_rfl
  c213 := by kernel_rfl
  c232 := by kernel_rfl
  c233 := by kernel_rfl }
open Go.RowKit in
theorem Tryz.strconv_Atoi_ok (s : ByteArray) (hmax : s.size ≤ 9223372036854775806) (v : Int) (h : Lib.atoiAll s.data.toList = .ok v) (w : World) :
    Calls Tryz.prog 274 #[.string s] w fun e w' => e = .returned (.tuple #[.int .i64 v, .nilIface]) ∧ (w' = w ∨ ∃ t, w' = Lib.bytesWorld w 5 t) := Any.strconv_Atoi_ok Tryz.laysC172 s hmax v h w
open Go.RowKit in
theorem Tryz.strconv_Atoi_range (s : ByteArray) (hlim : s.size ≤ 281474976710656) (h : Lib.atoiAll s.data.toList = .range) (ev : Value) (w : World) (hv : w.cell? ⟨5, 0, none⟩ = some ev) (hev : ev = .nilIface ∨ ∃ te pe, ev = .iface te pe) :
    Calls Tryz.prog 274 #[.string s] w fun e w' => ∃ N, e = .returned (.tuple #[.int .i64 (Lib.atoiSat s.data.toList), .iface 412 (.pointer (some ⟨N, 0, none⟩))]) ∧ w.heap.size ≤ N ∧ w'.heap[N]? = some (.cells #[.string ⟨#[65, 116, 111, 105]⟩, .string s, ev] 426 (0, 0)) ∧ Below w.heap.size w w' := Any.strconv_Atoi_range Tryz.laysC172 s hlim h ev w hv hev
def Tryz.lays101_ren : Go.Shelf.Ren := ⟨fun | 101 => 273 | 208 => 318 | 206 => 326 | n => n, fun | 9 => 9 | 4 => 4 | 3 => 3 | n => n, fun | n => n⟩
theorem Tryz.lays101 : Go.Proofs.Lays.n101 Tryz.prog Tryz.lays101_ren := {
  mixed := by kernel_rfl
  f101 := Tryz.func273.trans (congrArg some (by kernel_rfl))
  f206 := Tryz.func326.trans (congrArg some (by kernel_rfl))
  f208 := Tryz.func318.trans (congrArg some (by kernel_rfl))
  t3 := Tryz.underlying3
  a3 := Tryz.isAgg3
  z3 := Tryz.sizeOf3
  v3 := Tryz.zeroValue3
  t4 := Tryz.underlying4
  a4 := Tryz.isAgg4
  z4 := Tryz.sizeOf4
  v4 := Tryz.zeroValue4
  t9 := Tryz.underlying9
  a9 := Tryz.isAgg9
  z9 := Tryz.sizeOf9
  v9 := Tryz.zeroValue9 }
open Go.RowKit Go.Lib in
theorem Tryz.strings_TrimPrefix (s p : ByteArray) (w : World) :
    Calls Tryz.prog 273 #[.string s, .string p] w fun e w' => e = .returned (.string ⟨(Lib.trimPrefix s.data.toList p.data.toList).toArray⟩) ∧ w' = w := Any.strings_TrimPrefix Tryz.lays101 s p w
end Go.Proofs

/- What the program's cutting machine holds between its steps, and the small facts that carry it. No walk in this text. -/
namespace Go.Proofs.YtobgbmfpicmpcaaGreatDoor
open Go.RowKit
def Box (W:World) (b:Nat) (s:ByteArray) (f a:Int) (lv:Value):Prop:=
 W.heap[b]?=some (.cells #[.string s,.int .i64 f,.int .i64 a,lv] 163 (0,0))
structure Inv (w0:World) (b:Nat) (s:ByteArray) (f a:Int) (acc:List Tok) (W:World):Prop where
 below:Below w0.heap.size w0 W
 bge:w0.heap.size≤b
 cut:∃lv,Box W b s f a lv∧W.ownsRow w0.heap.size 153 3 lv acc.length (tokCells acc)
theorem Box.lt {W:World} {b:Nat} {s:ByteArray} {f a:Int} {lv:Value} (h:Box W b s f a lv):b<W.heap.size:=lt_of_block h
theorem Box.cells {W:World} {b:Nat} {s:ByteArray} {f a:Int} {lv:Value} (h:Box W b s f a lv):
  W.cell? ⟨b,0,none⟩=some (.string s)∧W.cell? ⟨b,1,none⟩=some (.int .i64 f)∧W.cell? ⟨b,2,none⟩=some (.int .i64 a)∧W.cell? ⟨b,3,none⟩=some lv:=by
 unfold Box at h
 refine⟨?_,?_,?_,?_⟩<;>simp[World.cell?,h]
theorem Box.free {W:World} {b:Nat} {s:ByteArray} {f a:Int} {lv:Value} (h:Box W b s f a lv) (j:Nat):W.frozen? ⟨b,j,none⟩=false:=by
 unfold Box at h
 simp[World.frozen?,h]
theorem heap_setCell_at {w:World} {b j:Nat} {cs:Array Value} {t:TypeId} {u:Value} (h:w.heap[b]?=some (.cells cs t (0,0))):(w.setCell ⟨b,j,none⟩ u).heap[b]?=some (.cells (cs.setIfInBounds j u) t (0,0)):=by
 simp[World.setCell,Array.getElem?_modify,h]
theorem Box.setAt {W:World} {b:Nat} {s:ByteArray} {f a:Int} {lv:Value} (h:Box W b s f a lv) (a':Int):Box (W.setCell ⟨b,2,none⟩ (.int .i64 a')) b s f a' lv:=heap_setCell_at h
theorem Box.setFrom {W:World} {b:Nat} {s:ByteArray} {f a:Int} {lv:Value} (h:Box W b s f a lv) (f':Int):Box (W.setCell ⟨b,1,none⟩ (.int .i64 f')) b s f' a lv:=heap_setCell_at h
theorem Box.setList {W:World} {b:Nat} {s:ByteArray} {f a:Int} {lv:Value} (h:Box W b s f a lv) (lv':Value):Box (W.setCell ⟨b,3,none⟩ lv') b s f a lv':=heap_setCell_at h
theorem Box.drew {W:World} {b:Nat} {s:ByteArray} {f a:Int} {lv:Value} (h:Box W b s f a lv) (n:Nat):Box (W.drewN n) b s f a lv:=h
theorem Box.old {W W':World} {b:Nat} {s:ByteArray} {f a:Int} {lv:Value} (h:Box W b s f a lv) (hb:Below W.heap.size W W'):Box W' b s f a lv:=by
 unfold Box;rw[hb.block b h.lt];exact h
theorem Box.ne {W:World} {b B:Nat} {s:ByteArray} {f a:Int} {lv v:Value} {n:Nat} {xs:List Value} (h:Box W b s f a lv) (ho:W.ownsRow B 153 3 v n xs):v.ownBlock≠some b:=by
 intro he
 rcases ho.2 with ⟨rfl,_⟩|⟨g,cap,cur,rfl,hb,hg,_⟩
 ·simp[Value.ownBlock] at he
 ·simp[Value.ownBlock] at he
  subst he
  unfold Box at h
  rw[hg] at h
  simp at h
theorem Inv.drew {w0 W:World} {b:Nat} {s:ByteArray} {f a:Int} {acc:List Tok} (h:Inv w0 b s f a acc W) (n:Nat):Inv w0 b s f a acc (W.drewN n):=
 ⟨below_drewN h.below n,h.bge,h.cut⟩
theorem Inv.old {w0 W W':World} {b:Nat} {s:ByteArray} {f a:Int} {acc:List Tok} (h:Inv w0 b s f a acc W) (hb:Below W.heap.size W W'):Inv w0 b s f a acc W':=by
 obtain⟨lv,hx,ho⟩:=h.cut
 exact⟨h.below.trans (hb.mono h.below.size),h.bge,lv,hx.old hb,own_below ho hb⟩
theorem Inv.setAt {w0 W:World} {b:Nat} {s:ByteArray} {f a:Int} {acc:List Tok} (h:Inv w0 b s f a acc W) (a':Int):Inv w0 b s f a' acc (W.setCell ⟨b,2,none⟩ (.int .i64 a')):=by
 obtain⟨lv,hx,ho⟩:=h.cut
 exact⟨h.below.setCell h.bge _,h.bge,lv,hx.setAt a',ownsRow_setCell_other ho (hx.ne ho) _⟩
theorem Inv.setFrom {w0 W:World} {b:Nat} {s:ByteArray} {f a:Int} {acc:List Tok} (h:Inv w0 b s f a acc W) (f':Int):Inv w0 b s f' a acc (W.setCell ⟨b,1,none⟩ (.int .i64 f')):=by
 obtain⟨lv,hx,ho⟩:=h.cut
 exact⟨h.below.setCell h.bge _,h.bge,lv,hx.setFrom f',ownsRow_setCell_other ho (hx.ne ho) _⟩
theorem Inv.alloc {w0 W:World} {b:Nat} {s:ByteArray} {f a:Int} {acc:List Tok} (h:Inv w0 b s f a acc W) (o:Obj):Inv w0 b s f a acc (W.alloc o):=
 h.old ((Below.refl _ _).alloc (Nat.le_refl _) o)
end Go.Proofs.YtobgbmfpicmpcaaGreatDoor

/- The program's small steps over the text: 'goesOn' with each class of bytes, and 'takes': each answers whether the next byte is of the class, and goes one place on if so. -/
namespace Go.Proofs.YtobgbmfpicmpcaaGreatDoor
open Go.RowKit
set_option maxHeartbeats 400000 in
theorem takes1 (c d:Int) (p:Nat) (w:World) (hp:w.cell? ⟨p,0,none⟩=some (.int .u8 d)):Calls Tryz.prog 212 #[.int .u8 c,.pointer (some ⟨p,0,none⟩)] w fun e w'=>e=.returned (.bool (c==d))∧w'=w:=by
 go_enter Tryz.func212,Tryz.ntmps212
 go_wp2
 go_ret
 exact⟨rfl,rfl⟩
theorem lt_of_class {p:Int→Bool} {s:ByteArray} {a:Nat} (hp:p (bt s a)=true) (hno:p (-1)=false):a<s.size:=by
 by_cases h:a<s.size
 ·exact h
 ·rw[bt_out h,hno] at hp;cases hp
theorem letB_end:letB (-1)=false:=letB_no (by omega)
theorem digB_end:digB (-1)=false:=digB_no (by omega)
set_option maxRecDepth 100000 in
set_option maxHeartbeats 1000000 in
theorem goesLetterYes {w0 W:World} {b:Nat} {s:ByteArray} {f:Int} {a:Nat} {acc:List Tok} (hinv:Inv w0 b s f (a:Nat) acc W) (hs:s.size≤2000) (hp:letB (bt s a)=true):
  Calls Tryz.prog 211 #[.pointer (some ⟨b,0,none⟩),.func (.func 204) #[] #[]] W fun e W'=>e=.returned (.bool true)∧Inv w0 b s f ((a+1:Nat):Int) acc W':=by
 have hlt:a<s.size:=lt_of_class hp letB_end
 rw[←bt_in hlt] at hp
 have HI:Hid (Inv w0 b s f (a:Nat) acc W):=hinv
 obtain⟨lv,hx,ho⟩:=hinv.cut
 obtain⟨c0,c1,c2,c3⟩:=hx.cells
 have f2:=hx.free 2
 clear hinv hx ho c1 c3
 have hne:((a:Int)==(s.size:Int))=false:=by simp;omega
 go_enter Tryz.func211,Tryz.ntmps211
 go_wp2
 go_quiet ((go_at_call 204;exact Calls.quiet_of_same (isLetter _ _)))
 go_wp2
 go_ret
 exact⟨rfl,(HI.out.drew nq).setAt _⟩
set_option maxRecDepth 100000 in
set_option maxHeartbeats 1000000 in
theorem goesLetterNo {w0 W:World} {b:Nat} {s:ByteArray} {f:Int} {a:Nat} {acc:List Tok} (hinv:Inv w0 b s f (a:Nat) acc W) (ha:a≤s.size) (hp:letB (bt s a)=false):
  Calls Tryz.prog 211 #[.pointer (some ⟨b,0,none⟩),.func (.func 204) #[] #[]] W fun e W'=>e=.returned (.bool false)∧Inv w0 b s f (a:Nat) acc W':=by
 have HI:Hid (Inv w0 b s f (a:Nat) acc W):=hinv
 obtain⟨lv,hx,ho⟩:=hinv.cut
 obtain⟨c0,c1,c2,c3⟩:=hx.cells
 clear hinv hx ho c1 c3
 by_cases hlt:a<s.size
 ·rw[←bt_in hlt] at hp
  have hne:((a:Int)==(s.size:Int))=false:=by simp;omega
  go_enter Tryz.func211,Tryz.ntmps211
  go_wp2
  go_quiet ((go_at_call 204;exact Calls.quiet_of_same (isLetter _ _)))
  go_wp2
  go_ret
  exact⟨rfl,HI.out.drew nq⟩
 ·clear hp
  have hne:((a:Int)==(s.size:Int))=true:=by simp;omega
  go_enter Tryz.func211,Tryz.ntmps211
  go_wp2
  go_quiet ((go_at_call 204;exact Calls.quiet_of_same (isLetter _ _)))
  go_wp2
  go_ret
  exact⟨rfl,HI.out.drew nq⟩
set_option maxRecDepth 100000 in
set_option maxHeartbeats 1000000 in
theorem goesDigitYes {w0 W:World} {b:Nat} {s:ByteArray} {f:Int} {a:Nat} {acc:List Tok} (hinv:Inv w0 b s f (a:Nat) acc W) (hs:s.size≤2000) (hp:digB (bt s a)=true):
  Calls Tryz.prog 211 #[.pointer (some ⟨b,0,none⟩),.func (.func 205) #[] #[]] W fun e W'=>e=.returned (.bool true)∧Inv w0 b s f ((a+1:Nat):Int) acc W':=by
 have hlt:a<s.size:=lt_of_class hp digB_end
 rw[←bt_in hlt] at hp
 have HI:Hid (Inv w0 b s f (a:Nat) acc W):=hinv
 obtain⟨lv,hx,ho⟩:=hinv.cut
 obtain⟨c0,c1,c2,c3⟩:=hx.cells
 have f2:=hx.free 2
 clear hinv hx ho c1 c3
 have hne:((a:Int)==(s.size:Int))=false:=by simp;omega
 go_enter Tryz.func211,Tryz.ntmps211
 go_wp2
 go_quiet ((go_at_call 205;exact Calls.quiet_of_same (isDigit _ _)))
 go_wp2
 go_ret
 exact⟨rfl,(HI.out.drew nq).setAt _⟩
set_option maxRecDepth 100000 in
set_option maxHeartbeats 1000000 in
theorem goesDigitNo {w0 W:World} {b:Nat} {s:ByteArray} {f:Int} {a:Nat} {acc:List Tok} (hinv:Inv w0 b s f (a:Nat) acc W) (ha:a≤s.size) (hp:digB (bt s a)=false):
  Calls Tryz.prog 211 #[.pointer (some ⟨b,0,none⟩),.func (.func 205) #[] #[]] W fun e W'=>e=.returned (.bool false)∧Inv w0 b s f (a:Nat) acc W':=by
 have HI:Hid (Inv w0 b s f (a:Nat) acc W):=hinv
 obtain⟨lv,hx,ho⟩:=hinv.cut
 obtain⟨c0,c1,c2,c3⟩:=hx.cells
 clear hinv hx ho c1 c3
 by_cases hlt:a<s.size
 ·rw[←bt_in hlt] at hp
  have hne:((a:Int)==(s.size:Int))=false:=by simp;omega
  go_enter Tryz.func211,Tryz.ntmps211
  go_wp2
  go_quiet ((go_at_call 205;exact Calls.quiet_of_same (isDigit _ _)))
  go_wp2
  go_ret
  exact⟨rfl,HI.out.drew nq⟩
 ·clear hp
  have hne:((a:Int)==(s.size:Int))=true:=by simp;omega
  go_enter Tryz.func211,Tryz.ntmps211
  go_wp2
  go_quiet ((go_at_call 205;exact Calls.quiet_of_same (isDigit _ _)))
  go_wp2
  go_ret
  exact⟨rfl,HI.out.drew nq⟩
set_option maxRecDepth 100000 in
set_option maxHeartbeats 1000000 in
theorem goesByteYes {w0 W:World} {b:Nat} {s:ByteArray} {f:Int} {a:Nat} {acc:List Tok} {d:Int} {q:Nat} (hd:0≤d) (hq:W.cell? ⟨q,0,none⟩=some (.int .u8 d)) (hinv:Inv w0 b s f (a:Nat) acc W) (hs:s.size≤2000) (hp:((bt s a)==d)=true):
  Calls Tryz.prog 211 #[.pointer (some ⟨b,0,none⟩),.func (.func 212) #[] #[.pointer (some ⟨q,0,none⟩)]] W fun e W'=>e=.returned (.bool true)∧Inv w0 b s f ((a+1:Nat):Int) acc W':=by
 have hlt:a<s.size:=lt_of_class (p:=fun x=>x==d) hp (by simp;omega)
 rw[←bt_in hlt] at hp
 have HI:Hid (Inv w0 b s f (a:Nat) acc W):=hinv
 obtain⟨lv,hx,ho⟩:=hinv.cut
 obtain⟨c0,c1,c2,c3⟩:=hx.cells
 have f2:=hx.free 2
 clear hinv hx ho c1 c3
 have hne:((a:Int)==(s.size:Int))=false:=by simp;omega
 go_enter Tryz.func211,Tryz.ntmps211
 go_wp2
 go_quiet ((go_at_call 212;exact Calls.quiet_of_same (takes1 _ _ _ _ hq)))
 go_wp2
 go_ret
 exact⟨rfl,(HI.out.drew nq).setAt _⟩
set_option maxRecDepth 100000 in
set_option maxHeartbeats 1000000 in
theorem goesByteNo {w0 W:World} {b:Nat} {s:ByteArray} {f:Int} {a:Nat} {acc:List Tok} {d:Int} {q:Nat} (hq:W.cell? ⟨q,0,none⟩=some (.int .u8 d)) (hinv:Inv w0 b s f (a:Nat) acc W) (ha:a≤s.size) (hp:((bt s a)==d)=false):
  Calls Tryz.prog 211 #[.pointer (some ⟨b,0,none⟩),.func (.func 212) #[] #[.pointer (some ⟨q,0,none⟩)]] W fun e W'=>e=.returned (.bool false)∧Inv w0 b s f (a:Nat) acc W':=by
 have HI:Hid (Inv w0 b s f (a:Nat) acc W):=hinv
 obtain⟨lv,hx,ho⟩:=hinv.cut
 obtain⟨c0,c1,c2,c3⟩:=hx.cells
 clear hinv hx ho c1 c3
 by_cases hlt:a<s.size
 ·rw[←bt_in hlt] at hp
  have hne:((a:Int)==(s.size:Int))=false:=by simp;omega
  go_enter Tryz.func211,Tryz.ntmps211
  go_wp2
  go_quiet ((go_at_call 212;exact Calls.quiet_of_same (takes1 _ _ _ _ hq)))
  go_wp2
  go_ret
  exact⟨rfl,HI.out.drew nq⟩
 ·clear hp
  have hne:((a:Int)==(s.size:Int))=true:=by simp;omega
  go_enter Tryz.func211,Tryz.ntmps211
  go_wp2
  go_quiet ((go_at_call 212;exact Calls.quiet_of_same (takes1 _ _ _ _ hq)))
  go_wp2
  go_ret
  exact⟨rfl,HI.out.drew nq⟩
set_option maxHeartbeats 400000 in
theorem takesYes {w0 W:World} {b:Nat} {s:ByteArray} {f:Int} {a:Nat} {acc:List Tok} {d:Int} (hd:0≤d) (hinv:Inv w0 b s f (a:Nat) acc W) (hs:s.size≤2000) (hp:(bt s a==d)=true):
  Calls Tryz.prog 153 #[.pointer (some ⟨b,0,none⟩),.int .u8 d] W fun e W'=>e=.returned (.bool true)∧Inv w0 b s f ((a+1:Nat):Int) acc W':=by
 have HI:Hid (Inv w0 b s f (a:Nat) acc W):=hinv
 have HP:Hid ((bt s a==d)=true):=hp
 clear hinv hp
 go_enter Tryz.func153,Tryz.ntmps153
 go_wp2_with (go_at_call 211;refine(goesByteYes hd (by simp) (HI.out.alloc _) hs HP.out).mono ?_;rintro e W' ⟨rfl,h1⟩)
 go_ret
 exact⟨rfl,h1⟩
set_option maxHeartbeats 400000 in
theorem takesNo {w0 W:World} {b:Nat} {s:ByteArray} {f:Int} {a:Nat} {acc:List Tok} {d:Int} (hinv:Inv w0 b s f (a:Nat) acc W) (ha:a≤s.size) (hp:(bt s a==d)=false):
  Calls Tryz.prog 153 #[.pointer (some ⟨b,0,none⟩),.int .u8 d] W fun e W'=>e=.returned (.bool false)∧Inv w0 b s f (a:Nat) acc W':=by
 have HI:Hid (Inv w0 b s f (a:Nat) acc W):=hinv
 have HP:Hid ((bt s a==d)=false):=hp
 clear hinv hp
 go_enter Tryz.func153,Tryz.ntmps153
 go_wp2_with (go_at_call 211;refine(goesByteNo (by simp) (HI.out.alloc _) ha HP.out).mono ?_;rintro e W' ⟨rfl,h1⟩)
 go_ret
 exact⟨rfl,h1⟩
end Go.Proofs.YtobgbmfpicmpcaaGreatDoor

