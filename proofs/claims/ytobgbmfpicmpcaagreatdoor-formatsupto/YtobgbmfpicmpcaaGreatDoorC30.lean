/- The law's asLent: the lists that were handed in read as they did, their spare room too. -/
import Derived.Test.YtobgbmfpicmpcaaGreatDoorC28
import Derived.Test.YtobgbmfpicmpcaaGreatDoorC21
import Derived.Lib.QuietBelow
import Derived.BigRegion
import Derived.Test.YtobgbmfpicmpcaaGreatDoorC27
import Derived.Test.YtobgbmfpicmpcaaGreatDoorC29
namespace Go.Proofs.YtobgbmfpicmpcaaGreatDoor
open Go Go.RowKit Go.Sort
theorem Lends.row {w:World} {B k n G:Nat} {T:TypeId} {v:Value} (h:w.ownsRow B T 1 v 1 [.slice (some ⟨G,0,none⟩) n k]):∃g cap,v=.slice (some ⟨g,0,none⟩) 1 cap∧w.cell? ⟨g,0,none⟩=some (.slice (some ⟨G,0,none⟩) n k):=by
 rcases h.2 with ⟨_,h0⟩|⟨g,cap,cur,hv,_⟩
 ·omega
 ·subst hv
  exact⟨g,cap,rfl,h.cellAt 0 (by omega)⟩
theorem sees_row {w:World} {G n k c:Nat} {T:TypeId} {l r:List Value} (h:Loc w G (l++r).toArray T) (hl:l.length=n*k) (hm:n≤c):Sees w k (.slice (some ⟨G,0,none⟩) n c) n l:=by
 refine⟨hl,_,_,rfl,hm,fun _=>⟨G,0,rfl,fun j u hu=>?_⟩⟩
 rw[Nat.zero_add,h.cell]
 have hj:j<l.length:=by
  by_cases hj:j<l.length
  ·exact hj
  ·rw[List.getElem?_eq_none (by omega)] at hu;cases hu
 rw[List.getElem?_toArray,List.getElem?_append_left hj]
 exact hu
theorem mark_cell {w:World} {G n k i j:Nat} {T:TypeId} {l mk:List Value} {v:Value} (h:Loc w G (l++(mk++mk)).toArray T) (hl:l.length=n*k) (hk:mk.length=k) (hi:i<2) (hj:mk[j]?=some v):w.cell? ⟨G,(n+i)*k+j,none⟩=some v:=by
 rw[h.cell,List.getElem?_toArray]
 have hjl:j<mk.length:=by
  by_cases hj':j<mk.length
  ·exact hj'
  ·rw[List.getElem?_eq_none (by omega)] at hj;cases hj
 have e:(n+i)*k+j=l.length+(i*k+j):=by rw[Nat.add_mul,hl];omega
 rw[e,List.getElem?_append_right (by omega),Nat.add_sub_cancel_left]
 rcases (show i=0∨i=1 by omega) with rfl|rfl
 ·rw[Nat.zero_mul,Nat.zero_add,List.getElem?_append_left hjl];exact hj
 ·rw[Nat.one_mul,List.getElem?_append_right (by omega),←hk,Nat.add_sub_cancel_left];exact hj
structure A5 (w:World) (U X Y:Nat) (oc qx cy:Array Value) (z:World):Prop where
 low:Below w.heap.size w z
 lu:Loc z U oc 39
 lx:Loc z X qx 29
 ly:Loc z Y cy 29
 bd:w.heap.size≤Y∧Y≠X
theorem A5.quiet {w z z2:World} {U X Y:Nat} {oc qx cy:Array Value} (h:A5 w U X Y oc qx cy z) (g:z.grownBy z2 none):A5 w U X Y oc qx cy z2:=
 ⟨below_grown h.low (Nat.le_refl _) g (fun x e=>by cases e),h.lu.grown g (by simp),h.lx.grown g (by simp),h.ly.grown g (by simp),h.bd⟩
theorem A5.later {w z z2:World} {U X Y:Nat} {oc qx cy:Array Value} (h:A5 w U X Y oc qx cy z) (hb:Below z.heap.size z z2):A5 w U X Y oc qx cy z2:=h.quiet (grown_below hb none)
theorem A5.setY {w z:World} {U X Y:Nat} {oc qx cy:Array Value} (h:A5 w U X Y oc qx cy z) (j:Nat) (v:Value):A5 w U X Y oc qx (cy.setIfInBounds j v) (z.setCell ⟨Y,j,none⟩ v):=
 ⟨below_grown h.low (Nat.le_refl _) (grown_set z Y j v) (fun x e=>by injection e with e;rw[←e];exact h.bd.1),h.lu.setOther (loc_ne h.lu h.ly (by decide)) j v,h.lx.setOther h.bd.2.symm j v,h.ly.set j v,h.bd⟩
set_option maxRecDepth 100000 in
set_option maxHeartbeats 4000000 in
theorem asLent_ {W0 w:World} {q:PQuery} {aos aoc aoi aop:Option Addr} {n1 n2 n3 n4 cas cac cai cap G1 G2 G3 G4:Nat} {o1 o2 o3 o4:Value} (hq:QSees w q (.slice aos n1 cas) (.slice aoc n2 cac) (.slice aoi n3 cai) (.slice aop n4 cap)) (hle:Lends W0 q n1 n2 n3 n4 G1 G2 G3 G4  o1 o2 o3 o4 w) (e1:q.spots.length=n1) (e2:q.conds.length=n2) (e3:q.items.length=n3) (e4:q.pairs.length=n4) (s1:n1≤2000000) (s2:n2≤2000000) (s3:n3≤2000000) (s4:n4≤2000000):
  Calls Tryz.prog 22 #[.agg #[o1,o2,o3,o4],.agg (qC q (.slice aos n1 cas) (.slice aoc n2 cac) (.slice aoi n3 cai) (.slice aop n4 cap))] w fun e W'=>e=.returned (.bool true)∧Below w.heap.size w W':=by
 obtain⟨h1,t1,rfl,hh1⟩:=Lends.row hle.l1
 have HH1:=Lib.hid hh1
 have HC1:Hid ((spotCells q.spots).length=n1*5):=by have h:=hq.rs.1;rw[e1] at h;exact h
 have HP1:Hid (Sees w 5 (.slice (some ⟨G1,0,none⟩) n1 (n1+2)) q.spots.length (spotCells q.spots)):=by show Sees _ _ _ _ _;rw[e1];exact sees_row hle.r1 HC1.out (by omega)
 have HM1:Hid (∀i,i<2→∀j v,lS[j]?=some v→w.cell? ⟨G1,(n1+i)*5+j,none⟩=some v):=fun i hi j v hj=>mark_cell hle.r1 HC1.out rfl hi hj
 have HEL1:=Lib.hid e1
 obtain⟨h2,t2,rfl,hh2⟩:=Lends.row hle.l2
 have HH2:=Lib.hid hh2
 have HC2:Hid ((condCells q.conds).length=n2*7):=by have h:=hq.rc.1;rw[e2] at h;exact h
 have HP2:Hid (Sees w 7 (.slice (some ⟨G2,0,none⟩) n2 (n2+2)) q.conds.length (condCells q.conds)):=by show Sees _ _ _ _ _;rw[e2];exact sees_row hle.r2 HC2.out (by omega)
 have HM2:Hid (∀i,i<2→∀j v,lC[j]?=some v→w.cell? ⟨G2,(n2+i)*7+j,none⟩=some v):=fun i hi j v hj=>mark_cell hle.r2 HC2.out rfl hi hj
 have HEL2:=Lib.hid e2
 obtain⟨h3,t3,rfl,hh3⟩:=Lends.row hle.l3
 have HH3:=Lib.hid hh3
 have HC3:Hid ((itemCells q.items).length=n3*2):=by have h:=hq.rt.1;rw[e3] at h;exact h
 have HP3:Hid (Sees w 2 (.slice (some ⟨G3,0,none⟩) n3 (n3+2)) q.items.length (itemCells q.items)):=by show Sees _ _ _ _ _;rw[e3];exact sees_row hle.r3 HC3.out (by omega)
 have HM3:Hid (∀i,i<2→∀j v,lI[j]?=some v→w.cell? ⟨G3,(n3+i)*2+j,none⟩=some v):=fun i hi j v hj=>mark_cell hle.r3 HC3.out rfl hi hj
 have HEL3:=Lib.hid e3
 obtain⟨h4,t4,rfl,hh4⟩:=Lends.row hle.l4
 have HH4:=Lib.hid hh4
 have HC4:Hid ((pairCells q.pairs).length=n4*2):=by have h:=hq.rp.1;rw[e4] at h;exact h
 have HP4:Hid (Sees w 2 (.slice (some ⟨G4,0,none⟩) n4 (n4+2)) q.pairs.length (pairCells q.pairs)):=by show Sees _ _ _ _ _;rw[e4];exact sees_row hle.r4 HC4.out (by omega)
 have HM4:Hid (∀i,i<2→∀j v,lP[j]?=some v→w.cell? ⟨G4,(n4+i)*2+j,none⟩=some v):=fun i hi j v hj=>mark_cell hle.r4 HC4.out rfl hi hj
 have HEL4:=Lib.hid e4
 have HQS:=Lib.hid hq
 clear hh1 hh2 hh3 hh4 hle hq e1 e2 e3 e4
 have H1:Hid (Below w.heap.size w ((w.alloc (.cells #[.slice (some ⟨h1,0,none⟩) 1 t1,.slice (some ⟨h2,0,none⟩) 1 t2,.slice (some ⟨h3,0,none⟩) 1 t3,.slice (some ⟨h4,0,none⟩) 1 t4] 39)).alloc (.cells (qC q (.slice aos n1 cas) (.slice aoc n2 cac) (.slice aoi n3 cai) (.slice aop n4 cap)) 29))∧Loc ((w.alloc (.cells #[.slice (some ⟨h1,0,none⟩) 1 t1,.slice (some ⟨h2,0,none⟩) 1 t2,.slice (some ⟨h3,0,none⟩) 1 t3,.slice (some ⟨h4,0,none⟩) 1 t4] 39)).alloc (.cells (qC q (.slice aos n1 cas) (.slice aoc n2 cac) (.slice aoi n3 cai) (.slice aop n4 cap)) 29)) w.heap.size #[.slice (some ⟨h1,0,none⟩) 1 t1,.slice (some ⟨h2,0,none⟩) 1 t2,.slice (some ⟨h3,0,none⟩) 1 t3,.slice (some ⟨h4,0,none⟩) 1 t4] 39∧Loc ((w.alloc (.cells #[.slice (some ⟨h1,0,none⟩) 1 t1,.slice (some ⟨h2,0,none⟩) 1 t2,.slice (some ⟨h3,0,none⟩) 1 t3,.slice (some ⟨h4,0,none⟩) 1 t4] 39)).alloc (.cells (qC q (.slice aos n1 cas) (.slice aoc n2 cac) (.slice aoi n3 cai) (.slice aop n4 cap)) 29)) (w.heap.size+1) (qC q (.slice aos n1 cas) (.slice aoc n2 cac) (.slice aoi n3 cai) (.slice aop n4 cap)) 29):=by
  have hs:=size_alloc w (.cells #[.slice (some ⟨h1,0,none⟩) 1 t1,.slice (some ⟨h2,0,none⟩) 1 t2,.slice (some ⟨h3,0,none⟩) 1 t3,.slice (some ⟨h4,0,none⟩) 1 t4] 39)
  refine⟨Below.alloc (Below.alloc (Below.refl _ _) (Nat.le_refl _) _) (by omega) _,(Loc.new w _ _).alloc _,?_⟩
  rw[←hs];exact Loc.new _ _ _
 go_enter Tryz.func22,Tryz.ntmps22
 go_upto_region 1 with fail
 obtain⟨U,hU⟩:∃U,U=w.heap.size:=⟨_,rfl⟩
 obtain⟨X,hX⟩:∃X,X=w.heap.size+1:=⟨_,rfl⟩
 have H2:Hid (Loc ((w.alloc (.cells #[.slice (some ⟨h1,0,none⟩) 1 t1,.slice (some ⟨h2,0,none⟩) 1 t2,.slice (some ⟨h3,0,none⟩) 1 t3,.slice (some ⟨h4,0,none⟩) 1 t4] 39)).alloc (.cells (qC q (.slice aos n1 cas) (.slice aoc n2 cac) (.slice aoi n3 cai) (.slice aop n4 cap)) 29)) U #[.slice (some ⟨h1,0,none⟩) 1 t1,.slice (some ⟨h2,0,none⟩) 1 t2,.slice (some ⟨h3,0,none⟩) 1 t3,.slice (some ⟨h4,0,none⟩) 1 t4] 39∧Loc ((w.alloc (.cells #[.slice (some ⟨h1,0,none⟩) 1 t1,.slice (some ⟨h2,0,none⟩) 1 t2,.slice (some ⟨h3,0,none⟩) 1 t3,.slice (some ⟨h4,0,none⟩) 1 t4] 39)).alloc (.cells (qC q (.slice aos n1 cas) (.slice aoc n2 cac) (.slice aoi n3 cai) (.slice aop n4 cap)) 29)) X (qC q (.slice aos n1 cas) (.slice aoc n2 cac) (.slice aoi n3 cai) (.slice aop n4 cap)) 29):=by rw[hU,hX];exact H1.out.2
 have HB:Hid (Below w.heap.size w ((w.alloc (.cells #[.slice (some ⟨h1,0,none⟩) 1 t1,.slice (some ⟨h2,0,none⟩) 1 t2,.slice (some ⟨h3,0,none⟩) 1 t3,.slice (some ⟨h4,0,none⟩) 1 t4] 39)).alloc (.cells (qC q (.slice aos n1 cas) (.slice aoc n2 cac) (.slice aoi n3 cai) (.slice aop n4 cap)) 29))):=H1.out.1
 clear H1
 have H1:Hid (Below w.heap.size w ((w.alloc (.cells #[.slice (some ⟨h1,0,none⟩) 1 t1,.slice (some ⟨h2,0,none⟩) 1 t2,.slice (some ⟨h3,0,none⟩) 1 t3,.slice (some ⟨h4,0,none⟩) 1 t4] 39)).alloc (.cells (qC q (.slice aos n1 cas) (.slice aoc n2 cac) (.slice aoi n3 cai) (.slice aop n4 cap)) 29))∧Loc ((w.alloc (.cells #[.slice (some ⟨h1,0,none⟩) 1 t1,.slice (some ⟨h2,0,none⟩) 1 t2,.slice (some ⟨h3,0,none⟩) 1 t3,.slice (some ⟨h4,0,none⟩) 1 t4] 39)).alloc (.cells (qC q (.slice aos n1 cas) (.slice aoc n2 cac) (.slice aoi n3 cai) (.slice aop n4 cap)) 29)) U #[.slice (some ⟨h1,0,none⟩) 1 t1,.slice (some ⟨h2,0,none⟩) 1 t2,.slice (some ⟨h3,0,none⟩) 1 t3,.slice (some ⟨h4,0,none⟩) 1 t4] 39∧Loc ((w.alloc (.cells #[.slice (some ⟨h1,0,none⟩) 1 t1,.slice (some ⟨h2,0,none⟩) 1 t2,.slice (some ⟨h3,0,none⟩) 1 t3,.slice (some ⟨h4,0,none⟩) 1 t4] 39)).alloc (.cells (qC q (.slice aos n1 cas) (.slice aoc n2 cac) (.slice aoi n3 cai) (.slice aop n4 cap)) 29)) X (qC q (.slice aos n1 cas) (.slice aoc n2 cac) (.slice aoi n3 cai) (.slice aop n4 cap)) 29):=⟨HB.out,H2.out⟩
 rw[←hX,←hU]
 clear hX hU H2 HB
 generalize (w.alloc (.cells #[.slice (some ⟨h1,0,none⟩) 1 t1,.slice (some ⟨h2,0,none⟩) 1 t2,.slice (some ⟨h3,0,none⟩) 1 t3,.slice (some ⟨h4,0,none⟩) 1 t4] 39)).alloc (.cells (qC q (.slice aos n1 cas) (.slice aoc n2 cac) (.slice aoi n3 cai) (.slice aop n4 cap)) 29)=V0 at H1⊢
 have kb:=kept_below (w:=V0) (cs:=(qC q (.slice aos n1 cas) (.slice aoc n2 cac) (.slice aoi n3 cai) (.slice aop n4 cap))) (T:=29) zq
 have HF:Hid (A5 w U X V0.heap.size #[.slice (some ⟨h1,0,none⟩) 1 t1,.slice (some ⟨h2,0,none⟩) 1 t2,.slice (some ⟨h3,0,none⟩) 1 t3,.slice (some ⟨h4,0,none⟩) 1 t4] (qC q (.slice aos n1 cas) (.slice aoc n2 cac) (.slice aoi n3 cai) (.slice aop n4 cap)) (qC q (.slice aos n1 cas) (.slice aoc n2 cac) (.slice aoi n3 cai) (.slice aop n4 cap)) ((V0.alloc (.cells zq 29)).setCells V0.heap.size 0 (qC q (.slice aos n1 cas) (.slice aoc n2 cac) (.slice aoi n3 cai) (.slice aop n4 cap)).toList)):=by
  have hX:=H1.out.2.2.lt
  exact⟨H1.out.1.trans (kb.mono H1.out.1.size),H1.out.2.1.grown (grown_below kb none) (by simp),H1.out.2.2.grown (grown_below kb none) (by simp),kept_loc _ rfl,H1.out.1.size,by omega⟩
 clear kb
 refine wp_region_lit ?_
 refine wpList_load_mid rfl 29 _ rfl X 0 rfl (qC q (.slice aos n1 cas) (.slice aoc n2 cac) (.slice aoi n3 cai) (.slice aop n4 cap)).toList _ H1.out.2.2.range Tryz.underlying29 rfl (by rw[Tryz.sizeQuery];rfl) ?_
 refine wpList_allocQuery rfl rfl ?_
 refine wpList_store_mid rfl 29 _ _ rfl V0.heap.size 0 (qC q (.slice aos n1 cas) (.slice aoc n2 cac) (.slice aoi n3 cai) (.slice aop n4 cap)) rfl rfl (Loc.new V0 zq 29).there Tryz.sizeQuery (qC_one _) ?_
 obtain⟨Y,hY⟩:∃x,x=V0.heap.size:=⟨_,rfl⟩
 rw[←hY] at HF⊢
 clear hY H1
 generalize (V0.alloc (.cells zq 29)).setCells Y 0 (qC q (.slice aos n1 cas) (.slice aoc n2 cac) (.slice aoi n3 cai) (.slice aop n4 cap)).toList=P0 at HF⊢
 simp only[Act.put,List.setIfInBounds_toArray,List.set_cons_zero,List.set_cons_succ]
 have u:=HF.out.lu.at_ 0 (.slice (some ⟨h1,0,none⟩) 1 t1) rfl
 have hr:P0.drew.cell? ⟨h1,0,none⟩=some (.slice (some ⟨G1,0,none⟩) (n1+2) (n1+2)):=(HF.out.low.cell (block_lt_of_cell HH1.out)).trans HH1.out
 have x:=HF.out.lx.at_ 1 (.slice aos n1 cas) rfl
 have y:=HF.out.ly.at_ 1 (.slice aos n1 cas) rfl
 have fy:P0.drew.frozen? ⟨Y,1,none⟩=false:=HF.out.ly.free 1
 have u':P0.cell? ⟨U,0,none⟩=some (.slice (some ⟨h1,0,none⟩) 1 t1):=u
 have hr':P0.cell? ⟨h1,0,none⟩=some (.slice (some ⟨G1,0,none⟩) (n1+2) (n1+2)):=hr
 have x':P0.cell? ⟨X,1,none⟩=some (.slice aos n1 cas):=x
 have y':P0.cell? ⟨Y,1,none⟩=some (.slice aos n1 cas):=y
 have fy':P0.frozen? ⟨Y,1,none⟩=false:=fy
 have hc1:(n1:Int)≤(n1:Int)+2:=by omega
 have HF2:Hid (A5 w U X Y #[.slice (some ⟨h1,0,none⟩) 1 t1,.slice (some ⟨h2,0,none⟩) 1 t2,.slice (some ⟨h3,0,none⟩) 1 t3,.slice (some ⟨h4,0,none⟩) 1 t4] (qC q (.slice aos n1 cas) (.slice aoc n2 cac) (.slice aoi n3 cai) (.slice aop n4 cap)) (qC q (.slice (some ⟨G1,0,none⟩) n1 (n1+2)) (.slice aoc n2 cac) (.slice aoi n3 cai) (.slice aop n4 cap)) (P0.setCell ⟨Y,1,none⟩ (.slice (some ⟨G1,0,none⟩) n1 (n1+2)))):=HF.out.setY 1 (.slice (some ⟨G1,0,none⟩) n1 (n1+2))
 go_upto_region 2 with fail
 go_cut [] (fun z=>A5 w U X Y #[.slice (some ⟨h1,0,none⟩) 1 t1,.slice (some ⟨h2,0,none⟩) 1 t2,.slice (some ⟨h3,0,none⟩) 1 t3,.slice (some ⟨h4,0,none⟩) 1 t4] (qC q (.slice aos n1 cas) (.slice aoc n2 cac) (.slice aoi n3 cai) (.slice aop n4 cap)) (qC q (.slice (some ⟨G1,0,none⟩) n1 (n1+2)) (.slice aoc n2 cac) (.slice aoi n3 cai) (.slice aop n4 cap)) z)
 case first=>
  go_region
  all_goals
   go_wp2_with fail
   go_meet
   exact HF2.out.quiet (grown_drew _ 1 none)
 case rest=>
  have HF3:=Lib.hid hcut
  clear hcut u hr x y fy u' hr' x' y' fy' hc1 HF HF2
  have HF:=HF3
  clear HF3
  have u:=HF.out.lu.at_ 1 (.slice (some ⟨h2,0,none⟩) 1 t2) rfl
  have hr:wc.drew.cell? ⟨h2,0,none⟩=some (.slice (some ⟨G2,0,none⟩) (n2+2) (n2+2)):=(HF.out.low.cell (block_lt_of_cell HH2.out)).trans HH2.out
  have x:=HF.out.lx.at_ 2 (.slice aoc n2 cac) rfl
  have y:=HF.out.ly.at_ 2 (.slice aoc n2 cac) rfl
  have fy:wc.drew.frozen? ⟨Y,2,none⟩=false:=HF.out.ly.free 2
  have u':wc.cell? ⟨U,1,none⟩=some (.slice (some ⟨h2,0,none⟩) 1 t2):=u
  have hr':wc.cell? ⟨h2,0,none⟩=some (.slice (some ⟨G2,0,none⟩) (n2+2) (n2+2)):=hr
  have x':wc.cell? ⟨X,2,none⟩=some (.slice aoc n2 cac):=x
  have y':wc.cell? ⟨Y,2,none⟩=some (.slice aoc n2 cac):=y
  have fy':wc.frozen? ⟨Y,2,none⟩=false:=fy
  have hc1:(n2:Int)≤(n2:Int)+2:=by omega
  have HF2:Hid (A5 w U X Y #[.slice (some ⟨h1,0,none⟩) 1 t1,.slice (some ⟨h2,0,none⟩) 1 t2,.slice (some ⟨h3,0,none⟩) 1 t3,.slice (some ⟨h4,0,none⟩) 1 t4] (qC q (.slice aos n1 cas) (.slice aoc n2 cac) (.slice aoi n3 cai) (.slice aop n4 cap)) (qC q (.slice (some ⟨G1,0,none⟩) n1 (n1+2)) (.slice (some ⟨G2,0,none⟩) n2 (n2+2)) (.slice aoi n3 cai) (.slice aop n4 cap)) (wc.setCell ⟨Y,2,none⟩ (.slice (some ⟨G2,0,none⟩) n2 (n2+2)))):=HF.out.setY 2 (.slice (some ⟨G2,0,none⟩) n2 (n2+2))
  go_upto_region 3 with fail
  go_cut [] (fun z=>A5 w U X Y #[.slice (some ⟨h1,0,none⟩) 1 t1,.slice (some ⟨h2,0,none⟩) 1 t2,.slice (some ⟨h3,0,none⟩) 1 t3,.slice (some ⟨h4,0,none⟩) 1 t4] (qC q (.slice aos n1 cas) (.slice aoc n2 cac) (.slice aoi n3 cai) (.slice aop n4 cap)) (qC q (.slice (some ⟨G1,0,none⟩) n1 (n1+2)) (.slice (some ⟨G2,0,none⟩) n2 (n2+2)) (.slice aoi n3 cai) (.slice aop n4 cap)) z)
  case first=>
   go_region
   all_goals
    go_wp2_with fail
    go_meet
    exact HF2.out.quiet (grown_drew _ 1 none)
  case rest=>
   have HF3:=Lib.hid hcut
   clear hcut u hr x y fy u' hr' x' y' fy' hc1 HF HF2
   have HF:=HF3
   clear HF3
   have u:=HF.out.lu.at_ 2 (.slice (some ⟨h3,0,none⟩) 1 t3) rfl
   have hr:wc.drew.cell? ⟨h3,0,none⟩=some (.slice (some ⟨G3,0,none⟩) (n3+2) (n3+2)):=(HF.out.low.cell (block_lt_of_cell HH3.out)).trans HH3.out
   have x:=HF.out.lx.at_ 3 (.slice aoi n3 cai) rfl
   have y:=HF.out.ly.at_ 3 (.slice aoi n3 cai) rfl
   have fy:wc.drew.frozen? ⟨Y,3,none⟩=false:=HF.out.ly.free 3
   have u':wc.cell? ⟨U,2,none⟩=some (.slice (some ⟨h3,0,none⟩) 1 t3):=u
   have hr':wc.cell? ⟨h3,0,none⟩=some (.slice (some ⟨G3,0,none⟩) (n3+2) (n3+2)):=hr
   have x':wc.cell? ⟨X,3,none⟩=some (.slice aoi n3 cai):=x
   have y':wc.cell? ⟨Y,3,none⟩=some (.slice aoi n3 cai):=y
   have fy':wc.frozen? ⟨Y,3,none⟩=false:=fy
   have hc1:(n3:Int)≤(n3:Int)+2:=by omega
   have HF2:Hid (A5 w U X Y #[.slice (some ⟨h1,0,none⟩) 1 t1,.slice (some ⟨h2,0,none⟩) 1 t2,.slice (some ⟨h3,0,none⟩) 1 t3,.slice (some ⟨h4,0,none⟩) 1 t4] (qC q (.slice aos n1 cas) (.slice aoc n2 cac) (.slice aoi n3 cai) (.slice aop n4 cap)) (qC q (.slice (some ⟨G1,0,none⟩) n1 (n1+2)) (.slice (some ⟨G2,0,none⟩) n2 (n2+2)) (.slice (some ⟨G3,0,none⟩) n3 (n3+2)) (.slice aop n4 cap)) (wc.setCell ⟨Y,3,none⟩ (.slice (some ⟨G3,0,none⟩) n3 (n3+2)))):=HF.out.setY 3 (.slice (some ⟨G3,0,none⟩) n3 (n3+2))
   go_upto_region 4 with fail
   go_cut [] (fun z=>A5 w U X Y #[.slice (some ⟨h1,0,none⟩) 1 t1,.slice (some ⟨h2,0,none⟩) 1 t2,.slice (some ⟨h3,0,none⟩) 1 t3,.slice (some ⟨h4,0,none⟩) 1 t4] (qC q (.slice aos n1 cas) (.slice aoc n2 cac) (.slice aoi n3 cai) (.slice aop n4 cap)) (qC q (.slice (some ⟨G1,0,none⟩) n1 (n1+2)) (.slice (some ⟨G2,0,none⟩) n2 (n2+2)) (.slice (some ⟨G3,0,none⟩) n3 (n3+2)) (.slice aop n4 cap)) z)
   case first=>
    go_region
    all_goals
     go_wp2_with fail
     go_meet
     exact HF2.out.quiet (grown_drew _ 1 none)
   case rest=>
    have HF3:=Lib.hid hcut
    clear hcut u hr x y fy u' hr' x' y' fy' hc1 HF HF2
    have HF:=HF3
    clear HF3
    have u:=HF.out.lu.at_ 3 (.slice (some ⟨h4,0,none⟩) 1 t4) rfl
    have hr:wc.drew.cell? ⟨h4,0,none⟩=some (.slice (some ⟨G4,0,none⟩) (n4+2) (n4+2)):=(HF.out.low.cell (block_lt_of_cell HH4.out)).trans HH4.out
    have x:=HF.out.lx.at_ 16 (.slice aop n4 cap) rfl
    have y:=HF.out.ly.at_ 16 (.slice aop n4 cap) rfl
    have fy:wc.drew.frozen? ⟨Y,16,none⟩=false:=HF.out.ly.free 16
    have u':wc.cell? ⟨U,3,none⟩=some (.slice (some ⟨h4,0,none⟩) 1 t4):=u
    have hr':wc.cell? ⟨h4,0,none⟩=some (.slice (some ⟨G4,0,none⟩) (n4+2) (n4+2)):=hr
    have x':wc.cell? ⟨X,16,none⟩=some (.slice aop n4 cap):=x
    have y':wc.cell? ⟨Y,16,none⟩=some (.slice aop n4 cap):=y
    have fy':wc.frozen? ⟨Y,16,none⟩=false:=fy
    have hc1:(n4:Int)≤(n4:Int)+2:=by omega
    have HF2:Hid (A5 w U X Y #[.slice (some ⟨h1,0,none⟩) 1 t1,.slice (some ⟨h2,0,none⟩) 1 t2,.slice (some ⟨h3,0,none⟩) 1 t3,.slice (some ⟨h4,0,none⟩) 1 t4] (qC q (.slice aos n1 cas) (.slice aoc n2 cac) (.slice aoi n3 cai) (.slice aop n4 cap)) (qC q (.slice (some ⟨G1,0,none⟩) n1 (n1+2)) (.slice (some ⟨G2,0,none⟩) n2 (n2+2)) (.slice (some ⟨G3,0,none⟩) n3 (n3+2)) (.slice (some ⟨G4,0,none⟩) n4 (n4+2))) (wc.setCell ⟨Y,16,none⟩ (.slice (some ⟨G4,0,none⟩) n4 (n4+2)))):=HF.out.setY 16 (.slice (some ⟨G4,0,none⟩) n4 (n4+2))
    go_upto_region 5 with fail
    go_cut [] (fun z=>A5 w U X Y #[.slice (some ⟨h1,0,none⟩) 1 t1,.slice (some ⟨h2,0,none⟩) 1 t2,.slice (some ⟨h3,0,none⟩) 1 t3,.slice (some ⟨h4,0,none⟩) 1 t4] (qC q (.slice aos n1 cas) (.slice aoc n2 cac) (.slice aoi n3 cai) (.slice aop n4 cap)) (qC q (.slice (some ⟨G1,0,none⟩) n1 (n1+2)) (.slice (some ⟨G2,0,none⟩) n2 (n2+2)) (.slice (some ⟨G3,0,none⟩) n3 (n3+2)) (.slice (some ⟨G4,0,none⟩) n4 (n4+2))) z)
    case first=>
     go_region
     all_goals
      go_wp2_with fail
      go_meet
      exact HF2.out.quiet (grown_drew _ 1 none)
    case rest=>
     have HF3:=Lib.hid hcut
     clear hcut u hr x y fy u' hr' x' y' fy' hc1 HF HF2
     have HF:=HF3
     clear HF3
     go_upto_block 0 with fail
     go_cut [6] (fun _ z=>A5 w U X Y #[.slice (some ⟨h1,0,none⟩) 1 t1,.slice (some ⟨h2,0,none⟩) 1 t2,.slice (some ⟨h3,0,none⟩) 1 t3,.slice (some ⟨h4,0,none⟩) 1 t4] (qC q (.slice aos n1 cas) (.slice aoc n2 cac) (.slice aoi n3 cai) (.slice aop n4 cap)) (qC q (.slice (some ⟨G1,0,none⟩) n1 (n1+2)) (.slice (some ⟨G2,0,none⟩) n2 (n2+2)) (.slice (some ⟨G3,0,none⟩) n3 (n3+2)) (.slice (some ⟨G4,0,none⟩) n4 (n4+2))) z)
     case first=>
      go_wp2_with fail
      go_loopg [6] 2 (fun m iv z=>∃k:Nat,iv=.int .i64 (k:Int)∧k+m=2∧A5 w U X Y #[.slice (some ⟨h1,0,none⟩) 1 t1,.slice (some ⟨h2,0,none⟩) 1 t2,.slice (some ⟨h3,0,none⟩) 1 t3,.slice (some ⟨h4,0,none⟩) 1 t4] (qC q (.slice aos n1 cas) (.slice aoc n2 cac) (.slice aoi n3 cai) (.slice aop n4 cap)) (qC q (.slice (some ⟨G1,0,none⟩) n1 (n1+2)) (.slice (some ⟨G2,0,none⟩) n2 (n2+2)) (.slice (some ⟨G3,0,none⟩) n3 (n3+2)) (.slice (some ⟨G4,0,none⟩) n4 (n4+2))) z)
      case atStart=>exact⟨0,rfl,by omega,HF.out⟩
      case round=>
       obtain⟨k,rfl,hk,hl⟩:=hrel
       have HQ:=Lib.hid hl
       clear hl HF
       by_cases hlt:k<2
       ·have hki:(k:Int)<2:=by omega
        have u:=HQ.out.lu.at_ 0 (.slice (some ⟨h1,0,none⟩) 1 t1) rfl
        have hr:wr.cell? ⟨h1,0,none⟩=some (.slice (some ⟨G1,0,none⟩) (n1+2) (n1+2)):=(HQ.out.low.cell (block_lt_of_cell HH1.out)).trans HH1.out
        have x:=HQ.out.lx.at_ 1 (.slice aos n1 cas) rfl
        have m0:wr.cell? ⟨G1,(n1+k)*5,none⟩=some (.string ⟨#[111,119,110]⟩):=(HQ.out.low.cell (block_lt_of_cell (HM1.out k hlt 0 _ rfl))).trans (HM1.out k hlt 0 _ rfl)
        have m1:wr.cell? ⟨G1,(n1+k)*5+1,none⟩=some (.string ⟨#[]⟩):=(HQ.out.low.cell (block_lt_of_cell (HM1.out k hlt 1 _ rfl))).trans (HM1.out k hlt 1 _ rfl)
        have m2:wr.cell? ⟨G1,(n1+k)*5+2,none⟩=some (.string ⟨#[]⟩):=(HQ.out.low.cell (block_lt_of_cell (HM1.out k hlt 2 _ rfl))).trans (HM1.out k hlt 2 _ rfl)
        have m3:wr.cell? ⟨G1,(n1+k)*5+3,none⟩=some (.int .i64 77):=(HQ.out.low.cell (block_lt_of_cell (HM1.out k hlt 3 _ rfl))).trans (HM1.out k hlt 3 _ rfl)
        have m4:wr.cell? ⟨G1,(n1+k)*5+4,none⟩=some (.int .i64 0):=(HQ.out.low.cell (block_lt_of_cell (HM1.out k hlt 4 _ rfl))).trans (HM1.out k hlt 4 _ rfl)
        have ud:wr.drew.cell? ⟨U,0,none⟩=some (.slice (some ⟨h1,0,none⟩) 1 t1):=u
        have hrd:wr.drew.cell? ⟨h1,0,none⟩=some (.slice (some ⟨G1,0,none⟩) (n1+2) (n1+2)):=hr
        have xd:wr.drew.cell? ⟨X,1,none⟩=some (.slice aos n1 cas):=x
        have md0:wr.drew.cell? ⟨G1,(n1+k)*5,none⟩=some (.string ⟨#[111,119,110]⟩):=m0
        have md1:wr.drew.cell? ⟨G1,(n1+k)*5+1,none⟩=some (.string ⟨#[]⟩):=m1
        have md2:wr.drew.cell? ⟨G1,(n1+k)*5+2,none⟩=some (.string ⟨#[]⟩):=m2
        have md3:wr.drew.cell? ⟨G1,(n1+k)*5+3,none⟩=some (.int .i64 77):=m3
        have md4:wr.drew.cell? ⟨G1,(n1+k)*5+4,none⟩=some (.int .i64 0):=m4
        have ua:(wr.alloc (.cells #[.string ⟨#[]⟩,.string ⟨#[]⟩,.string ⟨#[]⟩,.int .i64 0,.int .i64 0] 85)).cell? ⟨U,0,none⟩=some (.slice (some ⟨h1,0,none⟩) 1 t1):=((HQ.out.lu.alloc _).cell 0).trans rfl
        have hra:(wr.alloc (.cells #[.string ⟨#[]⟩,.string ⟨#[]⟩,.string ⟨#[]⟩,.int .i64 0,.int .i64 0] 85)).cell? ⟨h1,0,none⟩=some (.slice (some ⟨G1,0,none⟩) (n1+2) (n1+2)):=(World.cell?_alloc_lt _ _ _ (block_lt_of_cell hr)).trans hr
        have xa:(wr.alloc (.cells #[.string ⟨#[]⟩,.string ⟨#[]⟩,.string ⟨#[]⟩,.int .i64 0,.int .i64 0] 85)).cell? ⟨X,1,none⟩=some (.slice aos n1 cas):=((HQ.out.lx.alloc _).cell 1).trans rfl
        have ma0:(wr.alloc (.cells #[.string ⟨#[]⟩,.string ⟨#[]⟩,.string ⟨#[]⟩,.int .i64 0,.int .i64 0] 85)).cell? ⟨G1,(n1+k)*5,none⟩=some (.string ⟨#[111,119,110]⟩):=(World.cell?_alloc_lt _ _ _ (block_lt_of_cell m0)).trans m0
        have ma1:(wr.alloc (.cells #[.string ⟨#[]⟩,.string ⟨#[]⟩,.string ⟨#[]⟩,.int .i64 0,.int .i64 0] 85)).cell? ⟨G1,(n1+k)*5+1,none⟩=some (.string ⟨#[]⟩):=(World.cell?_alloc_lt _ _ _ (block_lt_of_cell m1)).trans m1
        have ma2:(wr.alloc (.cells #[.string ⟨#[]⟩,.string ⟨#[]⟩,.string ⟨#[]⟩,.int .i64 0,.int .i64 0] 85)).cell? ⟨G1,(n1+k)*5+2,none⟩=some (.string ⟨#[]⟩):=(World.cell?_alloc_lt _ _ _ (block_lt_of_cell m2)).trans m2
        have ma3:(wr.alloc (.cells #[.string ⟨#[]⟩,.string ⟨#[]⟩,.string ⟨#[]⟩,.int .i64 0,.int .i64 0] 85)).cell? ⟨G1,(n1+k)*5+3,none⟩=some (.int .i64 77):=(World.cell?_alloc_lt _ _ _ (block_lt_of_cell m3)).trans m3
        have ma4:(wr.alloc (.cells #[.string ⟨#[]⟩,.string ⟨#[]⟩,.string ⟨#[]⟩,.int .i64 0,.int .i64 0] 85)).cell? ⟨G1,(n1+k)*5+4,none⟩=some (.int .i64 0):=(World.cell?_alloc_lt _ _ _ (block_lt_of_cell m4)).trans m4
        have hix:(n1:Int)+(k:Int)<(n1:Int)+2:=by omega
        have hwr:IntKind.i64.wrap ((n1:Int)+(k:Int))=(n1:Int)+(k:Int):=by rw[IntKind.wrap_i64];omega
        have hge:0≤(n1:Int)+(k:Int):=by omega
        have htn:((n1:Int)+(k:Int)).toNat=n1+k:=by omega
        go_upto_region 9 with fail
        go_cut [7] (fun v z=>∃A1,v=.pointer (some ⟨A1,0,none⟩)∧A5 w U X Y #[.slice (some ⟨h1,0,none⟩) 1 t1,.slice (some ⟨h2,0,none⟩) 1 t2,.slice (some ⟨h3,0,none⟩) 1 t3,.slice (some ⟨h4,0,none⟩) 1 t4] (qC q (.slice aos n1 cas) (.slice aoc n2 cac) (.slice aoi n3 cai) (.slice aop n4 cap)) (qC q (.slice (some ⟨G1,0,none⟩) n1 (n1+2)) (.slice (some ⟨G2,0,none⟩) n2 (n2+2)) (.slice (some ⟨G3,0,none⟩) n3 (n3+2)) (.slice (some ⟨G4,0,none⟩) n4 (n4+2))) z∧Loc z A1 #[.string ⟨#[111,119,110]⟩,.string ⟨#[]⟩,.string ⟨#[]⟩,.int .i64 77,.int .i64 0] 85)
        case first=>
         go_region
         all_goals
          go_wp2_with fail
          go_meet
          exact⟨_,rfl,(HQ.out.quiet (grown_alloc _ _ none)).quiet (grown_drew _ 1 none),(Loc.new _ _ _).drew 1⟩
        case rest=>
         obtain⟨A1,rfl,hq9,ha1⟩:=hcut
         have HQ2:=Lib.hid hq9
         clear HQ  hq9 u hr x ud hrd xd ua hra xa hix hwr hge htn m0 md0 ma0 m1 md1 ma1 m2 md2 ma2 m3 md3 ma3 m4 md4 ma4
         have HA1:=Lib.hid ha1
         clear ha1
         have HQ:=HQ2
         clear HQ2
         have u:=HQ.out.lu.at_ 1 (.slice (some ⟨h2,0,none⟩) 1 t2) rfl
         have hr:wc.cell? ⟨h2,0,none⟩=some (.slice (some ⟨G2,0,none⟩) (n2+2) (n2+2)):=(HQ.out.low.cell (block_lt_of_cell HH2.out)).trans HH2.out
         have x:=HQ.out.lx.at_ 2 (.slice aoc n2 cac) rfl
         have m0:wc.cell? ⟨G2,(n2+k)*7,none⟩=some (.int .i64 77):=(HQ.out.low.cell (block_lt_of_cell (HM2.out k hlt 0 _ rfl))).trans (HM2.out k hlt 0 _ rfl)
         have m1:wc.cell? ⟨G2,(n2+k)*7+1,none⟩=some (.string ⟨#[]⟩):=(HQ.out.low.cell (block_lt_of_cell (HM2.out k hlt 1 _ rfl))).trans (HM2.out k hlt 1 _ rfl)
         have m2:wc.cell? ⟨G2,(n2+k)*7+2,none⟩=some (.string ⟨#[]⟩):=(HQ.out.low.cell (block_lt_of_cell (HM2.out k hlt 2 _ rfl))).trans (HM2.out k hlt 2 _ rfl)
         have m3:wc.cell? ⟨G2,(n2+k)*7+3,none⟩=some (.int .i64 0):=(HQ.out.low.cell (block_lt_of_cell (HM2.out k hlt 3 _ rfl))).trans (HM2.out k hlt 3 _ rfl)
         have m4:wc.cell? ⟨G2,(n2+k)*7+4,none⟩=some (.string ⟨#[]⟩):=(HQ.out.low.cell (block_lt_of_cell (HM2.out k hlt 4 _ rfl))).trans (HM2.out k hlt 4 _ rfl)
         have m5:wc.cell? ⟨G2,(n2+k)*7+5,none⟩=some (.string ⟨#[]⟩):=(HQ.out.low.cell (block_lt_of_cell (HM2.out k hlt 5 _ rfl))).trans (HM2.out k hlt 5 _ rfl)
         have m6:wc.cell? ⟨G2,(n2+k)*7+6,none⟩=some (.int .i64 0):=(HQ.out.low.cell (block_lt_of_cell (HM2.out k hlt 6 _ rfl))).trans (HM2.out k hlt 6 _ rfl)
         have ud:wc.drew.cell? ⟨U,1,none⟩=some (.slice (some ⟨h2,0,none⟩) 1 t2):=u
         have hrd:wc.drew.cell? ⟨h2,0,none⟩=some (.slice (some ⟨G2,0,none⟩) (n2+2) (n2+2)):=hr
         have xd:wc.drew.cell? ⟨X,2,none⟩=some (.slice aoc n2 cac):=x
         have md0:wc.drew.cell? ⟨G2,(n2+k)*7,none⟩=some (.int .i64 77):=m0
         have md1:wc.drew.cell? ⟨G2,(n2+k)*7+1,none⟩=some (.string ⟨#[]⟩):=m1
         have md2:wc.drew.cell? ⟨G2,(n2+k)*7+2,none⟩=some (.string ⟨#[]⟩):=m2
         have md3:wc.drew.cell? ⟨G2,(n2+k)*7+3,none⟩=some (.int .i64 0):=m3
         have md4:wc.drew.cell? ⟨G2,(n2+k)*7+4,none⟩=some (.string ⟨#[]⟩):=m4
         have md5:wc.drew.cell? ⟨G2,(n2+k)*7+5,none⟩=some (.string ⟨#[]⟩):=m5
         have md6:wc.drew.cell? ⟨G2,(n2+k)*7+6,none⟩=some (.int .i64 0):=m6
         have ua:(wc.alloc (.cells #[.int .i64 0,.string ⟨#[]⟩,.string ⟨#[]⟩,.int .i64 0,.string ⟨#[]⟩,.string ⟨#[]⟩,.int .i64 0] 87)).cell? ⟨U,1,none⟩=some (.slice (some ⟨h2,0,none⟩) 1 t2):=((HQ.out.lu.alloc _).cell 1).trans rfl
         have hra:(wc.alloc (.cells #[.int .i64 0,.string ⟨#[]⟩,.string ⟨#[]⟩,.int .i64 0,.string ⟨#[]⟩,.string ⟨#[]⟩,.int .i64 0] 87)).cell? ⟨h2,0,none⟩=some (.slice (some ⟨G2,0,none⟩) (n2+2) (n2+2)):=(World.cell?_alloc_lt _ _ _ (block_lt_of_cell hr)).trans hr
         have xa:(wc.alloc (.cells #[.int .i64 0,.string ⟨#[]⟩,.string ⟨#[]⟩,.int .i64 0,.string ⟨#[]⟩,.string ⟨#[]⟩,.int .i64 0] 87)).cell? ⟨X,2,none⟩=some (.slice aoc n2 cac):=((HQ.out.lx.alloc _).cell 2).trans rfl
         have ma0:(wc.alloc (.cells #[.int .i64 0,.string ⟨#[]⟩,.string ⟨#[]⟩,.int .i64 0,.string ⟨#[]⟩,.string ⟨#[]⟩,.int .i64 0] 87)).cell? ⟨G2,(n2+k)*7,none⟩=some (.int .i64 77):=(World.cell?_alloc_lt _ _ _ (block_lt_of_cell m0)).trans m0
         have ma1:(wc.alloc (.cells #[.int .i64 0,.string ⟨#[]⟩,.string ⟨#[]⟩,.int .i64 0,.string ⟨#[]⟩,.string ⟨#[]⟩,.int .i64 0] 87)).cell? ⟨G2,(n2+k)*7+1,none⟩=some (.string ⟨#[]⟩):=(World.cell?_alloc_lt _ _ _ (block_lt_of_cell m1)).trans m1
         have ma2:(wc.alloc (.cells #[.int .i64 0,.string ⟨#[]⟩,.string ⟨#[]⟩,.int .i64 0,.string ⟨#[]⟩,.string ⟨#[]⟩,.int .i64 0] 87)).cell? ⟨G2,(n2+k)*7+2,none⟩=some (.string ⟨#[]⟩):=(World.cell?_alloc_lt _ _ _ (block_lt_of_cell m2)).trans m2
         have ma3:(wc.alloc (.cells #[.int .i64 0,.string ⟨#[]⟩,.string ⟨#[]⟩,.int .i64 0,.string ⟨#[]⟩,.string ⟨#[]⟩,.int .i64 0] 87)).cell? ⟨G2,(n2+k)*7+3,none⟩=some (.int .i64 0):=(World.cell?_alloc_lt _ _ _ (block_lt_of_cell m3)).trans m3
         have ma4:(wc.alloc (.cells #[.int .i64 0,.string ⟨#[]⟩,.string ⟨#[]⟩,.int .i64 0,.string ⟨#[]⟩,.string ⟨#[]⟩,.int .i64 0] 87)).cell? ⟨G2,(n2+k)*7+4,none⟩=some (.string ⟨#[]⟩):=(World.cell?_alloc_lt _ _ _ (block_lt_of_cell m4)).trans m4
         have ma5:(wc.alloc (.cells #[.int .i64 0,.string ⟨#[]⟩,.string ⟨#[]⟩,.int .i64 0,.string ⟨#[]⟩,.string ⟨#[]⟩,.int .i64 0] 87)).cell? ⟨G2,(n2+k)*7+5,none⟩=some (.string ⟨#[]⟩):=(World.cell?_alloc_lt _ _ _ (block_lt_of_cell m5)).trans m5
         have ma6:(wc.alloc (.cells #[.int .i64 0,.string ⟨#[]⟩,.string ⟨#[]⟩,.int .i64 0,.string ⟨#[]⟩,.string ⟨#[]⟩,.int .i64 0] 87)).cell? ⟨G2,(n2+k)*7+6,none⟩=some (.int .i64 0):=(World.cell?_alloc_lt _ _ _ (block_lt_of_cell m6)).trans m6
         have hix:(n2:Int)+(k:Int)<(n2:Int)+2:=by omega
         have hwr:IntKind.i64.wrap ((n2:Int)+(k:Int))=(n2:Int)+(k:Int):=by rw[IntKind.wrap_i64];omega
         have hge:0≤(n2:Int)+(k:Int):=by omega
         have htn:((n2:Int)+(k:Int)).toNat=n2+k:=by omega
         go_upto_region 10 with fail
         go_cut [8] (fun v z=>∃A2,v=.pointer (some ⟨A2,0,none⟩)∧A5 w U X Y #[.slice (some ⟨h1,0,none⟩) 1 t1,.slice (some ⟨h2,0,none⟩) 1 t2,.slice (some ⟨h3,0,none⟩) 1 t3,.slice (some ⟨h4,0,none⟩) 1 t4] (qC q (.slice aos n1 cas) (.slice aoc n2 cac) (.slice aoi n3 cai) (.slice aop n4 cap)) (qC q (.slice (some ⟨G1,0,none⟩) n1 (n1+2)) (.slice (some ⟨G2,0,none⟩) n2 (n2+2)) (.slice (some ⟨G3,0,none⟩) n3 (n3+2)) (.slice (some ⟨G4,0,none⟩) n4 (n4+2))) z∧Loc z A2 #[.int .i64 77,.string ⟨#[]⟩,.string ⟨#[]⟩,.int .i64 0,.string ⟨#[]⟩,.string ⟨#[]⟩,.int .i64 0] 87∧Loc z A1 #[.string ⟨#[111,119,110]⟩,.string ⟨#[]⟩,.string ⟨#[]⟩,.int .i64 77,.int .i64 0] 85)
         case first=>
          go_region
          all_goals
           go_wp2_with fail
           go_meet
           exact⟨_,rfl,(HQ.out.quiet (grown_alloc _ _ none)).quiet (grown_drew _ 1 none),(Loc.new _ _ _).drew 1,(HA1.out.alloc _).drew 1⟩
         case rest=>
          obtain⟨A2,rfl,hq9,ha2,ha1⟩:=hcut
          have HQ2:=Lib.hid hq9
          clear HQ HA1 hq9 u hr x ud hrd xd ua hra xa hix hwr hge htn m0 md0 ma0 m1 md1 ma1 m2 md2 ma2 m3 md3 ma3 m4 md4 ma4 m5 md5 ma5 m6 md6 ma6
          have HA2:=Lib.hid ha2
          have HA1:=Lib.hid ha1
          clear ha2 ha1
          have HQ:=HQ2
          clear HQ2
          have u:=HQ.out.lu.at_ 2 (.slice (some ⟨h3,0,none⟩) 1 t3) rfl
          have hr:wc.cell? ⟨h3,0,none⟩=some (.slice (some ⟨G3,0,none⟩) (n3+2) (n3+2)):=(HQ.out.low.cell (block_lt_of_cell HH3.out)).trans HH3.out
          have x:=HQ.out.lx.at_ 3 (.slice aoi n3 cai) rfl
          have m0:wc.cell? ⟨G3,(n3+k)*2,none⟩=some (.string ⟨#[111,119,110]⟩):=(HQ.out.low.cell (block_lt_of_cell (HM3.out k hlt 0 _ rfl))).trans (HM3.out k hlt 0 _ rfl)
          have m1:wc.cell? ⟨G3,(n3+k)*2+1,none⟩=some (.string ⟨#[77]⟩):=(HQ.out.low.cell (block_lt_of_cell (HM3.out k hlt 1 _ rfl))).trans (HM3.out k hlt 1 _ rfl)
          have ud:wc.drew.cell? ⟨U,2,none⟩=some (.slice (some ⟨h3,0,none⟩) 1 t3):=u
          have hrd:wc.drew.cell? ⟨h3,0,none⟩=some (.slice (some ⟨G3,0,none⟩) (n3+2) (n3+2)):=hr
          have xd:wc.drew.cell? ⟨X,3,none⟩=some (.slice aoi n3 cai):=x
          have md0:wc.drew.cell? ⟨G3,(n3+k)*2,none⟩=some (.string ⟨#[111,119,110]⟩):=m0
          have md1:wc.drew.cell? ⟨G3,(n3+k)*2+1,none⟩=some (.string ⟨#[77]⟩):=m1
          have ua:(wc.alloc (.cells #[.string ⟨#[]⟩,.string ⟨#[]⟩] 89)).cell? ⟨U,2,none⟩=some (.slice (some ⟨h3,0,none⟩) 1 t3):=((HQ.out.lu.alloc _).cell 2).trans rfl
          have hra:(wc.alloc (.cells #[.string ⟨#[]⟩,.string ⟨#[]⟩] 89)).cell? ⟨h3,0,none⟩=some (.slice (some ⟨G3,0,none⟩) (n3+2) (n3+2)):=(World.cell?_alloc_lt _ _ _ (block_lt_of_cell hr)).trans hr
          have xa:(wc.alloc (.cells #[.string ⟨#[]⟩,.string ⟨#[]⟩] 89)).cell? ⟨X,3,none⟩=some (.slice aoi n3 cai):=((HQ.out.lx.alloc _).cell 3).trans rfl
          have ma0:(wc.alloc (.cells #[.string ⟨#[]⟩,.string ⟨#[]⟩] 89)).cell? ⟨G3,(n3+k)*2,none⟩=some (.string ⟨#[111,119,110]⟩):=(World.cell?_alloc_lt _ _ _ (block_lt_of_cell m0)).trans m0
          have ma1:(wc.alloc (.cells #[.string ⟨#[]⟩,.string ⟨#[]⟩] 89)).cell? ⟨G3,(n3+k)*2+1,none⟩=some (.string ⟨#[77]⟩):=(World.cell?_alloc_lt _ _ _ (block_lt_of_cell m1)).trans m1
          have hix:(n3:Int)+(k:Int)<(n3:Int)+2:=by omega
          have hwr:IntKind.i64.wrap ((n3:Int)+(k:Int))=(n3:Int)+(k:Int):=by rw[IntKind.wrap_i64];omega
          have hge:0≤(n3:Int)+(k:Int):=by omega
          have htn:((n3:Int)+(k:Int)).toNat=n3+k:=by omega
          go_upto_region 11 with fail
          go_cut [9] (fun v z=>∃A3,v=.pointer (some ⟨A3,0,none⟩)∧A5 w U X Y #[.slice (some ⟨h1,0,none⟩) 1 t1,.slice (some ⟨h2,0,none⟩) 1 t2,.slice (some ⟨h3,0,none⟩) 1 t3,.slice (some ⟨h4,0,none⟩) 1 t4] (qC q (.slice aos n1 cas) (.slice aoc n2 cac) (.slice aoi n3 cai) (.slice aop n4 cap)) (qC q (.slice (some ⟨G1,0,none⟩) n1 (n1+2)) (.slice (some ⟨G2,0,none⟩) n2 (n2+2)) (.slice (some ⟨G3,0,none⟩) n3 (n3+2)) (.slice (some ⟨G4,0,none⟩) n4 (n4+2))) z∧Loc z A3 #[.string ⟨#[111,119,110]⟩,.string ⟨#[77]⟩] 89∧Loc z A1 #[.string ⟨#[111,119,110]⟩,.string ⟨#[]⟩,.string ⟨#[]⟩,.int .i64 77,.int .i64 0] 85∧Loc z A2 #[.int .i64 77,.string ⟨#[]⟩,.string ⟨#[]⟩,.int .i64 0,.string ⟨#[]⟩,.string ⟨#[]⟩,.int .i64 0] 87)
          case first=>
           go_region
           all_goals
            go_wp2_with fail
            go_meet
            exact⟨_,rfl,(HQ.out.quiet (grown_alloc _ _ none)).quiet (grown_drew _ 1 none),(Loc.new _ _ _).drew 1,(HA1.out.alloc _).drew 1,(HA2.out.alloc _).drew 1⟩
          case rest=>
           obtain⟨A3,rfl,hq9,ha3,ha1,ha2⟩:=hcut
           have HQ2:=Lib.hid hq9
           clear HQ HA1 HA2 hq9 u hr x ud hrd xd ua hra xa hix hwr hge htn m0 md0 ma0 m1 md1 ma1
           have HA3:=Lib.hid ha3
           have HA1:=Lib.hid ha1
           have HA2:=Lib.hid ha2
           clear ha3 ha1 ha2
           have HQ:=HQ2
           clear HQ2
           have u:=HQ.out.lu.at_ 3 (.slice (some ⟨h4,0,none⟩) 1 t4) rfl
           have hr:wc.cell? ⟨h4,0,none⟩=some (.slice (some ⟨G4,0,none⟩) (n4+2) (n4+2)):=(HQ.out.low.cell (block_lt_of_cell HH4.out)).trans HH4.out
           have x:=HQ.out.lx.at_ 16 (.slice aop n4 cap) rfl
           have m0:wc.cell? ⟨G4,(n4+k)*2,none⟩=some (.string ⟨#[111,119,110]⟩):=(HQ.out.low.cell (block_lt_of_cell (HM4.out k hlt 0 _ rfl))).trans (HM4.out k hlt 0 _ rfl)
           have m1:wc.cell? ⟨G4,(n4+k)*2+1,none⟩=some (.int .i64 77):=(HQ.out.low.cell (block_lt_of_cell (HM4.out k hlt 1 _ rfl))).trans (HM4.out k hlt 1 _ rfl)
           have ud:wc.drew.cell? ⟨U,3,none⟩=some (.slice (some ⟨h4,0,none⟩) 1 t4):=u
           have hrd:wc.drew.cell? ⟨h4,0,none⟩=some (.slice (some ⟨G4,0,none⟩) (n4+2) (n4+2)):=hr
           have xd:wc.drew.cell? ⟨X,16,none⟩=some (.slice aop n4 cap):=x
           have md0:wc.drew.cell? ⟨G4,(n4+k)*2,none⟩=some (.string ⟨#[111,119,110]⟩):=m0
           have md1:wc.drew.cell? ⟨G4,(n4+k)*2+1,none⟩=some (.int .i64 77):=m1
           have ua:(wc.alloc (.cells #[.string ⟨#[]⟩,.int .i64 0] 91)).cell? ⟨U,3,none⟩=some (.slice (some ⟨h4,0,none⟩) 1 t4):=((HQ.out.lu.alloc _).cell 3).trans rfl
           have hra:(wc.alloc (.cells #[.string ⟨#[]⟩,.int .i64 0] 91)).cell? ⟨h4,0,none⟩=some (.slice (some ⟨G4,0,none⟩) (n4+2) (n4+2)):=(World.cell?_alloc_lt _ _ _ (block_lt_of_cell hr)).trans hr
           have xa:(wc.alloc (.cells #[.string ⟨#[]⟩,.int .i64 0] 91)).cell? ⟨X,16,none⟩=some (.slice aop n4 cap):=((HQ.out.lx.alloc _).cell 16).trans rfl
           have ma0:(wc.alloc (.cells #[.string ⟨#[]⟩,.int .i64 0] 91)).cell? ⟨G4,(n4+k)*2,none⟩=some (.string ⟨#[111,119,110]⟩):=(World.cell?_alloc_lt _ _ _ (block_lt_of_cell m0)).trans m0
           have ma1:(wc.alloc (.cells #[.string ⟨#[]⟩,.int .i64 0] 91)).cell? ⟨G4,(n4+k)*2+1,none⟩=some (.int .i64 77):=(World.cell?_alloc_lt _ _ _ (block_lt_of_cell m1)).trans m1
           have hix:(n4:Int)+(k:Int)<(n4:Int)+2:=by omega
           have hwr:IntKind.i64.wrap ((n4:Int)+(k:Int))=(n4:Int)+(k:Int):=by rw[IntKind.wrap_i64];omega
           have hge:0≤(n4:Int)+(k:Int):=by omega
           have htn:((n4:Int)+(k:Int)).toNat=n4+k:=by omega
           go_upto_region 12 with fail
           go_cut [10] (fun v z=>∃A4,v=.pointer (some ⟨A4,0,none⟩)∧A5 w U X Y #[.slice (some ⟨h1,0,none⟩) 1 t1,.slice (some ⟨h2,0,none⟩) 1 t2,.slice (some ⟨h3,0,none⟩) 1 t3,.slice (some ⟨h4,0,none⟩) 1 t4] (qC q (.slice aos n1 cas) (.slice aoc n2 cac) (.slice aoi n3 cai) (.slice aop n4 cap)) (qC q (.slice (some ⟨G1,0,none⟩) n1 (n1+2)) (.slice (some ⟨G2,0,none⟩) n2 (n2+2)) (.slice (some ⟨G3,0,none⟩) n3 (n3+2)) (.slice (some ⟨G4,0,none⟩) n4 (n4+2))) z∧Loc z A4 #[.string ⟨#[111,119,110]⟩,.int .i64 77] 91∧Loc z A1 #[.string ⟨#[111,119,110]⟩,.string ⟨#[]⟩,.string ⟨#[]⟩,.int .i64 77,.int .i64 0] 85∧Loc z A2 #[.int .i64 77,.string ⟨#[]⟩,.string ⟨#[]⟩,.int .i64 0,.string ⟨#[]⟩,.string ⟨#[]⟩,.int .i64 0] 87∧Loc z A3 #[.string ⟨#[111,119,110]⟩,.string ⟨#[77]⟩] 89)
           case first=>
            go_region
            all_goals
             go_wp2_with fail
             go_meet
             exact⟨_,rfl,(HQ.out.quiet (grown_alloc _ _ none)).quiet (grown_drew _ 1 none),(Loc.new _ _ _).drew 1,(HA1.out.alloc _).drew 1,(HA2.out.alloc _).drew 1,(HA3.out.alloc _).drew 1⟩
           case rest=>
            obtain⟨A4,rfl,hq9,ha4,ha1,ha2,ha3⟩:=hcut
            have HQ2:=Lib.hid hq9
            clear HQ HA1 HA2 HA3 hq9 u hr x ud hrd xd ua hra xa hix hwr hge htn m0 md0 ma0 m1 md1 ma1
            have HA4:=Lib.hid ha4
            have HA1:=Lib.hid ha1
            have HA2:=Lib.hid ha2
            have HA3:=Lib.hid ha3
            clear ha4 ha1 ha2 ha3
            have HQ:=HQ2
            clear HQ2
            have d10:=cell_regrown (show wc.cell? ⟨A1,0,none⟩=some (.string ⟨#[111,119,110]⟩) from (HA1.out.cell 0).trans rfl)
            have d11:=cell_regrown (show wc.cell? ⟨A1,1,none⟩=some (.string ⟨#[]⟩) from (HA1.out.cell 1).trans rfl)
            have d12:=cell_regrown (show wc.cell? ⟨A1,2,none⟩=some (.string ⟨#[]⟩) from (HA1.out.cell 2).trans rfl)
            have d13:=cell_regrown (show wc.cell? ⟨A1,3,none⟩=some (.int .i64 77) from (HA1.out.cell 3).trans rfl)
            have d14:=cell_regrown (show wc.cell? ⟨A1,4,none⟩=some (.int .i64 0) from (HA1.out.cell 4).trans rfl)
            have cM1:∀d os,Calls Tryz.prog 48 #[.int .i64 77] (grow (redrawn wc d) os) fun e w''=>e=.returned (.agg #[.string ⟨#[111,119,110]⟩,.string ⟨#[]⟩,.string ⟨#[]⟩,.int .i64 77,.int .i64 0])∧∃p:Regrown,w''=grow (redrawn wc p.d) p.os:=fun d os=>Calls.regrown_of (spotMark _ _)
            have d20:=cell_regrown (show wc.cell? ⟨A2,0,none⟩=some (.int .i64 77) from (HA2.out.cell 0).trans rfl)
            have d21:=cell_regrown (show wc.cell? ⟨A2,1,none⟩=some (.string ⟨#[]⟩) from (HA2.out.cell 1).trans rfl)
            have d22:=cell_regrown (show wc.cell? ⟨A2,2,none⟩=some (.string ⟨#[]⟩) from (HA2.out.cell 2).trans rfl)
            have d23:=cell_regrown (show wc.cell? ⟨A2,3,none⟩=some (.int .i64 0) from (HA2.out.cell 3).trans rfl)
            have d24:=cell_regrown (show wc.cell? ⟨A2,4,none⟩=some (.string ⟨#[]⟩) from (HA2.out.cell 4).trans rfl)
            have d25:=cell_regrown (show wc.cell? ⟨A2,5,none⟩=some (.string ⟨#[]⟩) from (HA2.out.cell 5).trans rfl)
            have d26:=cell_regrown (show wc.cell? ⟨A2,6,none⟩=some (.int .i64 0) from (HA2.out.cell 6).trans rfl)
            have cM2:∀d os,Calls Tryz.prog 49 #[.int .i64 77] (grow (redrawn wc d) os) fun e w''=>e=.returned (.agg #[.int .i64 77,.string ⟨#[]⟩,.string ⟨#[]⟩,.int .i64 0,.string ⟨#[]⟩,.string ⟨#[]⟩,.int .i64 0])∧∃p:Regrown,w''=grow (redrawn wc p.d) p.os:=fun d os=>Calls.regrown_of (condMark _ _)
            have d30:=cell_regrown (show wc.cell? ⟨A3,0,none⟩=some (.string ⟨#[111,119,110]⟩) from (HA3.out.cell 0).trans rfl)
            have d31:=cell_regrown (show wc.cell? ⟨A3,1,none⟩=some (.string ⟨#[77]⟩) from (HA3.out.cell 1).trans rfl)
            have cM3:∀d os,Calls Tryz.prog 50 #[.int .i64 77] (grow (redrawn wc d) os) fun e w''=>e=.returned (.agg #[.string ⟨#[111,119,110]⟩,.string ⟨#[77]⟩])∧∃p:Regrown,w''=grow (redrawn wc p.d) p.os:=fun d os=>Calls.regrown_of (itemMark77 _)
            have d40:=cell_regrown (show wc.cell? ⟨A4,0,none⟩=some (.string ⟨#[111,119,110]⟩) from (HA4.out.cell 0).trans rfl)
            have d41:=cell_regrown (show wc.cell? ⟨A4,1,none⟩=some (.int .i64 77) from (HA4.out.cell 1).trans rfl)
            have cM4:∀d os,Calls Tryz.prog 51 #[.int .i64 77] (grow (redrawn wc d) os) fun e w''=>e=.returned (.agg #[.string ⟨#[111,119,110]⟩,.int .i64 77])∧∃p:Regrown,w''=grow (redrawn wc p.d) p.os:=fun d os=>Calls.regrown_of (pairMark _ _)
            go_upto_region 13 with fail
            refine wp_region_quiet_below (by kernel_rfl) (by kernel_rfl) ?_
            repeat (quiet_step (first|(go_at_call 48;exact cM1 _ _)|(go_at_call 49;exact cM2 _ _)|(go_at_call 50;exact cM3 _ _)|exact cM4 _ _))
            refine wpQuiet_nil ?_
            intro W5 hw5
            have H5:Hid (A5 w U X Y #[.slice (some ⟨h1,0,none⟩) 1 t1,.slice (some ⟨h2,0,none⟩) 1 t2,.slice (some ⟨h3,0,none⟩) 1 t3,.slice (some ⟨h4,0,none⟩) 1 t4] (qC q (.slice aos n1 cas) (.slice aoc n2 cac) (.slice aoi n3 cai) (.slice aop n4 cap)) (qC q (.slice (some ⟨G1,0,none⟩) n1 (n1+2)) (.slice (some ⟨G2,0,none⟩) n2 (n2+2)) (.slice (some ⟨G3,0,none⟩) n3 (n3+2)) (.slice (some ⟨G4,0,none⟩) n4 (n4+2))) W5):=by
             obtain⟨⟨dq,osq⟩,rfl⟩:=hw5
             exact HQ.out.later (below_regrown wc dq osq)
            clear hw5 cM1 cM2 cM3 cM4 d10 d11 d12 d13 d14 d20 d21 d22 d23 d24 d25 d26 d30 d31 d40 d41
            go_wp2_with fail
            go_roundg (gk - 1)
            case measure=>omega
            case rel=>exact⟨k+1,by simp,by omega,H5.out⟩
       ·have hki:¬(k:Int)<2:=by omega
        go_wp2_with fail
        go_meet
        exact HQ.out
     case rest=>
      have HE:=Lib.hid hcut
      clear hcut HF
      go_upto_region 15 with fail
      refine wp_region_lit ?_
      refine wpList_load_mid rfl 29 _ rfl Y 0 rfl (qC q (.slice (some ⟨G1,0,none⟩) n1 (n1+2)) (.slice (some ⟨G2,0,none⟩) n2 (n2+2)) (.slice (some ⟨G3,0,none⟩) n3 (n3+2)) (.slice (some ⟨G4,0,none⟩) n4 (n4+2))).toList _ HE.out.ly.range Tryz.underlying29 rfl (by rw[Tryz.sizeQuery];rfl) ?_
      refine wpList_load_mid rfl 29 _ rfl X 0 rfl (qC q (.slice aos n1 cas) (.slice aoc n2 cac) (.slice aoi n3 cai) (.slice aop n4 cap)).toList _ HE.out.lx.range Tryz.underlying29 rfl (by rw[Tryz.sizeQuery];rfl) ?_
      go_wp2_with fail
      refine(refSame_ (a:=q) (b:=q) ((QSees.mk HP1.out HP2.out HP3.out HP4.out).below HE.out.low) (HQS.out.below HE.out.low) (by rw[HEL1.out];omega) (by rw[HEL2.out];omega) (by rw[HEL3.out];omega) (by rw[HEL4.out];omega)).mono ?_
      rw[show eqQ q q=true from Pure.eqQ_iff.2 rfl]
      rintro e W8 ⟨rfl,hb8⟩
      have HB8:=Lib.hid (HE.out.low.trans (hb8.mono HE.out.low.size))
      clear hb8
      go_wp2_with fail
      go_ret
      exact⟨rfl,HB8.out⟩
end Go.Proofs.YtobgbmfpicmpcaaGreatDoor

/- The law Formats, walked out of its callees' contracts. -/
namespace Go.Proofs.YtobgbmfpicmpcaaGreatDoor
open Go Go.RowKit
theorem wpList_allocOwned {ops:Array Oper} {rest:List Oper} {op:Oper} {a:Act} {w:World} {Q:Exit→Act→World→Prop} (hgd:op.guard=none) (ho:op.op=.alloc 39) (h:wpList Tryz.prog ops Q rest (a.put op.dst (.pointer (some ⟨w.heap.size,0,none⟩))) (w.alloc (.cells #[.slice none 0 0,.slice none 0 0,.slice none 0 0,.slice none 0 0] 39))):wpList Tryz.prog ops Q (op::rest) a w:=
 wpList_plain hgd fun _ hK=>by
  unfold Oper.wp execOp
  simp only[ho]
  go_simp
  exact hK _ _ h
structure F5 (W W1:World) (q:PQuery) (n1 n2 n3 n4 G1 G2 G3 G4:Nat) (o1 o2 o3 o4:Value) (X P O:Nat) (qx:Array Value) (w:World):Prop where
 low:Below W.heap.size W w
 lx:Loc w X qx 29
 lp:Loc w P (qC q (.slice (some ⟨G1,0,none⟩) n1 (n1+2)) (.slice (some ⟨G2,0,none⟩) n2 (n2+2)) (.slice (some ⟨G3,0,none⟩) n3 (n3+2)) (.slice (some ⟨G4,0,none⟩) n4 (n4+2))) 29
 lo:Loc w O #[o1,o2,o3,o4] 39
 le:Lends W1 q n1 n2 n3 n4 G1 G2 G3 G4 o1 o2 o3 o4 w
theorem F5.later {W W1:World} {q:PQuery} {n1 n2 n3 n4 G1 G2 G3 G4:Nat} {o1 o2 o3 o4:Value} {X P O:Nat} {qx:Array Value} {w w2:World} (h:F5 W W1 q n1 n2 n3 n4 G1 G2 G3 G4 o1 o2 o3 o4 X P O qx w) (hb:Below w.heap.size w w2):F5 W W1 q n1 n2 n3 n4 G1 G2 G3 G4 o1 o2 o3 o4 X P O qx w2:=by
 have g:=grown_below hb none
 exact⟨h.low.trans (hb.mono h.low.size),h.lx.grown g (by simp),h.lp.grown g (by simp),h.lo.grown g (by simp),h.le.quiet g⟩
theorem Lends.sees {W w:World} {q:PQuery} {G1 G2 G3 G4:Nat} {o1 o2 o3 o4:Value} {vs vc vi vp:Value} (h:Lends W q q.spots.length q.conds.length q.items.length q.pairs.length G1 G2 G3 G4 o1 o2 o3 o4 w) (hq:QSees W q vs vc vi vp):
  QSees w q (.slice (some ⟨G1,0,none⟩) q.spots.length (q.spots.length+2)) (.slice (some ⟨G2,0,none⟩) q.conds.length (q.conds.length+2)) (.slice (some ⟨G3,0,none⟩) q.items.length (q.items.length+2)) (.slice (some ⟨G4,0,none⟩) q.pairs.length (q.pairs.length+2)):=
 ⟨sees_row h.r1 hq.rs.1 (by omega),sees_row h.r2 hq.rc.1 (by omega),sees_row h.r3 hq.rt.1 (by omega),sees_row h.r4 hq.rp.1 (by omega)⟩
set_option maxRecDepth 100000 in
set_option maxHeartbeats 4000000 in
theorem formats {W:World} {q:PQuery} {vs vc vi vp ev:Value} (hq:QSees W q vs vc vi vp) (hf:QFits q) (ht:Tab W) (hg:W.cell? ⟨5,0,none⟩=some ev) (hev:ev=.nilIface∨∃te pe,ev=.iface te pe) (hsh:tooMany q=false→QShort q) (s1:q.spots.length≤2000000) (s2:q.conds.length≤2000000) (s3:q.items.length≤2000000) (s4:q.pairs.length≤2000000):
  Calls Tryz.prog 4 #[.agg (qC q vs vc vi vp)] W fun e W'=>e=.returned (.bool true)∧Below W.heap.size W W':=by
 obtain⟨aos,cas,rfl,_⟩:=sees_slice (l:=q.spots) hq.rs
 obtain⟨aoc,cac,rfl,_⟩:=sees_slice (l:=q.conds) hq.rc
 obtain⟨aoi,cai,rfl,_⟩:=sees_slice (l:=q.items) hq.rt
 obtain⟨aop,cap,rfl,_⟩:=sees_slice (l:=q.pairs) hq.rp
 have HQS:=Lib.hid hq
 have HQF:=Lib.hid hf
 have HT:=Lib.hid ht
 have HG:=Lib.hid hg
 have HEV:=Lib.hid hev
 have HSH:=Lib.hid hsh
 have HJ:Hid (tooMany q=false→(joined (queryW q)).length≤140737488355328):=fun hm=>by
  have h1:=hsh hm
  have h2:=joined_len (queryW_sh h1)
  have h3:=queryW_len h1.n1 h1.n2 h1.n3 h1.n4
  have h4:(queryW q).length*1048577≤1000*1048577:=Nat.mul_le_mul_right _ h3
  omega
 clear hq hf ht hg hev hsh
 have HL1:=Lib.hid (Loc.new W (qC q (.slice aos q.spots.length cas) (.slice aoc q.conds.length cac) (.slice aoi q.items.length cai) (.slice aop q.pairs.length cap)) 29)
 have HB1:=Lib.hid ((Below.refl W.heap.size W).alloc (Nat.le_refl _) (.cells (qC q (.slice aos q.spots.length cas) (.slice aoc q.conds.length cac) (.slice aoi q.items.length cai) (.slice aop q.pairs.length cap)) 29))
 go_enter Tryz.func4,Tryz.ntmps4
 go_upto_region 1 with fail
 obtain⟨X,hX⟩:∃X,X=W.heap.size:=⟨_,rfl⟩
 rw[←hX] at HL1⊢
 clear hX
 generalize W.alloc (.cells (qC q (.slice aos q.spots.length cas) (.slice aoc q.conds.length cac) (.slice aoi q.items.length cai) (.slice aop q.pairs.length cap)) 29)=W1 at HL1 HB1⊢
 refine wp_region_lit ?_
 refine wpList_load_mid rfl 29 _ rfl X 0 rfl (qC q (.slice aos q.spots.length cas) (.slice aoc q.conds.length cac) (.slice aoi q.items.length cai) (.slice aop q.pairs.length cap)).toList _ HL1.out.range Tryz.underlying29 rfl (by rw[Tryz.sizeQuery];rfl) ?_
 go_wp2_with fail
 refine(lent_ (q:=q) (HQS.out.below HB1.out) rfl rfl rfl rfl s1 s2 s3 s4).mono ?_
 rintro e W2 ⟨G1,G2,G3,G4,o1,o2,o3,o4,rfl,hle⟩
 obtain⟨p1,t1,rfl,y1⟩:=Lends.row hle.l1
 clear y1
 obtain⟨p2,t2,rfl,y2⟩:=Lends.row hle.l2
 clear y2
 obtain⟨p3,t3,rfl,y3⟩:=Lends.row hle.l3
 clear y3
 obtain⟨p4,t4,rfl,y4⟩:=Lends.row hle.l4
 clear y4
 have HLE:=Lib.hid hle
 clear hle
 rename_i KK hKK
 refine hKK _ _ ?_
 clear hKK KK
 refine wpList_move rfl rfl ?_
 refine wpList_extract rfl rfl rfl rfl ?_
 refine wpList_extract rfl rfl rfl rfl ?_
 refine wpList_allocQuery rfl rfl ?_
 refine wpList_allocOwned rfl rfl ?_
 have HP0:Hid (Loc ((W2.alloc (.cells zq 29)).alloc (.cells #[.slice none 0 0,.slice none 0 0,.slice none 0 0,.slice none 0 0] 39)) W2.heap.size zq 29):=(Loc.new W2 _ _).alloc _
 have hsz:=size_alloc W2 (.cells zq 29)
 have HO0:Hid (Loc ((W2.alloc (.cells zq 29)).alloc (.cells #[.slice none 0 0,.slice none 0 0,.slice none 0 0,.slice none 0 0] 39)) (W2.heap.size+1) #[.slice none 0 0,.slice none 0 0,.slice none 0 0,.slice none 0 0] 39):=by show Loc _ _ _ _;rw[←hsz];exact Loc.new _ _ _
 have HF:Hid (F5 W W1 q q.spots.length q.conds.length q.items.length q.pairs.length G1 G2 G3 G4 (.slice (some ⟨p1,0,none⟩) 1 t1) (.slice (some ⟨p2,0,none⟩) 1 t2) (.slice (some ⟨p3,0,none⟩) 1 t3) (.slice (some ⟨p4,0,none⟩) 1 t4) X W2.heap.size (W2.heap.size+1) (qC q (.slice aos q.spots.length cas) (.slice aoc q.conds.length cac) (.slice aoi q.items.length cai) (.slice aop q.pairs.length cap)) ((((W2.alloc (.cells zq 29)).alloc (.cells #[.slice none 0 0,.slice none 0 0,.slice none 0 0,.slice none 0 0] 39)).setCells W2.heap.size 0 (qC q (.slice (some ⟨G1,0,none⟩) q.spots.length (q.spots.length+2)) (.slice (some ⟨G2,0,none⟩) q.conds.length (q.conds.length+2)) (.slice (some ⟨G3,0,none⟩) q.items.length (q.items.length+2)) (.slice (some ⟨G4,0,none⟩) q.pairs.length (q.pairs.length+2))).toList).setCells (W2.heap.size+1) 0 #[.slice (some ⟨p1,0,none⟩) 1 t1,.slice (some ⟨p2,0,none⟩) 1 t2,.slice (some ⟨p3,0,none⟩) 1 t3,.slice (some ⟨p4,0,none⟩) 1 t4].toList)):=by
  have b0:Below W2.heap.size W2 ((W2.alloc (.cells zq 29)).alloc (.cells #[.slice none 0 0,.slice none 0 0,.slice none 0 0,.slice none 0 0] 39)):=Below.alloc (Below.alloc (Below.refl _ _) (Nat.le_refl _) _) (by rw[hsz];omega) _
  have g1:=grown_setMany W2.heap.size (qC q (.slice (some ⟨G1,0,none⟩) q.spots.length (q.spots.length+2)) (.slice (some ⟨G2,0,none⟩) q.conds.length (q.conds.length+2)) (.slice (some ⟨G3,0,none⟩) q.items.length (q.items.length+2)) (.slice (some ⟨G4,0,none⟩) q.pairs.length (q.pairs.length+2))).toList 0 ((W2.alloc (.cells zq 29)).alloc (.cells #[.slice none 0 0,.slice none 0 0,.slice none 0 0,.slice none 0 0] 39))
  have hP1:=HP0.out.setAll (new:=(qC q (.slice (some ⟨G1,0,none⟩) q.spots.length (q.spots.length+2)) (.slice (some ⟨G2,0,none⟩) q.conds.length (q.conds.length+2)) (.slice (some ⟨G3,0,none⟩) q.items.length (q.items.length+2)) (.slice (some ⟨G4,0,none⟩) q.pairs.length (q.pairs.length+2)))) rfl
  have hO1:=HO0.out.grown g1 (some_ne (by omega))
  have b1:=below_grown b0 (Nat.le_refl _) g1 (fun x e=>by injection e with e;omega)
  have g2:=grown_setMany (W2.heap.size+1) #[.slice (some ⟨p1,0,none⟩) 1 t1,.slice (some ⟨p2,0,none⟩) 1 t2,.slice (some ⟨p3,0,none⟩) 1 t3,.slice (some ⟨p4,0,none⟩) 1 t4].toList 0 (((W2.alloc (.cells zq 29)).alloc (.cells #[.slice none 0 0,.slice none 0 0,.slice none 0 0,.slice none 0 0] 39)).setCells W2.heap.size 0 (qC q (.slice (some ⟨G1,0,none⟩) q.spots.length (q.spots.length+2)) (.slice (some ⟨G2,0,none⟩) q.conds.length (q.conds.length+2)) (.slice (some ⟨G3,0,none⟩) q.items.length (q.items.length+2)) (.slice (some ⟨G4,0,none⟩) q.pairs.length (q.pairs.length+2))).toList)
  have hP2:=hP1.grown g2 (some_ne (by omega))
  have hO2:=hO1.setAll (new:=#[.slice (some ⟨p1,0,none⟩) 1 t1,.slice (some ⟨p2,0,none⟩) 1 t2,.slice (some ⟨p3,0,none⟩) 1 t3,.slice (some ⟨p4,0,none⟩) 1 t4]) rfl
  have b2:=below_grown b1 (Nat.le_refl _) g2 (fun x e=>by injection e with e;omega)
  have g3:=grown_below b2 none
  have lw:=HLE.out.low
  exact⟨HB1.out.trans ((lw.mono HB1.out.size).trans (b2.mono (Nat.le_trans HB1.out.size lw.size))),(HL1.out.grown (grown_below lw none) (by simp)).grown g3 (by simp),hP2,hO2,HLE.out.quiet g3⟩
 refine wpList_store_mid rfl 29 _ _ rfl W2.heap.size 0 (qC q (.slice (some ⟨G1,0,none⟩) q.spots.length (q.spots.length+2)) (.slice (some ⟨G2,0,none⟩) q.conds.length (q.conds.length+2)) (.slice (some ⟨G3,0,none⟩) q.items.length (q.items.length+2)) (.slice (some ⟨G4,0,none⟩) q.pairs.length (q.pairs.length+2))) rfl rfl HP0.out.there Tryz.sizeQuery (qC_one _) ?_
 rw[hsz]
 refine wpList_store_mid rfl 39 _ _ rfl (W2.heap.size+1) 0 #[.slice (some ⟨p1,0,none⟩) 1 t1,.slice (some ⟨p2,0,none⟩) 1 t2,.slice (some ⟨p3,0,none⟩) 1 t3,.slice (some ⟨p4,0,none⟩) 1 t4] rfl rfl (HO0.out.grown (grown_setMany W2.heap.size _ 0 _) (some_ne (by omega))).there Tryz.sizeOwned (by simp[Value.oneCell']) ?_
 obtain⟨P,hP⟩:∃x,x=W2.heap.size:=⟨_,rfl⟩
 obtain⟨O,hO⟩:∃x,x=W2.heap.size+1:=⟨_,rfl⟩
 rw[←hO,←hP] at HF⊢
 clear hO hP HP0 HO0 hsz HL1
 generalize (((W2.alloc (.cells zq 29)).alloc (.cells #[.slice none 0 0,.slice none 0 0,.slice none 0 0,.slice none 0 0] 39)).setCells P 0 (qC q (.slice (some ⟨G1,0,none⟩) q.spots.length (q.spots.length+2)) (.slice (some ⟨G2,0,none⟩) q.conds.length (q.conds.length+2)) (.slice (some ⟨G3,0,none⟩) q.items.length (q.items.length+2)) (.slice (some ⟨G4,0,none⟩) q.pairs.length (q.pairs.length+2))).toList).setCells O 0 #[.slice (some ⟨p1,0,none⟩) 1 t1,.slice (some ⟨p2,0,none⟩) 1 t2,.slice (some ⟨p3,0,none⟩) 1 t3,.slice (some ⟨p4,0,none⟩) 1 t4].toList=V0 at HF⊢
 clear HLE
 go_upto_region 2 with fail
 refine wp_region_lit ?_
 refine wpList_load_mid rfl 29 _ rfl P 0 rfl (qC q (.slice (some ⟨G1,0,none⟩) q.spots.length (q.spots.length+2)) (.slice (some ⟨G2,0,none⟩) q.conds.length (q.conds.length+2)) (.slice (some ⟨G3,0,none⟩) q.items.length (q.items.length+2)) (.slice (some ⟨G4,0,none⟩) q.pairs.length (q.pairs.length+2))).toList _ HF.out.lp.range Tryz.underlying29 rfl (by rw[Tryz.sizeQuery];rfl) ?_
 go_wp2_with fail
 refine(progFormat (q:=q) (HF.out.le.sees (HQS.out.below HB1.out)) HQF.out (HT.out.below HF.out.low) ((HF.out.low.cell (Lib.lt_of_cell HG.out)).trans HG.out) HEV.out HJ.out).mono ?_
 rintro e V1 ⟨rfl,hb1⟩
 rw[Pure.fmt_eq toks q]
 have HF1:=Lib.hid (HF.out.later hb1)
 clear hb1 HF
 obtain⟨⟨ft,fe⟩,hfm⟩:∃p,fmtOf toks (queryT q) q=p:=⟨_,rfl⟩
 have HFM:=Lib.hid hfm
 rw[hfm]
 clear hfm
 simp only
 go_upto_region 3 with fail
 refine wp_region_lit ?_
 refine wpList_load_mid rfl 29 _ rfl X 0 rfl (qC q (.slice aos q.spots.length cas) (.slice aoc q.conds.length cac) (.slice aoi q.items.length cai) (.slice aop q.pairs.length cap)).toList _ HF1.out.lx.range Tryz.underlying29 rfl (by rw[Tryz.sizeQuery];rfl) ?_
 go_wp2_with fail
 refine(refFormat (q:=q) (HQS.out.below HF1.out.low) HSH.out).mono ?_
 rintro e V2 ⟨rfl,hb2⟩
 rw[HFM.out]
 simp only
 have HF2:=Lib.hid (HF1.out.later hb2)
 clear hb2 HF1
 go_upto_region 4 with fail
 refine wp_region_lit ?_
 refine wpList_load_mid rfl 39 _ rfl O 0 rfl #[.slice (some ⟨p1,0,none⟩) 1 t1,.slice (some ⟨p2,0,none⟩) 1 t2,.slice (some ⟨p3,0,none⟩) 1 t3,.slice (some ⟨p4,0,none⟩) 1 t4].toList _ HF2.out.lo.range Tryz.underlying39 rfl (by rw[Tryz.sizeOwned];rfl) ?_
 refine wpList_load_mid rfl 29 _ rfl X 0 rfl (qC q (.slice aos q.spots.length cas) (.slice aoc q.conds.length cac) (.slice aoi q.items.length cai) (.slice aop q.pairs.length cap)).toList _ HF2.out.lx.range Tryz.underlying29 rfl (by rw[Tryz.sizeQuery];rfl) ?_
 go_wp2_with fail
 refine(asLent_ (q:=q) (HQS.out.below HF2.out.low) HF2.out.le rfl rfl rfl rfl s1 s2 s3 s4).mono ?_
 rintro e V3 ⟨rfl,hb3⟩
 have HB9:=Lib.hid (HF2.out.low.trans (hb3.mono HF2.out.low.size))
 clear hb3 HF2
 go_wp2_with fail
 go_ret
 exact⟨rfl,HB9.out⟩
end Go.Proofs.YtobgbmfpicmpcaaGreatDoor

