/- The law's lent, walked. -/
import Derived.Test.YtobgbmfpicmpcaaGreatDoorC28
namespace Go.Proofs.YtobgbmfpicmpcaaGreatDoor
open Go Go.RowKit
set_option maxRecDepth 100000 in
set_option maxHeartbeats 9000000 in
theorem lent_ {W:World} {q:PQuery} {aos aoc aoi aop:Option Addr} {n1 n2 n3 n4 cas cac cai cap:Nat} (hq:QSees W q (.slice aos n1 cas) (.slice aoc n2 cac) (.slice aoi n3 cai) (.slice aop n4 cap)) (e1:q.spots.length=n1) (e2:q.conds.length=n2) (e3:q.items.length=n3) (e4:q.pairs.length=n4) (s1:n1≤2000000) (s2:n2≤2000000) (s3:n3≤2000000) (s4:n4≤2000000):
  Calls Tryz.prog 19 #[.agg (qC q (.slice aos n1 cas) (.slice aoc n2 cac) (.slice aoi n3 cai) (.slice aop n4 cap))] W fun e W'=>∃G1 G2 G3 G4 o1 o2 o3 o4,e=.returned (.tuple #[.agg (qC q (.slice (some ⟨G1,0,none⟩) n1 (n1+2)) (.slice (some ⟨G2,0,none⟩) n2 (n2+2)) (.slice (some ⟨G3,0,none⟩) n3 (n3+2)) (.slice (some ⟨G4,0,none⟩) n4 (n4+2))),.agg #[o1,o2,o3,o4]])∧Lends W q n1 n2 n3 n4 G1 G2 G3 G4 o1 o2 o3 o4 W':=by
 obtain⟨i1,hi1,hz10,hz11,hz12⟩:=info_parts Tryz.infoSpot
 obtain⟨g1,hg1,hy10,hy11,hy12⟩:=info_parts Tryz.listS
 have hsz1:(Tryz.prog.info? 85).map (·.size)=some 5:=by rw[hi1];simp[hz11]
 have HC1:Hid ((spotCells q.spots).length=n1*5):=by have h:=hq.rs.1;rw[e1] at h;exact h
 have HV1:Hid (Sees W 5 (.slice aos n1 cas) n1 (spotCells q.spots)):=by have h:=hq.rs;rw[e1] at h;exact h
 have HI1:=Lib.hid (And.intro hi1 (And.intro hz10 (And.intro hz11 (And.intro hz12 hsz1))))
 have HG1:=Lib.hid (And.intro hg1 (And.intro hy10 (And.intro hy11 hy12)))
 have hby1:i1.bytes*(n1+2)≤281474976710656:=by rw[hz12];omega
 have HBY1:=Lib.hid hby1
 clear hi1 hz10 hz11 hz12 hsz1 hg1 hy10 hy11 hy12 hby1 e1
 obtain⟨i2,hi2,hz20,hz21,hz22⟩:=info_parts Tryz.infoCond
 obtain⟨g2,hg2,hy20,hy21,hy22⟩:=info_parts Tryz.listC
 have hsz2:(Tryz.prog.info? 87).map (·.size)=some 7:=by rw[hi2];simp[hz21]
 have HC2:Hid ((condCells q.conds).length=n2*7):=by have h:=hq.rc.1;rw[e2] at h;exact h
 have HV2:Hid (Sees W 7 (.slice aoc n2 cac) n2 (condCells q.conds)):=by have h:=hq.rc;rw[e2] at h;exact h
 have HI2:=Lib.hid (And.intro hi2 (And.intro hz20 (And.intro hz21 (And.intro hz22 hsz2))))
 have HG2:=Lib.hid (And.intro hg2 (And.intro hy20 (And.intro hy21 hy22)))
 have hby2:i2.bytes*(n2+2)≤281474976710656:=by rw[hz22];omega
 have HBY2:=Lib.hid hby2
 clear hi2 hz20 hz21 hz22 hsz2 hg2 hy20 hy21 hy22 hby2 e2
 obtain⟨i3,hi3,hz30,hz31,hz32⟩:=info_parts Tryz.infoItem
 obtain⟨g3,hg3,hy30,hy31,hy32⟩:=info_parts Tryz.listI
 have hsz3:(Tryz.prog.info? 89).map (·.size)=some 2:=by rw[hi3];simp[hz31]
 have HC3:Hid ((itemCells q.items).length=n3*2):=by have h:=hq.rt.1;rw[e3] at h;exact h
 have HV3:Hid (Sees W 2 (.slice aoi n3 cai) n3 (itemCells q.items)):=by have h:=hq.rt;rw[e3] at h;exact h
 have HI3:=Lib.hid (And.intro hi3 (And.intro hz30 (And.intro hz31 (And.intro hz32 hsz3))))
 have HG3:=Lib.hid (And.intro hg3 (And.intro hy30 (And.intro hy31 hy32)))
 have hby3:i3.bytes*(n3+2)≤281474976710656:=by rw[hz32];omega
 have HBY3:=Lib.hid hby3
 clear hi3 hz30 hz31 hz32 hsz3 hg3 hy30 hy31 hy32 hby3 e3
 obtain⟨i4,hi4,hz40,hz41,hz42⟩:=info_parts Tryz.infoPair
 obtain⟨g4,hg4,hy40,hy41,hy42⟩:=info_parts Tryz.listP
 have hsz4:(Tryz.prog.info? 91).map (·.size)=some 2:=by rw[hi4];simp[hz41]
 have HC4:Hid ((pairCells q.pairs).length=n4*2):=by have h:=hq.rp.1;rw[e4] at h;exact h
 have HV4:Hid (Sees W 2 (.slice aop n4 cap) n4 (pairCells q.pairs)):=by have h:=hq.rp;rw[e4] at h;exact h
 have HI4:=Lib.hid (And.intro hi4 (And.intro hz40 (And.intro hz41 (And.intro hz42 hsz4))))
 have HG4:=Lib.hid (And.intro hg4 (And.intro hy40 (And.intro hy41 hy42)))
 have hby4:i4.bytes*(n4+2)≤281474976710656:=by rw[hz42];omega
 have HBY4:=Lib.hid hby4
 clear hi4 hz40 hz41 hz42 hsz4 hg4 hy40 hy41 hy42 hby4 e4
 clear hq
 have H0:Hid (L0 W W.heap.size (W.heap.size+1) (W.heap.size+1+1) (W.heap.size+1+1+1) (qC q (.slice aos n1 cas) (.slice aoc n2 cac) (.slice aoi n3 cai) (.slice aop n4 cap)) ((((W.alloc (.cells (qC q (.slice aos n1 cas) (.slice aoc n2 cac) (.slice aoi n3 cai) (.slice aop n4 cap)) 29)).alloc (.cells zq 29)).alloc (.cells #[.slice none 0 0,.slice none 0 0,.slice none 0 0,.slice none 0 0] 39)).alloc (.cells #[.slice none 0 0,.slice none 0 0,.slice none 0 0,.slice none 0 0] 39))):=by
  have s1:=size_alloc W (.cells (qC q (.slice aos n1 cas) (.slice aoc n2 cac) (.slice aoi n3 cai) (.slice aop n4 cap)) 29)
  have h1:=Loc.new W (qC q (.slice aos n1 cas) (.slice aoc n2 cac) (.slice aoi n3 cai) (.slice aop n4 cap)) 29
  have b1:=(Below.refl W.heap.size W).alloc (Nat.le_refl _) (.cells (qC q (.slice aos n1 cas) (.slice aoc n2 cac) (.slice aoi n3 cai) (.slice aop n4 cap)) 29)
  generalize W.alloc (.cells (qC q (.slice aos n1 cas) (.slice aoc n2 cac) (.slice aoi n3 cai) (.slice aop n4 cap)) 29)=W1 at s1 h1 b1⊢
  have s2:=size_alloc W1 (.cells zq 29)
  have h2:=Loc.new W1 zq 29
  have b2:=b1.alloc b1.size (.cells zq 29)
  have k1:=h1.alloc (.cells zq 29)
  generalize W1.alloc (.cells zq 29)=W2 at s2 h2 b2 k1⊢
  have s3:=size_alloc W2 (.cells #[.slice none 0 0,.slice none 0 0,.slice none 0 0,.slice none 0 0] 39)
  have h3:=Loc.new W2 #[.slice none 0 0,.slice none 0 0,.slice none 0 0,.slice none 0 0] 39
  have b3:=b2.alloc b2.size (.cells #[.slice none 0 0,.slice none 0 0,.slice none 0 0,.slice none 0 0] 39)
  have k2:=k1.alloc (.cells #[.slice none 0 0,.slice none 0 0,.slice none 0 0,.slice none 0 0] 39)
  have k3:=h2.alloc (.cells #[.slice none 0 0,.slice none 0 0,.slice none 0 0,.slice none 0 0] 39)
  generalize W2.alloc (.cells #[.slice none 0 0,.slice none 0 0,.slice none 0 0,.slice none 0 0] 39)=W3 at s3 h3 b3 k2 k3⊢
  have h4:=Loc.new W3 #[.slice none 0 0,.slice none 0 0,.slice none 0 0,.slice none 0 0] 39
  rw[s1] at s2 h2 k3
  rw[s2] at s3 h3
  rw[s3] at h4
  exact⟨b3.alloc b3.size _,k2.alloc _,k3.alloc _,h3.alloc _,h4⟩
 go_enter Tryz.func19,Tryz.ntmps19
 go_upto_region 2 with fail
 obtain⟨X,hX⟩:∃X,X=W.heap.size:=⟨_,rfl⟩
 obtain⟨R,hR⟩:∃R,R=W.heap.size+1:=⟨_,rfl⟩
 obtain⟨S,hS⟩:∃S,S=W.heap.size+1+1:=⟨_,rfl⟩
 obtain⟨O,hO⟩:∃O,O=W.heap.size+1+1+1:=⟨_,rfl⟩
 have HXN:=Lib.hid (show X≠R by omega)
 have HBND:=Lib.hid (show W.heap.size≤X∧W.heap.size≤R∧W.heap.size≤S∧W.heap.size≤O∧S≠O by omega)
 rw[←hO,←hS,←hR,←hX] at H0
 rw[←hO,←hS,←hR,←hX]
 clear hO hS hR hX
 generalize (((W.alloc (.cells (qC q (.slice aos n1 cas) (.slice aoc n2 cac) (.slice aoi n3 cai) (.slice aop n4 cap)) 29)).alloc (.cells zq 29)).alloc (.cells #[.slice none 0 0,.slice none 0 0,.slice none 0 0,.slice none 0 0] 39)).alloc (.cells #[.slice none 0 0,.slice none 0 0,.slice none 0 0,.slice none 0 0] 39)=V0 at H0⊢
 have c1:=H0.out.lx.at_ 1 (.slice aos n1 cas) rfl
 have cn1:(V0.alloc (.cells (madeCells #[.string ⟨#[]⟩,.string ⟨#[]⟩,.string ⟨#[]⟩,.int .i64 0,.int .i64 0] ((n1+2)*5)) 85)).cell? ⟨X,1,none⟩=some (.slice aos n1 cas):=((H0.out.lx.alloc _).cell 1).trans rfl
 have HN1:Hid (L0 W X R S O (qC q (.slice aos n1 cas) (.slice aoc n2 cac) (.slice aoi n3 cai) (.slice aop n4 cap)) ((V0.alloc (.cells (madeCells #[.string ⟨#[]⟩,.string ⟨#[]⟩,.string ⟨#[]⟩,.int .i64 0,.int .i64 0] ((n1+2)*5)) 85)).setRow V0.heap.size (spotCells q.spots++(madeCells #[.string ⟨#[]⟩,.string ⟨#[]⟩,.string ⟨#[]⟩,.int .i64 0,.int .i64 0] ((n1+2)*5)).toList.drop (spotCells q.spots).length).toArray)):=H0.out.made _ _
 have HR1:Hid (Loc ((V0.alloc (.cells (madeCells #[.string ⟨#[]⟩,.string ⟨#[]⟩,.string ⟨#[]⟩,.int .i64 0,.int .i64 0] ((n1+2)*5)) 85)).setRow V0.heap.size (spotCells q.spots++(madeCells #[.string ⟨#[]⟩,.string ⟨#[]⟩,.string ⟨#[]⟩,.int .i64 0,.int .i64 0] ((n1+2)*5)).toList.drop (spotCells q.spots).length).toArray) V0.heap.size (spotCells q.spots++(madeCells #[.string ⟨#[]⟩,.string ⟨#[]⟩,.string ⟨#[]⟩,.int .i64 0,.int .i64 0] ((n1+2)*5)).toList.drop (spotCells q.spots).length).toArray 85):=Loc.madeNew _ _ _ _
 have HK1:Hid (RowK (spotCells q.spots++(madeCells #[.string ⟨#[]⟩,.string ⟨#[]⟩,.string ⟨#[]⟩,.int .i64 0,.int .i64 0] ((n1+2)*5)).toList.drop (spotCells q.spots).length) (spotCells q.spots) lS n1 0 5):=RowK.start HC1.out (by simp[size_madeCells])
 have HB1:Hid (W.heap.size≤V0.heap.size):=H0.out.low.size
 have HX1:Hid (Below W.heap.size W (V0.alloc (.cells (madeCells #[.string ⟨#[]⟩,.string ⟨#[]⟩,.string ⟨#[]⟩,.int .i64 0,.int .i64 0] ((n1+2)*5)) 85))):=H0.out.low.alloc H0.out.low.size _
 go_upto_region 3 with (refine wpList_make_wide _ rfl _ _ 22 rfl 85 i1 (.agg #[.string ⟨#[]⟩,.string ⟨#[]⟩,.string ⟨#[]⟩,.int .i64 0,.int .i64 0]) 5 Tryz.underlying22 HI1.out.1 HI1.out.2.1 HI1.out.2.2.1 .i64 .i64 _ _ (n1+2) rfl rfl (by simp) (by simp) HBY1.out (by omega) ?_)
 refine wp_region_lit ?_
 refine wpList_move rfl rfl ?_
 refine wpList_plain rfl fun K hK=>?_
 go_simp
 refine hK _ _ ?_
 clear hK K
 refine wpList_plain rfl fun K hK=>?_
 go_simp
 refine hK _ _ ?_
 clear hK K
 refine wpList_copy_wide rfl _ _ 22 22 rfl 85 5 n1 (n1+2) (n1+2) cas V0.heap.size aos rfl rfl (madeCells #[.string ⟨#[]⟩,.string ⟨#[]⟩,.string ⟨#[]⟩,.int .i64 0,.int .i64 0] ((n1+2)*5)) 85 (spotCells q.spots) Tryz.underlying22 HI1.out.2.2.2.2 (Loc.new V0 _ _) HC1.out (by omega) (sees_src HV1.out HX1.out) (by rw[HC1.out,size_madeCells];exact Nat.mul_le_mul_right 5 (by omega)) cells_one ?_
 clear c1 cn1 H0 HX1
 obtain⟨x1,hx1⟩:∃x1,x1=(spotCells q.spots++(madeCells #[.string ⟨#[]⟩,.string ⟨#[]⟩,.string ⟨#[]⟩,.int .i64 0,.int .i64 0] ((n1+2)*5)).toList.drop (spotCells q.spots).length):=⟨_,rfl⟩
 rw[←hx1] at HN1 HR1 HK1⊢
 clear hx1
 obtain⟨G1,hG1⟩:∃G1,G1=V0.heap.size:=⟨_,rfl⟩
 rw[←hG1] at HN1 HR1 HB1⊢
 clear hG1
 generalize (V0.alloc (.cells (madeCells #[.string ⟨#[]⟩,.string ⟨#[]⟩,.string ⟨#[]⟩,.int .i64 0,.int .i64 0] ((n1+2)*5)) 85)).setRow G1 x1.toArray=V1 at HN1 HR1 ⊢
 have H1:=HN1
 clear HN1
 have c2:=H1.out.lx.at_ 2 (.slice aoc n2 cac) rfl
 have cn2:(V1.alloc (.cells (madeCells #[.int .i64 0,.string ⟨#[]⟩,.string ⟨#[]⟩,.int .i64 0,.string ⟨#[]⟩,.string ⟨#[]⟩,.int .i64 0] ((n2+2)*7)) 87)).cell? ⟨X,2,none⟩=some (.slice aoc n2 cac):=((H1.out.lx.alloc _).cell 2).trans rfl
 have HN2:Hid (L0 W X R S O (qC q (.slice aos n1 cas) (.slice aoc n2 cac) (.slice aoi n3 cai) (.slice aop n4 cap)) ((V1.alloc (.cells (madeCells #[.int .i64 0,.string ⟨#[]⟩,.string ⟨#[]⟩,.int .i64 0,.string ⟨#[]⟩,.string ⟨#[]⟩,.int .i64 0] ((n2+2)*7)) 87)).setRow V1.heap.size (condCells q.conds++(madeCells #[.int .i64 0,.string ⟨#[]⟩,.string ⟨#[]⟩,.int .i64 0,.string ⟨#[]⟩,.string ⟨#[]⟩,.int .i64 0] ((n2+2)*7)).toList.drop (condCells q.conds).length).toArray)):=H1.out.made _ _
 have HR2:Hid (Loc ((V1.alloc (.cells (madeCells #[.int .i64 0,.string ⟨#[]⟩,.string ⟨#[]⟩,.int .i64 0,.string ⟨#[]⟩,.string ⟨#[]⟩,.int .i64 0] ((n2+2)*7)) 87)).setRow V1.heap.size (condCells q.conds++(madeCells #[.int .i64 0,.string ⟨#[]⟩,.string ⟨#[]⟩,.int .i64 0,.string ⟨#[]⟩,.string ⟨#[]⟩,.int .i64 0] ((n2+2)*7)).toList.drop (condCells q.conds).length).toArray) V1.heap.size (condCells q.conds++(madeCells #[.int .i64 0,.string ⟨#[]⟩,.string ⟨#[]⟩,.int .i64 0,.string ⟨#[]⟩,.string ⟨#[]⟩,.int .i64 0] ((n2+2)*7)).toList.drop (condCells q.conds).length).toArray 87):=Loc.madeNew _ _ _ _
 have HR1_:Hid (Loc ((V1.alloc (.cells (madeCells #[.int .i64 0,.string ⟨#[]⟩,.string ⟨#[]⟩,.int .i64 0,.string ⟨#[]⟩,.string ⟨#[]⟩,.int .i64 0] ((n2+2)*7)) 87)).setRow V1.heap.size (condCells q.conds++(madeCells #[.int .i64 0,.string ⟨#[]⟩,.string ⟨#[]⟩,.int .i64 0,.string ⟨#[]⟩,.string ⟨#[]⟩,.int .i64 0] ((n2+2)*7)).toList.drop (condCells q.conds).length).toArray) G1 x1.toArray 85):=HR1.out.made _ _
 have HK2:Hid (RowK (condCells q.conds++(madeCells #[.int .i64 0,.string ⟨#[]⟩,.string ⟨#[]⟩,.int .i64 0,.string ⟨#[]⟩,.string ⟨#[]⟩,.int .i64 0] ((n2+2)*7)).toList.drop (condCells q.conds).length) (condCells q.conds) lC n2 0 7):=RowK.start HC2.out (by simp[size_madeCells])
 have HB2:Hid (W.heap.size≤V1.heap.size):=H1.out.low.size
 have HX2:Hid (Below W.heap.size W (V1.alloc (.cells (madeCells #[.int .i64 0,.string ⟨#[]⟩,.string ⟨#[]⟩,.int .i64 0,.string ⟨#[]⟩,.string ⟨#[]⟩,.int .i64 0] ((n2+2)*7)) 87))):=H1.out.low.alloc H1.out.low.size _
 go_upto_region 5 with (refine wpList_make_wide _ rfl _ _ 23 rfl 87 i2 (.agg #[.int .i64 0,.string ⟨#[]⟩,.string ⟨#[]⟩,.int .i64 0,.string ⟨#[]⟩,.string ⟨#[]⟩,.int .i64 0]) 7 Tryz.underlying23 HI2.out.1 HI2.out.2.1 HI2.out.2.2.1 .i64 .i64 _ _ (n2+2) rfl rfl (by simp) (by simp) HBY2.out (by omega) ?_)
 refine wp_region_lit ?_
 refine wpList_move rfl rfl ?_
 refine wpList_plain rfl fun K hK=>?_
 go_simp
 refine hK _ _ ?_
 clear hK K
 refine wpList_plain rfl fun K hK=>?_
 go_simp
 refine hK _ _ ?_
 clear hK K
 refine wpList_copy_wide rfl _ _ 23 23 rfl 87 7 n2 (n2+2) (n2+2) cac V1.heap.size aoc rfl rfl (madeCells #[.int .i64 0,.string ⟨#[]⟩,.string ⟨#[]⟩,.int .i64 0,.string ⟨#[]⟩,.string ⟨#[]⟩,.int .i64 0] ((n2+2)*7)) 87 (condCells q.conds) Tryz.underlying23 HI2.out.2.2.2.2 (Loc.new V1 _ _) HC2.out (by omega) (sees_src HV2.out HX2.out) (by rw[HC2.out,size_madeCells];exact Nat.mul_le_mul_right 7 (by omega)) cells_one2 ?_
 clear c2 cn2 H1 HX2
 obtain⟨x2,hx2⟩:∃x2,x2=(condCells q.conds++(madeCells #[.int .i64 0,.string ⟨#[]⟩,.string ⟨#[]⟩,.int .i64 0,.string ⟨#[]⟩,.string ⟨#[]⟩,.int .i64 0] ((n2+2)*7)).toList.drop (condCells q.conds).length):=⟨_,rfl⟩
 rw[←hx2] at HN2 HR2 HK2⊢
 rw[←hx2] at HR1_
 clear hx2
 obtain⟨G2,hG2⟩:∃G2,G2=V1.heap.size:=⟨_,rfl⟩
 rw[←hG2] at HN2 HR2 HB2⊢
 rw[←hG2] at HR1_
 clear hG2
 generalize (V1.alloc (.cells (madeCells #[.int .i64 0,.string ⟨#[]⟩,.string ⟨#[]⟩,.int .i64 0,.string ⟨#[]⟩,.string ⟨#[]⟩,.int .i64 0] ((n2+2)*7)) 87)).setRow G2 x2.toArray=V2 at HN2 HR2 HR1_⊢
 clear HR1
 have HR1:=HR1_
 clear HR1_
 have H2:=HN2
 clear HN2
 have c3:=H2.out.lx.at_ 3 (.slice aoi n3 cai) rfl
 have cn3:(V2.alloc (.cells (madeCells #[.string ⟨#[]⟩,.string ⟨#[]⟩] ((n3+2)*2)) 89)).cell? ⟨X,3,none⟩=some (.slice aoi n3 cai):=((H2.out.lx.alloc _).cell 3).trans rfl
 have HN3:Hid (L0 W X R S O (qC q (.slice aos n1 cas) (.slice aoc n2 cac) (.slice aoi n3 cai) (.slice aop n4 cap)) ((V2.alloc (.cells (madeCells #[.string ⟨#[]⟩,.string ⟨#[]⟩] ((n3+2)*2)) 89)).setRow V2.heap.size (itemCells q.items++(madeCells #[.string ⟨#[]⟩,.string ⟨#[]⟩] ((n3+2)*2)).toList.drop (itemCells q.items).length).toArray)):=H2.out.made _ _
 have HR3:Hid (Loc ((V2.alloc (.cells (madeCells #[.string ⟨#[]⟩,.string ⟨#[]⟩] ((n3+2)*2)) 89)).setRow V2.heap.size (itemCells q.items++(madeCells #[.string ⟨#[]⟩,.string ⟨#[]⟩] ((n3+2)*2)).toList.drop (itemCells q.items).length).toArray) V2.heap.size (itemCells q.items++(madeCells #[.string ⟨#[]⟩,.string ⟨#[]⟩] ((n3+2)*2)).toList.drop (itemCells q.items).length).toArray 89):=Loc.madeNew _ _ _ _
 have HR1_:Hid (Loc ((V2.alloc (.cells (madeCells #[.string ⟨#[]⟩,.string ⟨#[]⟩] ((n3+2)*2)) 89)).setRow V2.heap.size (itemCells q.items++(madeCells #[.string ⟨#[]⟩,.string ⟨#[]⟩] ((n3+2)*2)).toList.drop (itemCells q.items).length).toArray) G1 x1.toArray 85):=HR1.out.made _ _
 have HR2_:Hid (Loc ((V2.alloc (.cells (madeCells #[.string ⟨#[]⟩,.string ⟨#[]⟩] ((n3+2)*2)) 89)).setRow V2.heap.size (itemCells q.items++(madeCells #[.string ⟨#[]⟩,.string ⟨#[]⟩] ((n3+2)*2)).toList.drop (itemCells q.items).length).toArray) G2 x2.toArray 87):=HR2.out.made _ _
 have HK3:Hid (RowK (itemCells q.items++(madeCells #[.string ⟨#[]⟩,.string ⟨#[]⟩] ((n3+2)*2)).toList.drop (itemCells q.items).length) (itemCells q.items) lI n3 0 2):=RowK.start HC3.out (by simp[size_madeCells])
 have HB3:Hid (W.heap.size≤V2.heap.size):=H2.out.low.size
 have HX3:Hid (Below W.heap.size W (V2.alloc (.cells (madeCells #[.string ⟨#[]⟩,.string ⟨#[]⟩] ((n3+2)*2)) 89))):=H2.out.low.alloc H2.out.low.size _
 go_upto_region 7 with (refine wpList_make_wide _ rfl _ _ 24 rfl 89 i3 (.agg #[.string ⟨#[]⟩,.string ⟨#[]⟩]) 2 Tryz.underlying24 HI3.out.1 HI3.out.2.1 HI3.out.2.2.1 .i64 .i64 _ _ (n3+2) rfl rfl (by simp) (by simp) HBY3.out (by omega) ?_)
 refine wp_region_lit ?_
 refine wpList_move rfl rfl ?_
 refine wpList_plain rfl fun K hK=>?_
 go_simp
 refine hK _ _ ?_
 clear hK K
 refine wpList_plain rfl fun K hK=>?_
 go_simp
 refine hK _ _ ?_
 clear hK K
 refine wpList_copy_wide rfl _ _ 24 24 rfl 89 2 n3 (n3+2) (n3+2) cai V2.heap.size aoi rfl rfl (madeCells #[.string ⟨#[]⟩,.string ⟨#[]⟩] ((n3+2)*2)) 89 (itemCells q.items) Tryz.underlying24 HI3.out.2.2.2.2 (Loc.new V2 _ _) HC3.out (by omega) (sees_src HV3.out HX3.out) (by rw[HC3.out,size_madeCells];exact Nat.mul_le_mul_right 2 (by omega)) cells_one3 ?_
 clear c3 cn3 H2 HX3
 obtain⟨x3,hx3⟩:∃x3,x3=(itemCells q.items++(madeCells #[.string ⟨#[]⟩,.string ⟨#[]⟩] ((n3+2)*2)).toList.drop (itemCells q.items).length):=⟨_,rfl⟩
 rw[←hx3] at HN3 HR3 HK3⊢
 rw[←hx3] at HR1_
 rw[←hx3] at HR2_
 clear hx3
 obtain⟨G3,hG3⟩:∃G3,G3=V2.heap.size:=⟨_,rfl⟩
 rw[←hG3] at HN3 HR3 HB3⊢
 rw[←hG3] at HR1_
 rw[←hG3] at HR2_
 clear hG3
 generalize (V2.alloc (.cells (madeCells #[.string ⟨#[]⟩,.string ⟨#[]⟩] ((n3+2)*2)) 89)).setRow G3 x3.toArray=V3 at HN3 HR3 HR1_ HR2_⊢
 clear HR1 HR2
 have HR1:=HR1_
 have HR2:=HR2_
 clear HR1_ HR2_
 have H3:=HN3
 clear HN3
 have c4:=H3.out.lx.at_ 16 (.slice aop n4 cap) rfl
 have cn4:(V3.alloc (.cells (madeCells #[.string ⟨#[]⟩,.int .i64 0] ((n4+2)*2)) 91)).cell? ⟨X,16,none⟩=some (.slice aop n4 cap):=((H3.out.lx.alloc _).cell 16).trans rfl
 have HN4:Hid (L0 W X R S O (qC q (.slice aos n1 cas) (.slice aoc n2 cac) (.slice aoi n3 cai) (.slice aop n4 cap)) ((V3.alloc (.cells (madeCells #[.string ⟨#[]⟩,.int .i64 0] ((n4+2)*2)) 91)).setRow V3.heap.size (pairCells q.pairs++(madeCells #[.string ⟨#[]⟩,.int .i64 0] ((n4+2)*2)).toList.drop (pairCells q.pairs).length).toArray)):=H3.out.made _ _
 have HR4:Hid (Loc ((V3.alloc (.cells (madeCells #[.string ⟨#[]⟩,.int .i64 0] ((n4+2)*2)) 91)).setRow V3.heap.size (pairCells q.pairs++(madeCells #[.string ⟨#[]⟩,.int .i64 0] ((n4+2)*2)).toList.drop (pairCells q.pairs).length).toArray) V3.heap.size (pairCells q.pairs++(madeCells #[.string ⟨#[]⟩,.int .i64 0] ((n4+2)*2)).toList.drop (pairCells q.pairs).length).toArray 91):=Loc.madeNew _ _ _ _
 have HR1_:Hid (Loc ((V3.alloc (.cells (madeCells #[.string ⟨#[]⟩,.int .i64 0] ((n4+2)*2)) 91)).setRow V3.heap.size (pairCells q.pairs++(madeCells #[.string ⟨#[]⟩,.int .i64 0] ((n4+2)*2)).toList.drop (pairCells q.pairs).length).toArray) G1 x1.toArray 85):=HR1.out.made _ _
 have HR2_:Hid (Loc ((V3.alloc (.cells (madeCells #[.string ⟨#[]⟩,.int .i64 0] ((n4+2)*2)) 91)).setRow V3.heap.size (pairCells q.pairs++(madeCells #[.string ⟨#[]⟩,.int .i64 0] ((n4+2)*2)).toList.drop (pairCells q.pairs).length).toArray) G2 x2.toArray 87):=HR2.out.made _ _
 have HR3_:Hid (Loc ((V3.alloc (.cells (madeCells #[.string ⟨#[]⟩,.int .i64 0] ((n4+2)*2)) 91)).setRow V3.heap.size (pairCells q.pairs++(madeCells #[.string ⟨#[]⟩,.int .i64 0] ((n4+2)*2)).toList.drop (pairCells q.pairs).length).toArray) G3 x3.toArray 89):=HR3.out.made _ _
 have HK4:Hid (RowK (pairCells q.pairs++(madeCells #[.string ⟨#[]⟩,.int .i64 0] ((n4+2)*2)).toList.drop (pairCells q.pairs).length) (pairCells q.pairs) lP n4 0 2):=RowK.start HC4.out (by simp[size_madeCells])
 have HB4:Hid (W.heap.size≤V3.heap.size):=H3.out.low.size
 have HX4:Hid (Below W.heap.size W (V3.alloc (.cells (madeCells #[.string ⟨#[]⟩,.int .i64 0] ((n4+2)*2)) 91))):=H3.out.low.alloc H3.out.low.size _
 go_upto_region 9 with (refine wpList_make_wide _ rfl _ _ 27 rfl 91 i4 (.agg #[.string ⟨#[]⟩,.int .i64 0]) 2 Tryz.underlying27 HI4.out.1 HI4.out.2.1 HI4.out.2.2.1 .i64 .i64 _ _ (n4+2) rfl rfl (by simp) (by simp) HBY4.out (by omega) ?_)
 refine wp_region_lit ?_
 refine wpList_move rfl rfl ?_
 refine wpList_plain rfl fun K hK=>?_
 go_simp
 refine hK _ _ ?_
 clear hK K
 refine wpList_plain rfl fun K hK=>?_
 go_simp
 refine hK _ _ ?_
 clear hK K
 refine wpList_copy_wide rfl _ _ 27 27 rfl 91 2 n4 (n4+2) (n4+2) cap V3.heap.size aop rfl rfl (madeCells #[.string ⟨#[]⟩,.int .i64 0] ((n4+2)*2)) 91 (pairCells q.pairs) Tryz.underlying27 HI4.out.2.2.2.2 (Loc.new V3 _ _) HC4.out (by omega) (sees_src HV4.out HX4.out) (by rw[HC4.out,size_madeCells];exact Nat.mul_le_mul_right 2 (by omega)) cells_one4 ?_
 clear c4 cn4 H3 HX4
 obtain⟨x4,hx4⟩:∃x4,x4=(pairCells q.pairs++(madeCells #[.string ⟨#[]⟩,.int .i64 0] ((n4+2)*2)).toList.drop (pairCells q.pairs).length):=⟨_,rfl⟩
 rw[←hx4] at HN4 HR4 HK4⊢
 rw[←hx4] at HR1_
 rw[←hx4] at HR2_
 rw[←hx4] at HR3_
 clear hx4
 obtain⟨G4,hG4⟩:∃G4,G4=V3.heap.size:=⟨_,rfl⟩
 rw[←hG4] at HN4 HR4 HB4⊢
 rw[←hG4] at HR1_
 rw[←hG4] at HR2_
 rw[←hG4] at HR3_
 clear hG4
 generalize (V3.alloc (.cells (madeCells #[.string ⟨#[]⟩,.int .i64 0] ((n4+2)*2)) 91)).setRow G4 x4.toArray=V4 at HN4 HR4 HR1_ HR2_ HR3_⊢
 clear HR1 HR2 HR3
 have HR1:=HR1_
 have HR2:=HR2_
 have HR3:=HR3_
 clear HR1_ HR2_ HR3_
 have H4:=HN4
 clear HN4
 have HL:Hid (L4 W X R S O G1 G2 G3 G4 (qC q (.slice aos n1 cas) (.slice aoc n2 cac) (.slice aoi n3 cai) (.slice aop n4 cap)) (.slice none 0 0) (.slice none 0 0) (.slice none 0 0) (.slice none 0 0) 0 0 0 0 [] [] [] [] x1 x2 x3 x4 V4):=⟨H4.out.low,H4.out.lx,H4.out.lr,H4.out.ls,H4.out.lo,HBND.out.1,HBND.out.2.1,HBND.out.2.2.1,HBND.out.2.2.2.1,HBND.out.2.2.2.2,HR1.out,HB1.out,World.ownsRow_nil _ _ _ _,HR2.out,HB2.out,World.ownsRow_nil _ _ _ _,HR3.out,HB3.out,World.ownsRow_nil _ _ _ _,HR4.out,HB4.out,World.ownsRow_nil _ _ _ _⟩
 clear H4 HR1 HR2 HR3 HR4 HB1 HB2 HB3 HB4 HV1 HV2 HV3 HV4 HI1 HI2 HI3 HI4 HBY1 HBY2 HBY3 HBY4
 go_upto_block 0 with fail
 go_cut [9] (fun _ w=>∃y1 y2 y3 y4,L4 W X R S O G1 G2 G3 G4 (qC q (.slice aos n1 cas) (.slice aoc n2 cac) (.slice aoi n3 cai) (.slice aop n4 cap)) (.slice none 0 0) (.slice none 0 0) (.slice none 0 0) (.slice none 0 0) 0 0 0 0 [] [] [] [] y1 y2 y3 y4 w∧RowK y1 (spotCells q.spots) lS n1 2 5∧RowK y2 (condCells q.conds) lC n2 2 7∧RowK y3 (itemCells q.items) lI n3 2 2∧RowK y4 (pairCells q.pairs) lP n4 2 2)
 case first=>
  go_wp2_with fail
  go_loopg [9] 2 (fun m iv w=>∃k:Nat,iv=.int .i64 (k:Int)∧k+m=2∧∃y1 y2 y3 y4,L4 W X R S O G1 G2 G3 G4 (qC q (.slice aos n1 cas) (.slice aoc n2 cac) (.slice aoi n3 cai) (.slice aop n4 cap)) (.slice none 0 0) (.slice none 0 0) (.slice none 0 0) (.slice none 0 0) 0 0 0 0 [] [] [] [] y1 y2 y3 y4 w∧RowK y1 (spotCells q.spots) lS n1 k 5∧RowK y2 (condCells q.conds) lC n2 k 7∧RowK y3 (itemCells q.items) lI n3 k 2∧RowK y4 (pairCells q.pairs) lP n4 k 2)
  case atStart=>exact⟨0,rfl,by omega,_,_,_,_,HL.out,HK1.out,HK2.out,HK3.out,HK4.out⟩
  case round=>
   obtain⟨k,rfl,hk,y1,y2,y3,y4,hl,k1,k2,k3,k4⟩:=hrel
   have HQ:=Lib.hid hl
   have KK1:=Lib.hid k1
   have KK2:=Lib.hid k2
   have KK3:=Lib.hid k3
   have KK4:=Lib.hid k4
   clear hl k1 k2 k3 k4 HL HK1 HK2 HK3 HK4
   by_cases hlt:k<2
   ·have hki:(k:Int)<2:=by omega
    have hlen1:(n1+k)*5+5≤y1.toArray.size:=by
     have h1:=KK1.out.1
     have h2:(n1+k+1)*5≤(n1+2)*5:=Nat.mul_le_mul_right 5 (by omega)
     rw[List.size_toArray,h1];omega
    obtain⟨q10,hq10⟩:∃y,y1.toArray[(n1+k)*5]?=some y:=⟨_,Array.getElem?_eq_getElem (by omega)⟩
    obtain⟨q11,hq11⟩:∃y,y1.toArray[(n1+k)*5+1]?=some y:=⟨_,Array.getElem?_eq_getElem (by omega)⟩
    obtain⟨q12,hq12⟩:∃y,y1.toArray[(n1+k)*5+2]?=some y:=⟨_,Array.getElem?_eq_getElem (by omega)⟩
    obtain⟨q13,hq13⟩:∃y,y1.toArray[(n1+k)*5+3]?=some y:=⟨_,Array.getElem?_eq_getElem (by omega)⟩
    obtain⟨q14,hq14⟩:∃y,y1.toArray[(n1+k)*5+4]?=some y:=⟨_,Array.getElem?_eq_getElem (by omega)⟩
    have cx1:=HQ.out.lx.at_ 1 (.slice aos n1 cas) rfl
    have HD:=Lib.hid (HQ.out.drew 1)
    have hdx1:wr.drew.cell? ⟨X,1,none⟩=some (.slice aos n1 cas):=cx1
    have w0:wr.drew.cell? ⟨G1,(n1+k)*5,none⟩=some q10:=(HD.out.r1.cell _).trans hq10
    have z0:wr.drew.frozen? ⟨G1,(n1+k)*5,none⟩=false:=HD.out.r1.free _
    have w1:wr.drew.cell? ⟨G1,(n1+k)*5+1,none⟩=some q11:=(HD.out.r1.cell _).trans hq11
    have z1:wr.drew.frozen? ⟨G1,(n1+k)*5+1,none⟩=false:=HD.out.r1.free _
    have w2:wr.drew.cell? ⟨G1,(n1+k)*5+2,none⟩=some q12:=(HD.out.r1.cell _).trans hq12
    have z2:wr.drew.frozen? ⟨G1,(n1+k)*5+2,none⟩=false:=HD.out.r1.free _
    have w3:wr.drew.cell? ⟨G1,(n1+k)*5+3,none⟩=some q13:=(HD.out.r1.cell _).trans hq13
    have z3:wr.drew.frozen? ⟨G1,(n1+k)*5+3,none⟩=false:=HD.out.r1.free _
    have w4:wr.drew.cell? ⟨G1,(n1+k)*5+4,none⟩=some q14:=(HD.out.r1.cell _).trans hq14
    have z4:wr.drew.frozen? ⟨G1,(n1+k)*5+4,none⟩=false:=HD.out.r1.free _
    have hix1:(n1:Int)+(k:Int)<(n1:Int)+2:=by omega
    have hwr1:IntKind.i64.wrap ((n1:Int)+(k:Int))=(n1:Int)+(k:Int):=by rw[IntKind.wrap_i64];omega
    have hge1:0≤(n1:Int)+(k:Int):=by omega
    have htn1:((n1:Int)+(k:Int)).toNat=n1+k:=by omega
    go_upto_region 13 with fail
    go_cut [] (fun w=>L4 W X R S O G1 G2 G3 G4 (qC q (.slice aos n1 cas) (.slice aoc n2 cac) (.slice aoi n3 cai) (.slice aop n4 cap)) (.slice none 0 0) (.slice none 0 0) (.slice none 0 0) (.slice none 0 0) 0 0 0 0 [] [] [] [] (y1.take ((n1+k)*5)++lS++y1.drop ((n1+k)*5+5)) y2 y3 y4 w)
    case first=>
     go_region_with (go_at_call 48;refine(spotMark _ _).mono ?_;rintro e w5 ⟨rfl,hb5⟩;have H5:=Lib.hid (HD.out.later hb5);have c5:w5.cell? ⟨X,1,none⟩=some (.slice aos n1 cas):=(H5.out.lx.cell 1).trans rfl;have p0:w5.cell? ⟨G1,(n1+k)*5,none⟩=some q10:=(H5.out.r1.cell _).trans hq10;have f0:w5.frozen? ⟨G1,(n1+k)*5,none⟩=false:=H5.out.r1.free _;have p1:w5.cell? ⟨G1,(n1+k)*5+1,none⟩=some q11:=(H5.out.r1.cell _).trans hq11;have f1:w5.frozen? ⟨G1,(n1+k)*5+1,none⟩=false:=H5.out.r1.free _;have p2:w5.cell? ⟨G1,(n1+k)*5+2,none⟩=some q12:=(H5.out.r1.cell _).trans hq12;have f2:w5.frozen? ⟨G1,(n1+k)*5+2,none⟩=false:=H5.out.r1.free _;have p3:w5.cell? ⟨G1,(n1+k)*5+3,none⟩=some q13:=(H5.out.r1.cell _).trans hq13;have f3:w5.frozen? ⟨G1,(n1+k)*5+3,none⟩=false:=H5.out.r1.free _;have p4:w5.cell? ⟨G1,(n1+k)*5+4,none⟩=some q14:=(H5.out.r1.cell _).trans hq14;have f4:w5.frozen? ⟨G1,(n1+k)*5+4,none⟩=false:=H5.out.r1.free _;clear hb5)
     all_goals
      have H6:Hid (L4 W X R S O G1 G2 G3 G4 (qC q (.slice aos n1 cas) (.slice aoc n2 cac) (.slice aoi n3 cai) (.slice aop n4 cap)) (.slice none 0 0) (.slice none 0 0) (.slice none 0 0) (.slice none 0 0) 0 0 0 0 [] [] [] [] (y1.take ((n1+k)*5)++lS++y1.drop ((n1+k)*5+5)) y2 y3 y4 (((((w5.setCell ⟨G1,(n1+k)*5,none⟩ (.string ⟨#[111,119,110]⟩)).setCell ⟨G1,(n1+k)*5+1,none⟩ (.string ⟨#[]⟩)).setCell ⟨G1,(n1+k)*5+2,none⟩ (.string ⟨#[]⟩)).setCell ⟨G1,(n1+k)*5+3,none⟩ (.int .i64 77)).setCell ⟨G1,(n1+k)*5+4,none⟩ (.int .i64 0))):=H5.out.fill1 ((n1+k)*5) lS (by simpa [lS] using hlen1)
      clear p0 f0 p1 f1 p2 f2 p3 f3 p4 f4 c5 H5
      go_wp2_with fail
      go_meet
      exact H6.out
    case rest=>
     have HQ':=Lib.hid hcut
     clear hcut HQ HD w0 z0 w1 z1 w2 z2 w3 z3 w4 z4 cx1 hdx1 hix1 hwr1 hge1 htn1
     obtain⟨v1,hv1⟩:∃v1,v1=(y1.take ((n1+k)*5)++lS++y1.drop ((n1+k)*5+5)):=⟨_,rfl⟩
     have KN1:Hid (RowK v1 (spotCells q.spots) lS n1 (k+1) 5):=by show RowK _ _ _ _ _ _;rw[hv1];exact KK1.out.next rfl hlt
     rw[←hv1] at HQ'
     clear hv1
     have HQ:=HQ'
     clear HQ'
     clear hlen1
     clear KK1
     have hlen2:(n2+k)*7+7≤y2.toArray.size:=by
      have h1:=KK2.out.1
      have h2:(n2+k+1)*7≤(n2+2)*7:=Nat.mul_le_mul_right 7 (by omega)
      rw[List.size_toArray,h1];omega
     obtain⟨q20,hq20⟩:∃y,y2.toArray[(n2+k)*7]?=some y:=⟨_,Array.getElem?_eq_getElem (by omega)⟩
     obtain⟨q21,hq21⟩:∃y,y2.toArray[(n2+k)*7+1]?=some y:=⟨_,Array.getElem?_eq_getElem (by omega)⟩
     obtain⟨q22,hq22⟩:∃y,y2.toArray[(n2+k)*7+2]?=some y:=⟨_,Array.getElem?_eq_getElem (by omega)⟩
     obtain⟨q23,hq23⟩:∃y,y2.toArray[(n2+k)*7+3]?=some y:=⟨_,Array.getElem?_eq_getElem (by omega)⟩
     obtain⟨q24,hq24⟩:∃y,y2.toArray[(n2+k)*7+4]?=some y:=⟨_,Array.getElem?_eq_getElem (by omega)⟩
     obtain⟨q25,hq25⟩:∃y,y2.toArray[(n2+k)*7+5]?=some y:=⟨_,Array.getElem?_eq_getElem (by omega)⟩
     obtain⟨q26,hq26⟩:∃y,y2.toArray[(n2+k)*7+6]?=some y:=⟨_,Array.getElem?_eq_getElem (by omega)⟩
     have cx2:=HQ.out.lx.at_ 2 (.slice aoc n2 cac) rfl
     have HD:=Lib.hid (HQ.out.drew 1)
     have hdx2:wc.drew.cell? ⟨X,2,none⟩=some (.slice aoc n2 cac):=cx2
     have w0:wc.drew.cell? ⟨G2,(n2+k)*7,none⟩=some q20:=(HD.out.r2.cell _).trans hq20
     have z0:wc.drew.frozen? ⟨G2,(n2+k)*7,none⟩=false:=HD.out.r2.free _
     have w1:wc.drew.cell? ⟨G2,(n2+k)*7+1,none⟩=some q21:=(HD.out.r2.cell _).trans hq21
     have z1:wc.drew.frozen? ⟨G2,(n2+k)*7+1,none⟩=false:=HD.out.r2.free _
     have w2:wc.drew.cell? ⟨G2,(n2+k)*7+2,none⟩=some q22:=(HD.out.r2.cell _).trans hq22
     have z2:wc.drew.frozen? ⟨G2,(n2+k)*7+2,none⟩=false:=HD.out.r2.free _
     have w3:wc.drew.cell? ⟨G2,(n2+k)*7+3,none⟩=some q23:=(HD.out.r2.cell _).trans hq23
     have z3:wc.drew.frozen? ⟨G2,(n2+k)*7+3,none⟩=false:=HD.out.r2.free _
     have w4:wc.drew.cell? ⟨G2,(n2+k)*7+4,none⟩=some q24:=(HD.out.r2.cell _).trans hq24
     have z4:wc.drew.frozen? ⟨G2,(n2+k)*7+4,none⟩=false:=HD.out.r2.free _
     have w5:wc.drew.cell? ⟨G2,(n2+k)*7+5,none⟩=some q25:=(HD.out.r2.cell _).trans hq25
     have z5:wc.drew.frozen? ⟨G2,(n2+k)*7+5,none⟩=false:=HD.out.r2.free _
     have w6:wc.drew.cell? ⟨G2,(n2+k)*7+6,none⟩=some q26:=(HD.out.r2.cell _).trans hq26
     have z6:wc.drew.frozen? ⟨G2,(n2+k)*7+6,none⟩=false:=HD.out.r2.free _
     have hix2:(n2:Int)+(k:Int)<(n2:Int)+2:=by omega
     have hwr2:IntKind.i64.wrap ((n2:Int)+(k:Int))=(n2:Int)+(k:Int):=by rw[IntKind.wrap_i64];omega
     have hge2:0≤(n2:Int)+(k:Int):=by omega
     have htn2:((n2:Int)+(k:Int)).toNat=n2+k:=by omega
     go_upto_region 14 with fail
     go_cut [] (fun w=>L4 W X R S O G1 G2 G3 G4 (qC q (.slice aos n1 cas) (.slice aoc n2 cac) (.slice aoi n3 cai) (.slice aop n4 cap)) (.slice none 0 0) (.slice none 0 0) (.slice none 0 0) (.slice none 0 0) 0 0 0 0 [] [] [] [] v1 (y2.take ((n2+k)*7)++lC++y2.drop ((n2+k)*7+7)) y3 y4 w)
     case first=>
      go_region_with (go_at_call 49;refine(condMark _ _).mono ?_;rintro e w5 ⟨rfl,hb5⟩;have H5:=Lib.hid (HD.out.later hb5);have c5:w5.cell? ⟨X,2,none⟩=some (.slice aoc n2 cac):=(H5.out.lx.cell 2).trans rfl;have p0:w5.cell? ⟨G2,(n2+k)*7,none⟩=some q20:=(H5.out.r2.cell _).trans hq20;have f0:w5.frozen? ⟨G2,(n2+k)*7,none⟩=false:=H5.out.r2.free _;have p1:w5.cell? ⟨G2,(n2+k)*7+1,none⟩=some q21:=(H5.out.r2.cell _).trans hq21;have f1:w5.frozen? ⟨G2,(n2+k)*7+1,none⟩=false:=H5.out.r2.free _;have p2:w5.cell? ⟨G2,(n2+k)*7+2,none⟩=some q22:=(H5.out.r2.cell _).trans hq22;have f2:w5.frozen? ⟨G2,(n2+k)*7+2,none⟩=false:=H5.out.r2.free _;have p3:w5.cell? ⟨G2,(n2+k)*7+3,none⟩=some q23:=(H5.out.r2.cell _).trans hq23;have f3:w5.frozen? ⟨G2,(n2+k)*7+3,none⟩=false:=H5.out.r2.free _;have p4:w5.cell? ⟨G2,(n2+k)*7+4,none⟩=some q24:=(H5.out.r2.cell _).trans hq24;have f4:w5.frozen? ⟨G2,(n2+k)*7+4,none⟩=false:=H5.out.r2.free _;have p5:w5.cell? ⟨G2,(n2+k)*7+5,none⟩=some q25:=(H5.out.r2.cell _).trans hq25;have f5:w5.frozen? ⟨G2,(n2+k)*7+5,none⟩=false:=H5.out.r2.free _;have p6:w5.cell? ⟨G2,(n2+k)*7+6,none⟩=some q26:=(H5.out.r2.cell _).trans hq26;have f6:w5.frozen? ⟨G2,(n2+k)*7+6,none⟩=false:=H5.out.r2.free _;clear hb5)
      all_goals
       have H6:Hid (L4 W X R S O G1 G2 G3 G4 (qC q (.slice aos n1 cas) (.slice aoc n2 cac) (.slice aoi n3 cai) (.slice aop n4 cap)) (.slice none 0 0) (.slice none 0 0) (.slice none 0 0) (.slice none 0 0) 0 0 0 0 [] [] [] [] v1 (y2.take ((n2+k)*7)++lC++y2.drop ((n2+k)*7+7)) y3 y4 (((((((w5.setCell ⟨G2,(n2+k)*7,none⟩ (.int .i64 77)).setCell ⟨G2,(n2+k)*7+1,none⟩ (.string ⟨#[]⟩)).setCell ⟨G2,(n2+k)*7+2,none⟩ (.string ⟨#[]⟩)).setCell ⟨G2,(n2+k)*7+3,none⟩ (.int .i64 0)).setCell ⟨G2,(n2+k)*7+4,none⟩ (.string ⟨#[]⟩)).setCell ⟨G2,(n2+k)*7+5,none⟩ (.string ⟨#[]⟩)).setCell ⟨G2,(n2+k)*7+6,none⟩ (.int .i64 0))):=H5.out.fill2 ((n2+k)*7) lC (by simpa [lC] using hlen2)
       clear p0 f0 p1 f1 p2 f2 p3 f3 p4 f4 p5 f5 p6 f6 c5 H5
       go_wp2_with fail
       go_meet
       exact H6.out
     case rest=>
      have HQ':=Lib.hid hcut
      clear hcut HQ HD w0 z0 w1 z1 w2 z2 w3 z3 w4 z4 w5 z5 w6 z6 cx2 hdx2 hix2 hwr2 hge2 htn2
      obtain⟨v2,hv2⟩:∃v2,v2=(y2.take ((n2+k)*7)++lC++y2.drop ((n2+k)*7+7)):=⟨_,rfl⟩
      have KN2:Hid (RowK v2 (condCells q.conds) lC n2 (k+1) 7):=by show RowK _ _ _ _ _ _;rw[hv2];exact KK2.out.next rfl hlt
      rw[←hv2] at HQ'
      clear hv2
      have HQ:=HQ'
      clear HQ'
      clear hlen2
      clear KK2
      have hlen3:(n3+k)*2+2≤y3.toArray.size:=by
       have h1:=KK3.out.1
       have h2:(n3+k+1)*2≤(n3+2)*2:=Nat.mul_le_mul_right 2 (by omega)
       rw[List.size_toArray,h1];omega
      obtain⟨q30,hq30⟩:∃y,y3.toArray[(n3+k)*2]?=some y:=⟨_,Array.getElem?_eq_getElem (by omega)⟩
      obtain⟨q31,hq31⟩:∃y,y3.toArray[(n3+k)*2+1]?=some y:=⟨_,Array.getElem?_eq_getElem (by omega)⟩
      have cx3:=HQ.out.lx.at_ 3 (.slice aoi n3 cai) rfl
      have HD:=Lib.hid (HQ.out.drew 1)
      have hdx3:wc.drew.cell? ⟨X,3,none⟩=some (.slice aoi n3 cai):=cx3
      have w0:wc.drew.cell? ⟨G3,(n3+k)*2,none⟩=some q30:=(HD.out.r3.cell _).trans hq30
      have z0:wc.drew.frozen? ⟨G3,(n3+k)*2,none⟩=false:=HD.out.r3.free _
      have w1:wc.drew.cell? ⟨G3,(n3+k)*2+1,none⟩=some q31:=(HD.out.r3.cell _).trans hq31
      have z1:wc.drew.frozen? ⟨G3,(n3+k)*2+1,none⟩=false:=HD.out.r3.free _
      have hix3:(n3:Int)+(k:Int)<(n3:Int)+2:=by omega
      have hwr3:IntKind.i64.wrap ((n3:Int)+(k:Int))=(n3:Int)+(k:Int):=by rw[IntKind.wrap_i64];omega
      have hge3:0≤(n3:Int)+(k:Int):=by omega
      have htn3:((n3:Int)+(k:Int)).toNat=n3+k:=by omega
      go_upto_region 15 with fail
      go_cut [] (fun w=>L4 W X R S O G1 G2 G3 G4 (qC q (.slice aos n1 cas) (.slice aoc n2 cac) (.slice aoi n3 cai) (.slice aop n4 cap)) (.slice none 0 0) (.slice none 0 0) (.slice none 0 0) (.slice none 0 0) 0 0 0 0 [] [] [] [] v1 v2 (y3.take ((n3+k)*2)++lI++y3.drop ((n3+k)*2+2)) y4 w)
      case first=>
       go_region_with (go_at_call 50;refine(itemMark77 _).mono ?_;rintro e w5 ⟨rfl,hb5⟩;have H5:=Lib.hid (HD.out.later hb5);have c5:w5.cell? ⟨X,3,none⟩=some (.slice aoi n3 cai):=(H5.out.lx.cell 3).trans rfl;have p0:w5.cell? ⟨G3,(n3+k)*2,none⟩=some q30:=(H5.out.r3.cell _).trans hq30;have f0:w5.frozen? ⟨G3,(n3+k)*2,none⟩=false:=H5.out.r3.free _;have p1:w5.cell? ⟨G3,(n3+k)*2+1,none⟩=some q31:=(H5.out.r3.cell _).trans hq31;have f1:w5.frozen? ⟨G3,(n3+k)*2+1,none⟩=false:=H5.out.r3.free _;clear hb5)
       all_goals
        have H6:Hid (L4 W X R S O G1 G2 G3 G4 (qC q (.slice aos n1 cas) (.slice aoc n2 cac) (.slice aoi n3 cai) (.slice aop n4 cap)) (.slice none 0 0) (.slice none 0 0) (.slice none 0 0) (.slice none 0 0) 0 0 0 0 [] [] [] [] v1 v2 (y3.take ((n3+k)*2)++lI++y3.drop ((n3+k)*2+2)) y4 ((w5.setCell ⟨G3,(n3+k)*2,none⟩ (.string ⟨#[111,119,110]⟩)).setCell ⟨G3,(n3+k)*2+1,none⟩ (.string ⟨#[77]⟩))):=H5.out.fill3 ((n3+k)*2) lI (by simpa [lI] using hlen3)
        clear p0 f0 p1 f1 c5 H5
        go_wp2_with fail
        go_meet
        exact H6.out
      case rest=>
       have HQ':=Lib.hid hcut
       clear hcut HQ HD w0 z0 w1 z1 cx3 hdx3 hix3 hwr3 hge3 htn3
       obtain⟨v3,hv3⟩:∃v3,v3=(y3.take ((n3+k)*2)++lI++y3.drop ((n3+k)*2+2)):=⟨_,rfl⟩
       have KN3:Hid (RowK v3 (itemCells q.items) lI n3 (k+1) 2):=by show RowK _ _ _ _ _ _;rw[hv3];exact KK3.out.next rfl hlt
       rw[←hv3] at HQ'
       clear hv3
       have HQ:=HQ'
       clear HQ'
       clear hlen3
       clear KK3
       have hlen4:(n4+k)*2+2≤y4.toArray.size:=by
        have h1:=KK4.out.1
        have h2:(n4+k+1)*2≤(n4+2)*2:=Nat.mul_le_mul_right 2 (by omega)
        rw[List.size_toArray,h1];omega
       obtain⟨q40,hq40⟩:∃y,y4.toArray[(n4+k)*2]?=some y:=⟨_,Array.getElem?_eq_getElem (by omega)⟩
       obtain⟨q41,hq41⟩:∃y,y4.toArray[(n4+k)*2+1]?=some y:=⟨_,Array.getElem?_eq_getElem (by omega)⟩
       have cx4:=HQ.out.lx.at_ 16 (.slice aop n4 cap) rfl
       have HD:=Lib.hid (HQ.out.drew 1)
       have hdx4:wc.drew.cell? ⟨X,16,none⟩=some (.slice aop n4 cap):=cx4
       have w0:wc.drew.cell? ⟨G4,(n4+k)*2,none⟩=some q40:=(HD.out.r4.cell _).trans hq40
       have z0:wc.drew.frozen? ⟨G4,(n4+k)*2,none⟩=false:=HD.out.r4.free _
       have w1:wc.drew.cell? ⟨G4,(n4+k)*2+1,none⟩=some q41:=(HD.out.r4.cell _).trans hq41
       have z1:wc.drew.frozen? ⟨G4,(n4+k)*2+1,none⟩=false:=HD.out.r4.free _
       have hix4:(n4:Int)+(k:Int)<(n4:Int)+2:=by omega
       have hwr4:IntKind.i64.wrap ((n4:Int)+(k:Int))=(n4:Int)+(k:Int):=by rw[IntKind.wrap_i64];omega
       have hge4:0≤(n4:Int)+(k:Int):=by omega
       have htn4:((n4:Int)+(k:Int)).toNat=n4+k:=by omega
       go_upto_region 16 with fail
       go_region_with (go_at_call 51;refine(pairMark _ _).mono ?_;rintro e w5 ⟨rfl,hb5⟩;have H5:=Lib.hid (HD.out.later hb5);have c5:w5.cell? ⟨X,16,none⟩=some (.slice aop n4 cap):=(H5.out.lx.cell 16).trans rfl;have p0:w5.cell? ⟨G4,(n4+k)*2,none⟩=some q40:=(H5.out.r4.cell _).trans hq40;have f0:w5.frozen? ⟨G4,(n4+k)*2,none⟩=false:=H5.out.r4.free _;have p1:w5.cell? ⟨G4,(n4+k)*2+1,none⟩=some q41:=(H5.out.r4.cell _).trans hq41;have f1:w5.frozen? ⟨G4,(n4+k)*2+1,none⟩=false:=H5.out.r4.free _;clear hb5)
       all_goals
        have H6:Hid (L4 W X R S O G1 G2 G3 G4 (qC q (.slice aos n1 cas) (.slice aoc n2 cac) (.slice aoi n3 cai) (.slice aop n4 cap)) (.slice none 0 0) (.slice none 0 0) (.slice none 0 0) (.slice none 0 0) 0 0 0 0 [] [] [] [] v1 v2 v3 (y4.take ((n4+k)*2)++lP++y4.drop ((n4+k)*2+2)) ((w5.setCell ⟨G4,(n4+k)*2,none⟩ (.string ⟨#[111,119,110]⟩)).setCell ⟨G4,(n4+k)*2+1,none⟩ (.int .i64 77))):=H5.out.fill4 ((n4+k)*2) lP (by simpa [lP] using hlen4)
        clear p0 f0 p1 f1 c5 H5
        go_wp2_with fail
        go_roundg (gk - 1)
        case measure=>omega
        case rel=>exact⟨k+1,by simp,by omega,_,_,_,_,H6.out,KN1.out,KN2.out,KN3.out,KK4.out.next rfl hlt⟩
   ·have hki:¬(k:Int)<2:=by omega
    have hk2:k=2:=by omega
    have HK2:=Lib.hid hk2
    clear hk2
    go_wp2_with fail
    go_meet
    case rel=>
     have e:=HK2.out
     subst e
     exact⟨_,_,_,_,HQ.out,KK1.out,KK2.out,KK3.out,KK4.out⟩
 case rest=>
  obtain⟨y1,y2,y3,y4,hl,k1,k2,k3,k4⟩:=hcut
  obtain rfl:=k1.done
  obtain rfl:=k2.done
  obtain rfl:=k3.done
  obtain rfl:=k4.done
  have HQ:=Lib.hid hl
  clear hl k1 k2 k3 k4 HL HK1 HK2 HK3 HK4
  have cO:=HQ.out.lo.at_ 0 (.slice none 0 0) rfl
  have HD:Hid (L4 W X R S O G1 G2 G3 G4 (qC q (.slice aos n1 cas) (.slice aoc n2 cac) (.slice aoi n3 cai) (.slice aop n4 cap)) (.slice none 0 0) (.slice none 0 0) (.slice none 0 0) (.slice none 0 0) 0 0 0 0 [] [] [] [] (spotCells q.spots++(lS++lS)) (condCells q.conds++(lC++lC)) (itemCells q.items++(lI++lI)) (pairCells q.pairs++(lP++lP)) (wc.alloc (.cells #[.slice (some ⟨G1,0,none⟩) (n1+2) (n1+2)] 22))):=HQ.out.alloc _
  go_upto_region 18 with (at_builtin;go_must (refine wpList_append_lies _ rfl _ _ 34 rfl W.heap.size 22 g1 (.slice none 0 0) 1 24 Tryz.underlying34 HG1.out.1 HG1.out.2.1 HG1.out.2.2.1 HG1.out.2.2.2 rfl (by decide) (.slice none 0 0) _ _ rfl HD.out.l1 _ 1 1 [.slice (some ⟨G1,0,none⟩) (n1+2) (n1+2)] rfl rfl (World.news_of_block (heap_alloc_new wc _)) slice_one (by omega) (by unfold maxLen;omega) (by omega) HD.out.low.size _ rfl ?_;intro g9 cap9 w5 hown hgrow _ _;have l5:=HD.out.lo.grown hgrow (by simp[Value.ownBlock]);have c5:w5.cell? ⟨O,0,none⟩=some (.slice none 0 0):=(l5.cell 0).trans rfl;have f5:w5.frozen? ⟨O,0,none⟩=false:=l5.free 0;have H5:Hid (L4 W X R S O G1 G2 G3 G4 (qC q (.slice aos n1 cas) (.slice aoc n2 cac) (.slice aoi n3 cai) (.slice aop n4 cap)) (.slice (some ⟨g9,0,none⟩) 1 cap9) (.slice none 0 0) (.slice none 0 0) (.slice none 0 0) 1 0 0 0 [.slice (some ⟨G1,0,none⟩) (n1+2) (n1+2)] [] [] [] (spotCells q.spots++(lS++lS)) (condCells q.conds++(lC++lC)) (itemCells q.items++(lI++lI)) (pairCells q.pairs++(lP++lP)) (w5.setCell ⟨O,0,none⟩ (.slice (some ⟨g9,0,none⟩) 1 cap9))):=HD.out.list1 hgrow hown;clear l5 hown hgrow))
  generalize w5.setCell ⟨O,0,none⟩ (.slice (some ⟨g9,0,none⟩) 1 cap9)=Q1 at H5⊢
  obtain⟨ga1,hga⟩:∃y,y=g9:=⟨_,rfl⟩
  obtain⟨gc1,hgc⟩:∃y,y=cap9:=⟨_,rfl⟩
  rw[←hga,←hgc] at H5
  clear hga hgc cO HD c5 f5 HQ
  have HQ:Hid (L4 W X R S O G1 G2 G3 G4 (qC q (.slice aos n1 cas) (.slice aoc n2 cac) (.slice aoi n3 cai) (.slice aop n4 cap)) (.slice (some ⟨ga1,0,none⟩) 1 gc1) (.slice none 0 0) (.slice none 0 0) (.slice none 0 0) 1 0 0 0 [.slice (some ⟨G1,0,none⟩) (n1+2) (n1+2)] [] [] [] (spotCells q.spots++(lS++lS)) (condCells q.conds++(lC++lC)) (itemCells q.items++(lI++lI)) (pairCells q.pairs++(lP++lP)) Q1):=H5.out
  clear H5
  have cO:=HQ.out.lo.at_ 1 (.slice none 0 0) rfl
  have HD:Hid (L4 W X R S O G1 G2 G3 G4 (qC q (.slice aos n1 cas) (.slice aoc n2 cac) (.slice aoi n3 cai) (.slice aop n4 cap)) (.slice (some ⟨ga1,0,none⟩) 1 gc1) (.slice none 0 0) (.slice none 0 0) (.slice none 0 0) 1 0 0 0 [.slice (some ⟨G1,0,none⟩) (n1+2) (n1+2)] [] [] [] (spotCells q.spots++(lS++lS)) (condCells q.conds++(lC++lC)) (itemCells q.items++(lI++lI)) (pairCells q.pairs++(lP++lP)) (Q1.alloc (.cells #[.slice (some ⟨G2,0,none⟩) (n2+2) (n2+2)] 23))):=HQ.out.alloc _
  go_upto_region 19 with (at_builtin;go_must (refine wpList_append_lies _ rfl _ _ 35 rfl W.heap.size 23 g2 (.slice none 0 0) 1 24 Tryz.underlying35 HG2.out.1 HG2.out.2.1 HG2.out.2.2.1 HG2.out.2.2.2 rfl (by decide) (.slice none 0 0) _ _ rfl HD.out.l2 _ 1 1 [.slice (some ⟨G2,0,none⟩) (n2+2) (n2+2)] rfl rfl (World.news_of_block (heap_alloc_new Q1 _)) slice_one (by omega) (by unfold maxLen;omega) (by omega) HD.out.low.size _ rfl ?_;intro g9 cap9 w5 hown hgrow _ _;have l5:=HD.out.lo.grown hgrow (by simp[Value.ownBlock]);have c5:w5.cell? ⟨O,1,none⟩=some (.slice none 0 0):=(l5.cell 1).trans rfl;have f5:w5.frozen? ⟨O,1,none⟩=false:=l5.free 1;have H5:Hid (L4 W X R S O G1 G2 G3 G4 (qC q (.slice aos n1 cas) (.slice aoc n2 cac) (.slice aoi n3 cai) (.slice aop n4 cap)) (.slice (some ⟨ga1,0,none⟩) 1 gc1) (.slice (some ⟨g9,0,none⟩) 1 cap9) (.slice none 0 0) (.slice none 0 0) 1 1 0 0 [.slice (some ⟨G1,0,none⟩) (n1+2) (n1+2)] [.slice (some ⟨G2,0,none⟩) (n2+2) (n2+2)] [] [] (spotCells q.spots++(lS++lS)) (condCells q.conds++(lC++lC)) (itemCells q.items++(lI++lI)) (pairCells q.pairs++(lP++lP)) (w5.setCell ⟨O,1,none⟩ (.slice (some ⟨g9,0,none⟩) 1 cap9))):=HD.out.list2 hgrow hown;clear l5 hown hgrow))
  generalize w5.setCell ⟨O,1,none⟩ (.slice (some ⟨g9,0,none⟩) 1 cap9)=Q2 at H5⊢
  obtain⟨ga2,hga⟩:∃y,y=g9:=⟨_,rfl⟩
  obtain⟨gc2,hgc⟩:∃y,y=cap9:=⟨_,rfl⟩
  rw[←hga,←hgc] at H5
  clear hga hgc cO HD c5 f5 HQ
  have HQ:Hid (L4 W X R S O G1 G2 G3 G4 (qC q (.slice aos n1 cas) (.slice aoc n2 cac) (.slice aoi n3 cai) (.slice aop n4 cap)) (.slice (some ⟨ga1,0,none⟩) 1 gc1) (.slice (some ⟨ga2,0,none⟩) 1 gc2) (.slice none 0 0) (.slice none 0 0) 1 1 0 0 [.slice (some ⟨G1,0,none⟩) (n1+2) (n1+2)] [.slice (some ⟨G2,0,none⟩) (n2+2) (n2+2)] [] [] (spotCells q.spots++(lS++lS)) (condCells q.conds++(lC++lC)) (itemCells q.items++(lI++lI)) (pairCells q.pairs++(lP++lP)) Q2):=H5.out
  clear H5
  have cO:=HQ.out.lo.at_ 2 (.slice none 0 0) rfl
  have HD:Hid (L4 W X R S O G1 G2 G3 G4 (qC q (.slice aos n1 cas) (.slice aoc n2 cac) (.slice aoi n3 cai) (.slice aop n4 cap)) (.slice (some ⟨ga1,0,none⟩) 1 gc1) (.slice (some ⟨ga2,0,none⟩) 1 gc2) (.slice none 0 0) (.slice none 0 0) 1 1 0 0 [.slice (some ⟨G1,0,none⟩) (n1+2) (n1+2)] [.slice (some ⟨G2,0,none⟩) (n2+2) (n2+2)] [] [] (spotCells q.spots++(lS++lS)) (condCells q.conds++(lC++lC)) (itemCells q.items++(lI++lI)) (pairCells q.pairs++(lP++lP)) (Q2.alloc (.cells #[.slice (some ⟨G3,0,none⟩) (n3+2) (n3+2)] 24))):=HQ.out.alloc _
  go_upto_region 20 with (at_builtin;go_must (refine wpList_append_lies _ rfl _ _ 36 rfl W.heap.size 24 g3 (.slice none 0 0) 1 24 Tryz.underlying36 HG3.out.1 HG3.out.2.1 HG3.out.2.2.1 HG3.out.2.2.2 rfl (by decide) (.slice none 0 0) _ _ rfl HD.out.l3 _ 1 1 [.slice (some ⟨G3,0,none⟩) (n3+2) (n3+2)] rfl rfl (World.news_of_block (heap_alloc_new Q2 _)) slice_one (by omega) (by unfold maxLen;omega) (by omega) HD.out.low.size _ rfl ?_;intro g9 cap9 w5 hown hgrow _ _;have l5:=HD.out.lo.grown hgrow (by simp[Value.ownBlock]);have c5:w5.cell? ⟨O,2,none⟩=some (.slice none 0 0):=(l5.cell 2).trans rfl;have f5:w5.frozen? ⟨O,2,none⟩=false:=l5.free 2;have H5:Hid (L4 W X R S O G1 G2 G3 G4 (qC q (.slice aos n1 cas) (.slice aoc n2 cac) (.slice aoi n3 cai) (.slice aop n4 cap)) (.slice (some ⟨ga1,0,none⟩) 1 gc1) (.slice (some ⟨ga2,0,none⟩) 1 gc2) (.slice (some ⟨g9,0,none⟩) 1 cap9) (.slice none 0 0) 1 1 1 0 [.slice (some ⟨G1,0,none⟩) (n1+2) (n1+2)] [.slice (some ⟨G2,0,none⟩) (n2+2) (n2+2)] [.slice (some ⟨G3,0,none⟩) (n3+2) (n3+2)] [] (spotCells q.spots++(lS++lS)) (condCells q.conds++(lC++lC)) (itemCells q.items++(lI++lI)) (pairCells q.pairs++(lP++lP)) (w5.setCell ⟨O,2,none⟩ (.slice (some ⟨g9,0,none⟩) 1 cap9))):=HD.out.list3 hgrow hown;clear l5 hown hgrow))
  generalize w5.setCell ⟨O,2,none⟩ (.slice (some ⟨g9,0,none⟩) 1 cap9)=Q3 at H5⊢
  obtain⟨ga3,hga⟩:∃y,y=g9:=⟨_,rfl⟩
  obtain⟨gc3,hgc⟩:∃y,y=cap9:=⟨_,rfl⟩
  rw[←hga,←hgc] at H5
  clear hga hgc cO HD c5 f5 HQ
  have HQ:Hid (L4 W X R S O G1 G2 G3 G4 (qC q (.slice aos n1 cas) (.slice aoc n2 cac) (.slice aoi n3 cai) (.slice aop n4 cap)) (.slice (some ⟨ga1,0,none⟩) 1 gc1) (.slice (some ⟨ga2,0,none⟩) 1 gc2) (.slice (some ⟨ga3,0,none⟩) 1 gc3) (.slice none 0 0) 1 1 1 0 [.slice (some ⟨G1,0,none⟩) (n1+2) (n1+2)] [.slice (some ⟨G2,0,none⟩) (n2+2) (n2+2)] [.slice (some ⟨G3,0,none⟩) (n3+2) (n3+2)] [] (spotCells q.spots++(lS++lS)) (condCells q.conds++(lC++lC)) (itemCells q.items++(lI++lI)) (pairCells q.pairs++(lP++lP)) Q3):=H5.out
  clear H5
  have cO:=HQ.out.lo.at_ 3 (.slice none 0 0) rfl
  have HD:Hid (L4 W X R S O G1 G2 G3 G4 (qC q (.slice aos n1 cas) (.slice aoc n2 cac) (.slice aoi n3 cai) (.slice aop n4 cap)) (.slice (some ⟨ga1,0,none⟩) 1 gc1) (.slice (some ⟨ga2,0,none⟩) 1 gc2) (.slice (some ⟨ga3,0,none⟩) 1 gc3) (.slice none 0 0) 1 1 1 0 [.slice (some ⟨G1,0,none⟩) (n1+2) (n1+2)] [.slice (some ⟨G2,0,none⟩) (n2+2) (n2+2)] [.slice (some ⟨G3,0,none⟩) (n3+2) (n3+2)] [] (spotCells q.spots++(lS++lS)) (condCells q.conds++(lC++lC)) (itemCells q.items++(lI++lI)) (pairCells q.pairs++(lP++lP)) (Q3.alloc (.cells #[.slice (some ⟨G4,0,none⟩) (n4+2) (n4+2)] 27))):=HQ.out.alloc _
  go_upto_region 21 with (at_builtin;go_must (refine wpList_append_lies _ rfl _ _ 37 rfl W.heap.size 27 g4 (.slice none 0 0) 1 24 Tryz.underlying37 HG4.out.1 HG4.out.2.1 HG4.out.2.2.1 HG4.out.2.2.2 rfl (by decide) (.slice none 0 0) _ _ rfl HD.out.l4 _ 1 1 [.slice (some ⟨G4,0,none⟩) (n4+2) (n4+2)] rfl rfl (World.news_of_block (heap_alloc_new Q3 _)) slice_one (by omega) (by unfold maxLen;omega) (by omega) HD.out.low.size _ rfl ?_;intro g9 cap9 w5 hown hgrow _ _;have l5:=HD.out.lo.grown hgrow (by simp[Value.ownBlock]);have c5:w5.cell? ⟨O,3,none⟩=some (.slice none 0 0):=(l5.cell 3).trans rfl;have f5:w5.frozen? ⟨O,3,none⟩=false:=l5.free 3;have H5:Hid (L4 W X R S O G1 G2 G3 G4 (qC q (.slice aos n1 cas) (.slice aoc n2 cac) (.slice aoi n3 cai) (.slice aop n4 cap)) (.slice (some ⟨ga1,0,none⟩) 1 gc1) (.slice (some ⟨ga2,0,none⟩) 1 gc2) (.slice (some ⟨ga3,0,none⟩) 1 gc3) (.slice (some ⟨g9,0,none⟩) 1 cap9) 1 1 1 1 [.slice (some ⟨G1,0,none⟩) (n1+2) (n1+2)] [.slice (some ⟨G2,0,none⟩) (n2+2) (n2+2)] [.slice (some ⟨G3,0,none⟩) (n3+2) (n3+2)] [.slice (some ⟨G4,0,none⟩) (n4+2) (n4+2)] (spotCells q.spots++(lS++lS)) (condCells q.conds++(lC++lC)) (itemCells q.items++(lI++lI)) (pairCells q.pairs++(lP++lP)) (w5.setCell ⟨O,3,none⟩ (.slice (some ⟨g9,0,none⟩) 1 cap9))):=HD.out.list4 hgrow hown;clear l5 hown hgrow))
  generalize w5.setCell ⟨O,3,none⟩ (.slice (some ⟨g9,0,none⟩) 1 cap9)=Q4 at H5⊢
  obtain⟨ga4,hga⟩:∃y,y=g9:=⟨_,rfl⟩
  obtain⟨gc4,hgc⟩:∃y,y=cap9:=⟨_,rfl⟩
  rw[←hga,←hgc] at H5
  clear hga hgc cO HD c5 f5 HQ
  have HQ:Hid (L4 W X R S O G1 G2 G3 G4 (qC q (.slice aos n1 cas) (.slice aoc n2 cac) (.slice aoi n3 cai) (.slice aop n4 cap)) (.slice (some ⟨ga1,0,none⟩) 1 gc1) (.slice (some ⟨ga2,0,none⟩) 1 gc2) (.slice (some ⟨ga3,0,none⟩) 1 gc3) (.slice (some ⟨ga4,0,none⟩) 1 gc4) 1 1 1 1 [.slice (some ⟨G1,0,none⟩) (n1+2) (n1+2)] [.slice (some ⟨G2,0,none⟩) (n2+2) (n2+2)] [.slice (some ⟨G3,0,none⟩) (n3+2) (n3+2)] [.slice (some ⟨G4,0,none⟩) (n4+2) (n4+2)] (spotCells q.spots++(lS++lS)) (condCells q.conds++(lC++lC)) (itemCells q.items++(lI++lI)) (pairCells q.pairs++(lP++lP)) Q4):=H5.out
  clear H5
  have kb:=kept_below (w:=Q4) (cs:=(qC q (.slice aos n1 cas) (.slice aoc n2 cac) (.slice aoi n3 cai) (.slice aop n4 cap))) (T:=29) zq
  have HF:Hid (L5 W q n1 n2 n3 n4 G1 G2 G3 G4 (.slice (some ⟨ga1,0,none⟩) 1 gc1) (.slice (some ⟨ga2,0,none⟩) 1 gc2) (.slice (some ⟨ga3,0,none⟩) 1 gc3) (.slice (some ⟨ga4,0,none⟩) 1 gc4) X R S O Q4.heap.size (qC q (.slice aos n1 cas) (.slice aoc n2 cac) (.slice aoi n3 cai) (.slice aop n4 cap)) zq #[.slice none 0 0,.slice none 0 0,.slice none 0 0,.slice none 0 0] (qC q (.slice aos n1 cas) (.slice aoc n2 cac) (.slice aoi n3 cai) (.slice aop n4 cap)) ((Q4.alloc (.cells zq 29)).setCells Q4.heap.size 0 (qC q (.slice aos n1 cas) (.slice aoc n2 cac) (.slice aoi n3 cai) (.slice aop n4 cap)).toList)):=by
   have h:=HQ.out.later kb
   have hX:=HQ.out.lx.lt
   have hR:=HQ.out.lr.lt
   exact⟨⟨h.low,h.r1,h.l1,h.b1,h.r2,h.l2,h.b2,h.r3,h.l3,h.b3,h.r4,h.l4,h.b4⟩,h.lx,h.lr,h.ls,h.lo,kept_loc _ rfl,h.br,h.bs,HQ.out.low.size,h.ne,by omega,by omega⟩
  clear kb
  refine wp_region_lit ?_
  refine wpList_load_mid rfl 29 _ rfl X 0 rfl (qC q (.slice aos n1 cas) (.slice aoc n2 cac) (.slice aoi n3 cai) (.slice aop n4 cap)).toList _ HQ.out.lx.range Tryz.underlying29 rfl (by rw[Tryz.sizeQuery];rfl) ?_
  refine wpList_allocQuery rfl rfl ?_
  refine wpList_store_mid rfl 29 _ _ rfl Q4.heap.size 0 (qC q (.slice aos n1 cas) (.slice aoc n2 cac) (.slice aoi n3 cai) (.slice aop n4 cap)) rfl rfl (Loc.new Q4 zq 29).there Tryz.sizeQuery (qC_one _) ?_
  obtain⟨Y,hY⟩:∃x,x=Q4.heap.size:=⟨_,rfl⟩
  rw[←hY] at HF⊢
  clear hY HQ
  generalize (Q4.alloc (.cells zq 29)).setCells Y 0 (qC q (.slice aos n1 cas) (.slice aoc n2 cac) (.slice aoi n3 cai) (.slice aop n4 cap)).toList=P0 at HF⊢
  have cX:=HF.out.lx.at_ 1 (.slice aos n1 cas) rfl
  have cY:=HF.out.ly.at_ 1 (.slice aos n1 cas) rfl
  have fY:P0.frozen? ⟨Y,1,none⟩=false:=HF.out.ly.free 1
  have hc1:(n1:Int)≤(n1:Int)+2:=by omega
  have HF2:Hid (L5 W q n1 n2 n3 n4 G1 G2 G3 G4 (.slice (some ⟨ga1,0,none⟩) 1 gc1) (.slice (some ⟨ga2,0,none⟩) 1 gc2) (.slice (some ⟨ga3,0,none⟩) 1 gc3) (.slice (some ⟨ga4,0,none⟩) 1 gc4) X R S O Y (qC q (.slice aos n1 cas) (.slice aoc n2 cac) (.slice aoi n3 cai) (.slice aop n4 cap)) zq #[.slice none 0 0,.slice none 0 0,.slice none 0 0,.slice none 0 0] (qC q (.slice (some ⟨G1,0,none⟩) n1 (n1+2)) (.slice aoc n2 cac) (.slice aoi n3 cai) (.slice aop n4 cap)) (P0.setCell ⟨Y,1,none⟩ (.slice (some ⟨G1,0,none⟩) n1 (n1+2)))):=HF.out.setY 1 (.slice (some ⟨G1,0,none⟩) n1 (n1+2))
  go_upto_region 23 with fail
  clear cX cY fY hc1 HF
  generalize P0.setCell ⟨Y,1,none⟩ (.slice (some ⟨G1,0,none⟩) n1 (n1+2))=P1 at HF2⊢
  have HF:=HF2
  clear HF2
  have cX:=HF.out.lx.at_ 2 (.slice aoc n2 cac) rfl
  have cY:=HF.out.ly.at_ 2 (.slice aoc n2 cac) rfl
  have fY:P1.frozen? ⟨Y,2,none⟩=false:=HF.out.ly.free 2
  have hc1:(n2:Int)≤(n2:Int)+2:=by omega
  have HF2:Hid (L5 W q n1 n2 n3 n4 G1 G2 G3 G4 (.slice (some ⟨ga1,0,none⟩) 1 gc1) (.slice (some ⟨ga2,0,none⟩) 1 gc2) (.slice (some ⟨ga3,0,none⟩) 1 gc3) (.slice (some ⟨ga4,0,none⟩) 1 gc4) X R S O Y (qC q (.slice aos n1 cas) (.slice aoc n2 cac) (.slice aoi n3 cai) (.slice aop n4 cap)) zq #[.slice none 0 0,.slice none 0 0,.slice none 0 0,.slice none 0 0] (qC q (.slice (some ⟨G1,0,none⟩) n1 (n1+2)) (.slice (some ⟨G2,0,none⟩) n2 (n2+2)) (.slice aoi n3 cai) (.slice aop n4 cap)) (P1.setCell ⟨Y,2,none⟩ (.slice (some ⟨G2,0,none⟩) n2 (n2+2)))):=HF.out.setY 2 (.slice (some ⟨G2,0,none⟩) n2 (n2+2))
  go_upto_region 24 with fail
  clear cX cY fY hc1 HF
  generalize P1.setCell ⟨Y,2,none⟩ (.slice (some ⟨G2,0,none⟩) n2 (n2+2))=P2 at HF2⊢
  have HF:=HF2
  clear HF2
  have cX:=HF.out.lx.at_ 3 (.slice aoi n3 cai) rfl
  have cY:=HF.out.ly.at_ 3 (.slice aoi n3 cai) rfl
  have fY:P2.frozen? ⟨Y,3,none⟩=false:=HF.out.ly.free 3
  have hc1:(n3:Int)≤(n3:Int)+2:=by omega
  have HF2:Hid (L5 W q n1 n2 n3 n4 G1 G2 G3 G4 (.slice (some ⟨ga1,0,none⟩) 1 gc1) (.slice (some ⟨ga2,0,none⟩) 1 gc2) (.slice (some ⟨ga3,0,none⟩) 1 gc3) (.slice (some ⟨ga4,0,none⟩) 1 gc4) X R S O Y (qC q (.slice aos n1 cas) (.slice aoc n2 cac) (.slice aoi n3 cai) (.slice aop n4 cap)) zq #[.slice none 0 0,.slice none 0 0,.slice none 0 0,.slice none 0 0] (qC q (.slice (some ⟨G1,0,none⟩) n1 (n1+2)) (.slice (some ⟨G2,0,none⟩) n2 (n2+2)) (.slice (some ⟨G3,0,none⟩) n3 (n3+2)) (.slice aop n4 cap)) (P2.setCell ⟨Y,3,none⟩ (.slice (some ⟨G3,0,none⟩) n3 (n3+2)))):=HF.out.setY 3 (.slice (some ⟨G3,0,none⟩) n3 (n3+2))
  go_upto_region 25 with fail
  clear cX cY fY hc1 HF
  generalize P2.setCell ⟨Y,3,none⟩ (.slice (some ⟨G3,0,none⟩) n3 (n3+2))=P3 at HF2⊢
  have HF:=HF2
  clear HF2
  have cX:=HF.out.lx.at_ 16 (.slice aop n4 cap) rfl
  have cY:=HF.out.ly.at_ 16 (.slice aop n4 cap) rfl
  have fY:P3.frozen? ⟨Y,16,none⟩=false:=HF.out.ly.free 16
  have hc1:(n4:Int)≤(n4:Int)+2:=by omega
  have HF2:Hid (L5 W q n1 n2 n3 n4 G1 G2 G3 G4 (.slice (some ⟨ga1,0,none⟩) 1 gc1) (.slice (some ⟨ga2,0,none⟩) 1 gc2) (.slice (some ⟨ga3,0,none⟩) 1 gc3) (.slice (some ⟨ga4,0,none⟩) 1 gc4) X R S O Y (qC q (.slice aos n1 cas) (.slice aoc n2 cac) (.slice aoi n3 cai) (.slice aop n4 cap)) zq #[.slice none 0 0,.slice none 0 0,.slice none 0 0,.slice none 0 0] (qC q (.slice (some ⟨G1,0,none⟩) n1 (n1+2)) (.slice (some ⟨G2,0,none⟩) n2 (n2+2)) (.slice (some ⟨G3,0,none⟩) n3 (n3+2)) (.slice (some ⟨G4,0,none⟩) n4 (n4+2))) (P3.setCell ⟨Y,16,none⟩ (.slice (some ⟨G4,0,none⟩) n4 (n4+2)))):=HF.out.setY 16 (.slice (some ⟨G4,0,none⟩) n4 (n4+2))
  go_upto_region 26 with fail
  clear cX cY fY hc1 HF
  generalize P3.setCell ⟨Y,16,none⟩ (.slice (some ⟨G4,0,none⟩) n4 (n4+2))=P4 at HF2⊢
  have HF:=HF2
  clear HF2
  have HXR:Hid (X≠R):=by show _≠_;exact HXN.out
  refine wp_region_noPanic ?_
  refine wp_region_held_drew (S:=fun w'=>(∃cr cs,L5 W q n1 n2 n3 n4 G1 G2 G3 G4 (.slice (some ⟨ga1,0,none⟩) 1 gc1) (.slice (some ⟨ga2,0,none⟩) 1 gc2) (.slice (some ⟨ga3,0,none⟩) 1 gc3) (.slice (some ⟨ga4,0,none⟩) 1 gc4) X R S O Y (qC q (.slice aos n1 cas) (.slice aoc n2 cac) (.slice aoi n3 cai) (.slice aop n4 cap)) cr cs (qC q (.slice (some ⟨G1,0,none⟩) n1 (n1+2)) (.slice (some ⟨G2,0,none⟩) n2 (n2+2)) (.slice (some ⟨G3,0,none⟩) n3 (n3+2)) (.slice (some ⟨G4,0,none⟩) n4 (n4+2))) w'∧cr.size=17∧cs.size=4)) (by kernel_rfl) ⟨_,_,HF.out.drew,rfl,rfl⟩ (fun hHeld=>?_)
  refine wpAnyH_take (i:=0) rfl (by kernel_rfl) (by kernel_rfl) (by kernel_rfl) (fun _ _ _ h=>h) (yieldsIf_load_mid (by rfl) 29 _ rfl Y 0 rfl (qC q (.slice (some ⟨G1,0,none⟩) n1 (n1+2)) (.slice (some ⟨G2,0,none⟩) n2 (n2+2)) (.slice (some ⟨G3,0,none⟩) n3 (n3+2)) (.slice (some ⟨G4,0,none⟩) n4 (n4+2))).toList _ (fun w hw=>by obtain⟨_,_,h,_⟩:=hw;exact h.ly.range) Tryz.underlying29 rfl (by rw[Tryz.sizeQuery];rfl)) (by assumption) ?_
  simp only[Act.put,List.getElem_toArray,List.getElem_cons_zero]
  refine wpAnyH_take (i:=1) rfl (by kernel_rfl) (by kernel_rfl) (by kernel_rfl) (fun _ _ _ h=>h) (yieldsIf_load_mid (by rfl) 39 _ rfl O 0 rfl [.slice (some ⟨ga1,0,none⟩) 1 gc1,.slice (some ⟨ga2,0,none⟩) 1 gc2,.slice (some ⟨ga3,0,none⟩) 1 gc3,.slice (some ⟨ga4,0,none⟩) 1 gc4] _ (fun w hw=>by obtain⟨_,_,h,_⟩:=hw;exact h.lo.range) Tryz.underlying39 rfl (by rw[Tryz.sizeOwned];rfl)) (by assumption) ?_
  simp only[Act.put,List.getElem_toArray,List.getElem_cons_zero,List.getElem_cons_succ]
  refine wpAnyH_ready (rs:=[2]) (by kernel_rfl) (by simp) ?_
  refine AllReadyH.cons rfl (fun K hK=>?_) AllReadyH.nil
  refine step_store_mid rfl _ _ _ rfl R 0 (qC q (.slice (some ⟨G1,0,none⟩) n1 (n1+2)) (.slice (some ⟨G2,0,none⟩) n2 (n2+2)) (.slice (some ⟨G3,0,none⟩) n3 (n3+2)) (.slice (some ⟨G4,0,none⟩) n4 (n4+2))) rfl rfl (HF.out.drew.lr.there) Tryz.sizeQuery (qC_one _) ?_
  have HA:Hid (L5 W q n1 n2 n3 n4 G1 G2 G3 G4 (.slice (some ⟨ga1,0,none⟩) 1 gc1) (.slice (some ⟨ga2,0,none⟩) 1 gc2) (.slice (some ⟨ga3,0,none⟩) 1 gc3) (.slice (some ⟨ga4,0,none⟩) 1 gc4) X R S O Y (qC q (.slice aos n1 cas) (.slice aoc n2 cac) (.slice aoi n3 cai) (.slice aop n4 cap)) (qC q (.slice (some ⟨G1,0,none⟩) n1 (n1+2)) (.slice (some ⟨G2,0,none⟩) n2 (n2+2)) (.slice (some ⟨G3,0,none⟩) n3 (n3+2)) (.slice (some ⟨G4,0,none⟩) n4 (n4+2))) #[.slice none 0 0,.slice none 0 0,.slice none 0 0,.slice none 0 0] (qC q (.slice (some ⟨G1,0,none⟩) n1 (n1+2)) (.slice (some ⟨G2,0,none⟩) n2 (n2+2)) (.slice (some ⟨G3,0,none⟩) n3 (n3+2)) (.slice (some ⟨G4,0,none⟩) n4 (n4+2))) (P4.drew.setCells R 0 (qC q (.slice (some ⟨G1,0,none⟩) n1 (n1+2)) (.slice (some ⟨G2,0,none⟩) n2 (n2+2)) (.slice (some ⟨G3,0,none⟩) n3 (n3+2)) (.slice (some ⟨G4,0,none⟩) n4 (n4+2))).toList)):=HF.out.drew.retR rfl HXR.out
  generalize P4.drew.setCells R 0 (qC q (.slice (some ⟨G1,0,none⟩) n1 (n1+2)) (.slice (some ⟨G2,0,none⟩) n2 (n2+2)) (.slice (some ⟨G3,0,none⟩) n3 (n3+2)) (.slice (some ⟨G4,0,none⟩) n4 (n4+2))).toList=Z1 at HA⊢
  refine hK.out _ _ ⟨_,_,HA.out,rfl,rfl⟩ (fun hHeld2=>?_)
  clear hK K hHeld
  simp only[Act.put,List.getElem_toArray,List.getElem_cons_zero,List.getElem_cons_succ]
  refine wpAnyH_ready (rs:=[3]) (by kernel_rfl) (by simp) ?_
  refine AllReadyH.cons rfl (fun K hK=>?_) AllReadyH.nil
  refine step_store_mid rfl _ _ _ rfl S 0 #[.slice (some ⟨ga1,0,none⟩) 1 gc1,.slice (some ⟨ga2,0,none⟩) 1 gc2,.slice (some ⟨ga3,0,none⟩) 1 gc3,.slice (some ⟨ga4,0,none⟩) 1 gc4] rfl rfl (HA.out.ls.there) Tryz.sizeOwned (by simp[Value.oneCell']) ?_
  have HE:Hid (L5 W q n1 n2 n3 n4 G1 G2 G3 G4 (.slice (some ⟨ga1,0,none⟩) 1 gc1) (.slice (some ⟨ga2,0,none⟩) 1 gc2) (.slice (some ⟨ga3,0,none⟩) 1 gc3) (.slice (some ⟨ga4,0,none⟩) 1 gc4) X R S O Y (qC q (.slice aos n1 cas) (.slice aoc n2 cac) (.slice aoi n3 cai) (.slice aop n4 cap)) (qC q (.slice (some ⟨G1,0,none⟩) n1 (n1+2)) (.slice (some ⟨G2,0,none⟩) n2 (n2+2)) (.slice (some ⟨G3,0,none⟩) n3 (n3+2)) (.slice (some ⟨G4,0,none⟩) n4 (n4+2))) #[.slice (some ⟨ga1,0,none⟩) 1 gc1,.slice (some ⟨ga2,0,none⟩) 1 gc2,.slice (some ⟨ga3,0,none⟩) 1 gc3,.slice (some ⟨ga4,0,none⟩) 1 gc4] (qC q (.slice (some ⟨G1,0,none⟩) n1 (n1+2)) (.slice (some ⟨G2,0,none⟩) n2 (n2+2)) (.slice (some ⟨G3,0,none⟩) n3 (n3+2)) (.slice (some ⟨G4,0,none⟩) n4 (n4+2))) (Z1.setCells S 0 [.slice (some ⟨ga1,0,none⟩) 1 gc1,.slice (some ⟨ga2,0,none⟩) 1 gc2,.slice (some ⟨ga3,0,none⟩) 1 gc3,.slice (some ⟨ga4,0,none⟩) 1 gc4])):=HA.out.retS rfl
  generalize Z1.setCells S 0 [.slice (some ⟨ga1,0,none⟩) 1 gc1,.slice (some ⟨ga2,0,none⟩) 1 gc2,.slice (some ⟨ga3,0,none⟩) 1 gc3,.slice (some ⟨ga4,0,none⟩) 1 gc4]=W9 at HE⊢
  refine hK.out _ _ ⟨_,_,HE.out,rfl,rfl⟩ (fun hHeld3=>?_)
  clear hK K hHeld2
  simp only[Act.put,List.getElem_toArray,List.getElem_cons_zero,List.getElem_cons_succ]
  refine wpAnyH_done (by kernel_rfl) ?_ _
  refine NoPanic.normal ?_
  clear hHeld3
  go_wp2_with fail
  refine bodyPost_ret (v:=.tuple #[.agg (qC q (.slice (some ⟨G1,0,none⟩) n1 (n1+2)) (.slice (some ⟨G2,0,none⟩) n2 (n2+2)) (.slice (some ⟨G3,0,none⟩) n3 (n3+2)) (.slice (some ⟨G4,0,none⟩) n4 (n4+2))),.agg #[.slice (some ⟨ga1,0,none⟩) 1 gc1,.slice (some ⟨ga2,0,none⟩) 1 gc2,.slice (some ⟨ga3,0,none⟩) 1 gc3,.slice (some ⟨ga4,0,none⟩) 1 gc4]]) (retLent Tryz.results19 rfl rfl HE.out.lr HE.out.ls rfl rfl) rfl ⟨G1,G2,G3,G4,_,_,_,_,rfl,HE.out.le⟩
end Go.Proofs.YtobgbmfpicmpcaaGreatDoor

