/- rightOf: a line read as a right. -/
import Derived.Test.YtobgbmfpicmpcaaGreatDoorC02
import Derived.Test.YtobgbmfpicmpcaaGreatDoorC05
import Derived.Test.YtobgbmfpicmpcaaGreatDoorC06
import Derived.Deep.RegionWith
import Derived.Lib.Hide
set_option maxRecDepth 100000
set_option maxHeartbeats 8000000
namespace Go.Proofs.YtobgbmfpicmpcaaGreatDoor
open Go.Lib (hid)
section
open Go.RowKit Go.Maps
def jO (s:ByteArray) (c:UInt8):ByteArray:=⟨(Lib.cut s.data.toList [c]).1.toArray⟩
def jf (s:ByteArray) (c:UInt8):ByteArray:=⟨(Lib.cut s.data.toList [c]).2.1.toArray⟩
def ct (s:ByteArray):aI × Bool:=
 if s.toList==[100,101,116,97,99,104] then ((10,⟨#[]⟩,⟨#[]⟩),true)
 else if kO (jO s 32)=0 then ((0,⟨#[]⟩,⟨#[]⟩),false)
 else if kO (jO s 32)=9 then ((9,jf s 32,⟨#[]⟩),bj (jf s 32)==1)
 else if kO (jO s 32)=3∨kO (jO s 32)=5 then ((kO (jO s 32),jO (jf s 32) 46,jf (jf s 32) 46),bj (jO (jf s 32) 46)==2&&bj (jf (jf s 32) 46)==1)
 else ((kO (jO s 32),jf s 32,⟨#[]⟩),bj (jf s 32)==2)
theorem zD {n:Nat} {W w:World} (h:Below n W w) (d:Nat):Below n W (w.drewN d):=⟨h.os,h.tape,h.output,h.size,fun k hk=>h.block k hk⟩
theorem Kd {s:ByteArray} {m:Int} {w:World} (c:UInt8) (hs:s.size<4294967281) (hm:w.cell? ⟨1,0,none⟩=some (.int .i64 m)):
  Calls Tryz.prog 279 #[.string s,.string ⟨#[c]⟩] w fun e w'=>∃b,e=.returned (.tuple #[.string (jO s c),.string (jf s c),.bool b])∧∃n,w'=w.drewN n:=
 (Tryz.strings_Cut s ⟨#[c]⟩ m w hs hm).mono fun _ _ h=>⟨_,h.1,h.2⟩
theorem qt (s:ByteArray) (c:UInt8):(jf s c).size≤s.size:=by
 unfold jf Lib.cut
 split
 ·show (List.drop _ s.data.toList).toArray.size≤s.data.size
  rw[List.size_toArray,List.length_drop,Array.length_toList];omega
 ·exact Nat.zero_le _
theorem Cx (s:ByteArray) (c:UInt8):(jO s c).size≤s.size:=by
 unfold jO Lib.cut
 split
 ·show (List.take _ s.data.toList).toArray.size≤s.data.size
  rw[List.size_toArray,List.length_take,Array.length_toList];omega
 ·exact Nat.le_refl _
structure RO (W:World) (X Y:Nat) (cx cy:Array Value) (w:World):Prop where
 lx:Loc w X cx 224
 ly:Loc w Y cy 224
 xy:X≠Y
 nx:W.heap.size≤X
 ny:W.heap.size≤Y
 low:Below W.heap.size W w
theorem RO.df {W w:World} {X Y:Nat} {cx cy:Array Value} (h:RO W X Y cx cy w) (j:Nat) (u:Value):RO W X Y (cx.setIfInBounds j u) cy (w.setCell ⟨X,j,none⟩ u):=
 ⟨h.lx.set j u,h.ly.setOther (Ne.symm h.xy) j u,h.xy,h.nx,h.ny,h.low.setCell (p:=⟨X,j,none⟩) h.nx u⟩
theorem RO.mZ {W w:World} {X Y:Nat} {cx cy:Array Value} (h:RO W X Y cx cy w) (j:Nat) (u:Value):RO W X Y cx (cy.setIfInBounds j u) (w.setCell ⟨Y,j,none⟩ u):=
 ⟨h.lx.setOther h.xy j u,h.ly.set j u,h.xy,h.nx,h.ny,h.low.setCell (p:=⟨Y,j,none⟩) h.ny u⟩
theorem RO.drew {W w:World} {X Y:Nat} {cx cy:Array Value} (h:RO W X Y cx cy w) (n:Nat):RO W X Y cx cy (w.drewN n):=
 ⟨h.lx.drew n,h.ly.drew n,h.xy,h.nx,h.ny,zD h.low n⟩
theorem JP {s:ByteArray} {W:World} (hd:(s.toList==[100,101,116,97,99,104])=true):
  Calls Tryz.prog 227 #[.string s] W fun e W'=>e=.returned (.tuple #[nf (ct s).1,.bool (ct s).2])∧Below W.heap.size W W':=by
 have HR:=hid (show ct s=((10,⟨#[]⟩,⟨#[]⟩),true) by unfold ct;rw[if_pos hd])
 have HX:=hid (Loc.new W #[.int .i64 0,.string ⟨#[]⟩,.string ⟨#[]⟩] 224)
 have HB:=hid ((Below.refl W.heap.size W).alloc (Nat.le_refl _) (.cells #[.int .i64 0,.string ⟨#[]⟩,.string ⟨#[]⟩] 224))
 go_enter Tryz.func227,Tryz.ntmps227
 go_wp2_with fail
 clear HX
 refine bodyPost_ret (v:=.tuple #[.agg #[.int .i64 10,.string ⟨#[]⟩,.string ⟨#[]⟩],.bool true]) ?_ rfl ⟨by rw[HR.out];rfl,?_⟩
 ·simp[results,Tryz.results227,go_sem]
 ·exact(Below.refl W.heap.size W).alloc (Nat.le_refl _) _
theorem Jd {s:ByteArray} {m:Int} {W:World} (hs:s.size<4294967281) (hm:W.cell? ⟨1,0,none⟩=some (.int .i64 m)) (hd:(s.toList==[100,101,116,97,99,104])=false):
  Calls Tryz.prog 227 #[.string s] W fun e W'=>e=.returned (.tuple #[nf (ct s).1,.bool (ct s).2])∧Below W.heap.size W W':=by
 have HR:=hid (show ct s=_ by unfold ct;rw[if_neg (by simp[hd])])
 have HX:=hid (Loc.new W #[.int .i64 0,.string ⟨#[]⟩,.string ⟨#[]⟩] 224)
 have HB:=hid ((Below.refl W.heap.size W).alloc (Nat.le_refl _) (.cells #[.int .i64 0,.string ⟨#[]⟩,.string ⟨#[]⟩] 224))
 have HM:=hid hm
 have HS:=hid hs
 clear hm
 go_enter Tryz.func227,Tryz.ntmps227
 go_wp2_with fail
 obtain⟨X,hX⟩:∃X,X=W.heap.size:=⟨_,rfl⟩
 have HN:=hid (Nat.le_of_eq hX.symm)
 rw[←hX] at HX⊢
 clear hX
 generalize W.alloc (.cells #[.int .i64 0,.string ⟨#[]⟩,.string ⟨#[]⟩] 224)=W1 at HX HB⊢
 refine(Kd 32 HS.out ((HB.out.cell (block_lt_of_cell HM.out)).trans HM.out)).mono ?_
 rintro e W2 ⟨b,rfl,n,hw⟩
 have HX2:Hid (Loc W2 X #[.int .i64 0,.string ⟨#[]⟩,.string ⟨#[]⟩] 224):=hid (by rw[hw];exact HX.out.drew n)
 have HB2:Hid (Below W.heap.size W W2):=hid (by rw[hw];exact zD HB.out n)
 clear hw HX HB
 go_wp2_with fail
 refine(GR (jO s 32) W2).mono ?_
 rintro e W3 ⟨rfl,hw⟩
 obtain rfl:=hw.symm
 obtain⟨v,hv⟩:∃v,v=kO (jO s 32):=⟨_,rfl⟩
 obtain⟨z,hz⟩:∃z,z=jf s 32:=⟨_,rfl⟩
 rw[←hv,←hz] at HR⊢
 have HZ:=hid (show z.size<4294967281 by rw[hz];exact Nat.lt_of_le_of_lt (qt s 32) HS.out)
 clear hz hv
 generalize jO s 32=y
 go_upto_region 5 with fail
 have HX3:=hid (HX2.out.alloc (.cells #[.int .i64 v,.string z,.string ⟨#[]⟩] 224))
 have HY3:=hid (Loc.new W2 #[.int .i64 v,.string z,.string ⟨#[]⟩] 224)
 have HB3:=hid (HB2.out.alloc HB2.out.size (.cells #[.int .i64 v,.string z,.string ⟨#[]⟩] 224))
 have HXY:=hid (Nat.ne_of_lt HX2.out.lt)
 have HNY:=hid HB2.out.size
 clear HX2 HB2
 obtain⟨Y,hY⟩:∃Y,Y=W2.heap.size:=⟨_,rfl⟩
 rw[←hY] at HXY HNY HY3⊢
 clear hY
 generalize W2.alloc (.cells #[.int .i64 v,.string z,.string ⟨#[]⟩] 224)=W4 at HX3 HY3 HB3⊢
 have H:=hid (RO.mk HX3.out HY3.out HXY.out HN.out HNY.out HB3.out)
 clear HX3 HY3 HB3 HXY HN HNY
 have x0:=H.out.lx.at_ 0 (.int .i64 0) rfl
 have x1:=H.out.lx.at_ 1 (.string ⟨#[]⟩) rfl
 have x2:=H.out.lx.at_ 2 (.string ⟨#[]⟩) rfl
 have fx0:=H.out.lx.free 0
 have fx1:=H.out.lx.free 1
 have fx2:=H.out.lx.free 2
 have y0:=H.out.ly.at_ 0 (.int .i64 v) rfl
 have y1:=H.out.ly.at_ 1 (.string z) rfl
 have y2:=H.out.ly.at_ 2 (.string ⟨#[]⟩) rfl
 by_cases h0:v=0
 ·subst h0
  rw[if_pos rfl] at HR
  go_wp2_with fail
  have HF:=hid (((H.out.df 0 (.int .i64 0)).df 1 (.string ⟨#[]⟩)).df 2 (.string ⟨#[]⟩))
  clear x0 x1 x2 fx0 fx1 fx2 y0 y1 y2 H
  generalize (((W4.setCell ⟨X,0,none⟩ (.int .i64 0)).setCell ⟨X,1,none⟩ (.string ⟨#[]⟩)).setCell ⟨X,2,none⟩ (.string ⟨#[]⟩))=W5 at HF⊢
  have x0:=HF.out.lx.at_ 0 (.int .i64 0) rfl
  have x1:=HF.out.lx.at_ 1 (.string ⟨#[]⟩) rfl
  have x2:=HF.out.lx.at_ 2 (.string ⟨#[]⟩) rfl
  refine bodyPost_ret (v:=.tuple #[.agg #[.int .i64 0,.string ⟨#[]⟩,.string ⟨#[]⟩],.bool false]) ?_ rfl ⟨by rw[HR.out];rfl,HF.out.low⟩
  simp[results,Tryz.results227,go_sem,x0,x1,x2]
 rw[if_neg h0] at HR
 by_cases h9:v=9
 ·subst h9
  rw[if_pos rfl] at HR
  go_upto_region 9 with fail
  go_region_with (go_at_call 73;refine(eC _ _).mono ?_;rintro e w' ⟨rfl,hw⟩;obtain rfl:=hw.symm)
  all_goals
   go_wp2_with fail
   have HF:=hid (((H.out.df 0 (.int .i64 9)).df 1 (.string z)).df 2 (.string ⟨#[]⟩))
   clear x0 x1 x2 fx0 fx1 fx2 y0 y1 y2 H
   generalize (((W4.setCell ⟨X,0,none⟩ (.int .i64 9)).setCell ⟨X,1,none⟩ (.string z)).setCell ⟨X,2,none⟩ (.string ⟨#[]⟩))=W5 at HF⊢
   have x0:=HF.out.lx.at_ 0 (.int .i64 9) rfl
   have x1:=HF.out.lx.at_ 1 (.string z) rfl
   have x2:=HF.out.lx.at_ 2 (.string ⟨#[]⟩) rfl
   refine bodyPost_ret (v:=.tuple #[.agg #[.int .i64 9,.string z,.string ⟨#[]⟩],.bool (bj z==1)]) ?_ rfl ⟨by rw[HR.out];rfl,⟨HF.out.low.os,HF.out.low.tape,HF.out.low.output,HF.out.low.size,fun k hk=>HF.out.low.block k hk⟩⟩
   simp[results,Tryz.results227,go_sem,x0,x1,x2]
 rw[if_neg h9] at HR
 by_cases h35:v=3∨v=5
 ·rw[if_pos h35] at HR
  have HC:Hid (∀w:World,Below W.heap.size W w→Calls Tryz.prog 279 #[.string z,.string ⟨#[46]⟩] w fun e w'=>∃b,e=.returned (.tuple #[.string (jO z 46),.string (jf z 46),.bool b])∧∃n,w'=w.drewN n):=
   hid fun w hb=>Kd 46 HZ.out ((hb.cell (block_lt_of_cell HM.out)).trans HM.out)
  rcases h35 with h35|h35
  ·subst h35
   go_wp2_with fail
   refine(HC.out W4 H.out.low).mono ?_
   rintro e W5 ⟨b',rfl,n',hw⟩
   have H5:Hid (RO W X Y #[.int .i64 0,.string ⟨#[]⟩,.string ⟨#[]⟩] #[.int .i64 3,.string z,.string ⟨#[]⟩] W5):=hid (by rw[hw];exact H.out.drew n')
   clear hw H x0 x1 x2 fx0 fx1 fx2 y0 y1 y2
   have y1:=H5.out.ly.at_ 1 (.string z) rfl
   have y2:=H5.out.ly.at_ 2 (.string ⟨#[]⟩) rfl
   have fy1:=H5.out.ly.free 1
   have fy2:=H5.out.ly.free 2
   go_upto_region 13 with fail
   have H:=hid ((H5.out.mZ 1 (.string (jO z 46))).mZ 2 (.string (jf z 46)))
   clear y1 y2 fy1 fy2 H5
   generalize (W5.setCell ⟨Y,1,none⟩ (.string (jO z 46))).setCell ⟨Y,2,none⟩ (.string (jf z 46))=W6 at H⊢
   generalize jO z 46=a at H HR HC⊢
   generalize jf z 46=k at H HR HC⊢
   have x0:=H.out.lx.at_ 0 (.int .i64 0) rfl
   have x1:=H.out.lx.at_ 1 (.string ⟨#[]⟩) rfl
   have x2:=H.out.lx.at_ 2 (.string ⟨#[]⟩) rfl
   have fx0:=H.out.lx.free 0
   have fx1:=H.out.lx.free 1
   have fx2:=H.out.lx.free 2
   have y0:=H.out.ly.at_ 0 (.int .i64 3) rfl
   have y1:=H.out.ly.at_ 1 (.string a) rfl
   have y2:=H.out.ly.at_ 2 (.string k) rfl
   by_cases hw:bj a=2
   ·have HW:=hid hw
    clear hw
    first
    | go_region_with (go_at_call 73;refine(eC _ _).mono ?_;rintro e w' ⟨rfl,hw⟩;obtain rfl:=hw.symm;(try rw[HW.out]))
    | fail
    all_goals
     go_wp2_with fail
     have HF:=hid (((H.out.df 0 (.int .i64 3)).df 1 (.string a)).df 2 (.string k))
     clear x0 x1 x2 fx0 fx1 fx2 y0 y1 y2 H
     generalize (((W6.setCell ⟨X,0,none⟩ (.int .i64 3)).setCell ⟨X,1,none⟩ (.string a)).setCell ⟨X,2,none⟩ (.string k))=W7 at HF⊢
     have x0:=HF.out.lx.at_ 0 (.int .i64 3) rfl
     have x1:=HF.out.lx.at_ 1 (.string a) rfl
     have x2:=HF.out.lx.at_ 2 (.string k) rfl
     refine bodyPost_ret (v:=.tuple #[.agg #[.int .i64 3,.string a,.string k],.bool (bj k==1)]) ?_ rfl ⟨by rw[HR.out,HW.out];rfl,⟨HF.out.low.os,HF.out.low.tape,HF.out.low.output,HF.out.low.size,fun k hk=>HF.out.low.block k hk⟩⟩
     simp[results,Tryz.results227,go_sem,x0,x1,x2]
   ·have hw:(bj a==2)=false:=by simpa using hw
    have HW:=hid hw
    first
    | go_region_with (go_at_call 73;refine(eC _ _).mono ?_;rintro e w' ⟨rfl,hw⟩;obtain rfl:=hw.symm)
    | fail
    all_goals
     go_wp2_with fail
     have HF:=hid (((H.out.df 0 (.int .i64 3)).df 1 (.string a)).df 2 (.string k))
     clear x0 x1 x2 fx0 fx1 fx2 y0 y1 y2 H
     generalize (((W6.setCell ⟨X,0,none⟩ (.int .i64 3)).setCell ⟨X,1,none⟩ (.string a)).setCell ⟨X,2,none⟩ (.string k))=W7 at HF⊢
     have x0:=HF.out.lx.at_ 0 (.int .i64 3) rfl
     have x1:=HF.out.lx.at_ 1 (.string a) rfl
     have x2:=HF.out.lx.at_ 2 (.string k) rfl
     refine bodyPost_ret (v:=.tuple #[.agg #[.int .i64 3,.string a,.string k],.bool (false)]) ?_ rfl ⟨by rw[HR.out,HW.out];rfl,⟨HF.out.low.os,HF.out.low.tape,HF.out.low.output,HF.out.low.size,fun k hk=>HF.out.low.block k hk⟩⟩
     simp[results,Tryz.results227,go_sem,x0,x1,x2]
  ·subst h35
   go_wp2_with fail
   refine(HC.out W4 H.out.low).mono ?_
   rintro e W5 ⟨b',rfl,n',hw⟩
   have H5:Hid (RO W X Y #[.int .i64 0,.string ⟨#[]⟩,.string ⟨#[]⟩] #[.int .i64 5,.string z,.string ⟨#[]⟩] W5):=hid (by rw[hw];exact H.out.drew n')
   clear hw H x0 x1 x2 fx0 fx1 fx2 y0 y1 y2
   have y1:=H5.out.ly.at_ 1 (.string z) rfl
   have y2:=H5.out.ly.at_ 2 (.string ⟨#[]⟩) rfl
   have fy1:=H5.out.ly.free 1
   have fy2:=H5.out.ly.free 2
   go_upto_region 13 with fail
   have H:=hid ((H5.out.mZ 1 (.string (jO z 46))).mZ 2 (.string (jf z 46)))
   clear y1 y2 fy1 fy2 H5
   generalize (W5.setCell ⟨Y,1,none⟩ (.string (jO z 46))).setCell ⟨Y,2,none⟩ (.string (jf z 46))=W6 at H⊢
   generalize jO z 46=a at H HR HC⊢
   generalize jf z 46=k at H HR HC⊢
   have x0:=H.out.lx.at_ 0 (.int .i64 0) rfl
   have x1:=H.out.lx.at_ 1 (.string ⟨#[]⟩) rfl
   have x2:=H.out.lx.at_ 2 (.string ⟨#[]⟩) rfl
   have fx0:=H.out.lx.free 0
   have fx1:=H.out.lx.free 1
   have fx2:=H.out.lx.free 2
   have y0:=H.out.ly.at_ 0 (.int .i64 5) rfl
   have y1:=H.out.ly.at_ 1 (.string a) rfl
   have y2:=H.out.ly.at_ 2 (.string k) rfl
   by_cases hw:bj a=2
   ·have HW:=hid hw
    clear hw
    first
    | go_region_with (go_at_call 73;refine(eC _ _).mono ?_;rintro e w' ⟨rfl,hw⟩;obtain rfl:=hw.symm;(try rw[HW.out]))
    | fail
    all_goals
     go_wp2_with fail
     have HF:=hid (((H.out.df 0 (.int .i64 5)).df 1 (.string a)).df 2 (.string k))
     clear x0 x1 x2 fx0 fx1 fx2 y0 y1 y2 H
     generalize (((W6.setCell ⟨X,0,none⟩ (.int .i64 5)).setCell ⟨X,1,none⟩ (.string a)).setCell ⟨X,2,none⟩ (.string k))=W7 at HF⊢
     have x0:=HF.out.lx.at_ 0 (.int .i64 5) rfl
     have x1:=HF.out.lx.at_ 1 (.string a) rfl
     have x2:=HF.out.lx.at_ 2 (.string k) rfl
     refine bodyPost_ret (v:=.tuple #[.agg #[.int .i64 5,.string a,.string k],.bool (bj k==1)]) ?_ rfl ⟨by rw[HR.out,HW.out];rfl,⟨HF.out.low.os,HF.out.low.tape,HF.out.low.output,HF.out.low.size,fun k hk=>HF.out.low.block k hk⟩⟩
     simp[results,Tryz.results227,go_sem,x0,x1,x2]
   ·have hw:(bj a==2)=false:=by simpa using hw
    have HW:=hid hw
    first
    | go_region_with (go_at_call 73;refine(eC _ _).mono ?_;rintro e w' ⟨rfl,hw⟩;obtain rfl:=hw.symm)
    | fail
    all_goals
     go_wp2_with fail
     have HF:=hid (((H.out.df 0 (.int .i64 5)).df 1 (.string a)).df 2 (.string k))
     clear x0 x1 x2 fx0 fx1 fx2 y0 y1 y2 H
     generalize (((W6.setCell ⟨X,0,none⟩ (.int .i64 5)).setCell ⟨X,1,none⟩ (.string a)).setCell ⟨X,2,none⟩ (.string k))=W7 at HF⊢
     have x0:=HF.out.lx.at_ 0 (.int .i64 5) rfl
     have x1:=HF.out.lx.at_ 1 (.string a) rfl
     have x2:=HF.out.lx.at_ 2 (.string k) rfl
     refine bodyPost_ret (v:=.tuple #[.agg #[.int .i64 5,.string a,.string k],.bool (false)]) ?_ rfl ⟨by rw[HR.out,HW.out];rfl,⟨HF.out.low.os,HF.out.low.tape,HF.out.low.output,HF.out.low.size,fun k hk=>HF.out.low.block k hk⟩⟩
     simp[results,Tryz.results227,go_sem,x0,x1,x2]
 rw[if_neg h35] at HR
 go_upto_region 14 with fail
 go_region_with (go_at_call 73;refine(eC _ _).mono ?_;rintro e w' ⟨rfl,hw⟩;obtain rfl:=hw.symm)
 all_goals
  go_wp2_with fail
  have HF:=hid (((H.out.df 0 (.int .i64 v)).df 1 (.string z)).df 2 (.string ⟨#[]⟩))
  clear x0 x1 x2 fx0 fx1 fx2 y0 y1 y2 H
  generalize (((W4.setCell ⟨X,0,none⟩ (.int .i64 v)).setCell ⟨X,1,none⟩ (.string z)).setCell ⟨X,2,none⟩ (.string ⟨#[]⟩))=W5 at HF⊢
  have x0:=HF.out.lx.at_ 0 (.int .i64 v) rfl
  have x1:=HF.out.lx.at_ 1 (.string z) rfl
  have x2:=HF.out.lx.at_ 2 (.string ⟨#[]⟩) rfl
  refine bodyPost_ret (v:=.tuple #[.agg #[.int .i64 v,.string z,.string ⟨#[]⟩],.bool (bj z==2)]) ?_ rfl ⟨by rw[HR.out];rfl,⟨HF.out.low.os,HF.out.low.tape,HF.out.low.output,HF.out.low.size,fun k hk=>HF.out.low.block k hk⟩⟩
  simp[results,Tryz.results227,go_sem,x0,x1,x2]
theorem zj {s:ByteArray} {m:Int} {W:World} (hs:s.size<4294967281) (hm:W.cell? ⟨1,0,none⟩=some (.int .i64 m)):
  Calls Tryz.prog 227 #[.string s] W fun e W'=>e=.returned (.tuple #[nf (ct s).1,.bool (ct s).2])∧Below W.heap.size W W':=by
 cases hd:(s.toList==[100,101,116,97,99,104]) with
 | true=>exact JP hd
 | false=>exact Jd hs hm hd
end
end Go.Proofs.YtobgbmfpicmpcaaGreatDoor
