/- The program's 'add' lays one token behind those gathered; 'addWord' does so where the word is not too long. -/
import Derived.Test.YtobgbmfpicmpcaaGreatDoorC23
import Derived.Deep.QuietTactic
import Derived.BigQuiet
import Derived.Lib.QuietBelow
import Derived.Lib.Hide
import Derived.Test.YtobgbmfpicmpcaaGreatDoorC02
import Derived.Scope
import Derived.WalkMore
import Derived.Deep.LoopGhost
namespace Go.Proofs.YtobgbmfpicmpcaaGreatDoor
open Go.RowKit Go.Sort
set_option maxHeartbeats 400000 in
theorem clone (t:ByteArray) (w:World) (hlim:t.size≤281474976710656):Calls Tryz.prog 74 #[.string t] w fun e w'=>e=.returned (.string t)∧Below w.heap.size w w':=by
 go_enter Tryz.func74,Tryz.ntmps74
 go_wp2_with (go_at_call 148;refine(Tryz.stringslite_Clone t _ hlim).mono ?_;rintro e w' ⟨rfl,hb⟩)
 go_ret
 exact⟨rfl,hb⟩
theorem own_shape {w:World} {B n:Nat} {v:Value} {xs:List Value} (h:w.ownsRow B 153 3 v (n+1) xs):∃g cap,v=.slice (some ⟨g,0,none⟩) (n+1) cap:=by
 rcases h.2 with ⟨_,h0⟩|⟨g,cap,cur,rfl,_⟩
 ·omega
 ·exact⟨g,cap,rfl⟩
theorem Box.grown {W w2:World} {b:Nat} {s:ByteArray} {f a:Int} {lv:Value} {o:Obj} {r:Option Nat} (h:Box W b s f a lv) (hg:(W.alloc o).grownBy w2 r) (hne:r≠some b):Box w2 b s f a lv:=by
 have h1:Box (W.alloc o) b s f a lv:=h.old ((Below.refl _ _).alloc (Nat.le_refl _) o)
 unfold Box;rw[hg.block b h1.lt (fun e=>hne e.symm)];exact h1
theorem Inv.added {w0 W w2:World} {b:Nat} {s:ByteArray} {f a:Int} {lv v':Value} {acc:List Tok} {kd vl:Int} {tx:ByteArray} {o:Obj} (hB:Below w0.heap.size w0 W) (hbge:w0.heap.size≤b) (hx:Box W b s f a lv)
  (hown:W.ownsRow w0.heap.size 153 3 lv acc.length (tokCells acc)) (hown':w2.ownsRow w0.heap.size 153 3 v' (acc.length+1) (tokCells acc++[.int .i64 kd,.string tx,.int .i64 vl])) (hg:(W.alloc o).grownBy w2 lv.ownBlock):
  Inv w0 b s f a (acc++[⟨kd,tx,vl⟩]) (w2.setCell ⟨b,3,none⟩ v'):=by
 have R:=rel_append hB (Nat.le_refl _) hown hown' hg
 have hx2:=hx.grown hg (hx.ne hown)
 exact⟨R.1.setCell hbge _,hbge,v',hx2.setList v',ownsRow_setCell_other R.2 (hx2.ne R.2) _⟩
set_option maxRecDepth 100000 in
set_option maxHeartbeats 1000000 in
theorem add {w0 W:World} {b:Nat} {s:ByteArray} {f a:Nat} {acc:List Tok} (kd vl:Int) (hinv:Inv w0 b s (f:Nat) (a:Nat) acc W) (hs:s.size≤2000) (hfa:f≤a) (ha:a≤s.size) (hal:acc.length≤2000):
  Calls Tryz.prog 216 #[.pointer (some ⟨b,0,none⟩),.int .i64 kd,.int .i64 vl] W fun e W'=>e=.returned (.tuple #[])∧Inv w0 b s (f:Nat) (a:Nat) (acc++[⟨kd,s.extract f a,vl⟩]) W':=by
 obtain⟨i0,hi,hz0,hz1,hz2⟩:=info_parts Tryz.info27
 have HI:Hid (Inv w0 b s (f:Nat) (a:Nat) acc W):=hinv
 obtain⟨lv,hx,ho⟩:=hinv.cut
 obtain⟨c0,c1,c2,c3⟩:=hx.cells
 have k0:=cell_regrown c0
 have k1:=cell_regrown c1
 have k2:=cell_regrown c2
 have hz:(s.extract f a).size≤281474976710656:=by rw[size_extract' _ _ _ ha];omega
 have cC:∀d os,Calls Tryz.prog 74 #[.string (s.extract f a)] (grow (redrawn W d) os) fun e w''=>e=.returned (.string (s.extract f a))∧∃p:Regrown,w''=grow (redrawn W p.d) p.os:=fun d os=>Calls.regrown_of (clone _ _ hz)
 clear hinv hx ho c0 c1 c2 c3 hz
 go_enter Tryz.func216,Tryz.ntmps216
 go_wp2
 refine wp_region_quiet_below (by kernel_rfl) (by kernel_rfl) ?_
 repeat (quiet_step (exact cC _ _))
 refine wpQuiet_nil ?_
 intro W1 hw'
 have hI1:Inv w0 b s (f:Nat) (a:Nat) acc W1:=by
  obtain⟨⟨dq,osq⟩,rfl⟩:=hw'
  exact HI.out.old (below_regrown W dq osq)
 clear hw' cC k0 k1 k2 HI
 have hB1:=hI1.below
 have hsz:=hB1.size
 have HB:Hid (Below w0.heap.size w0 W1):=hB1
 have hbge:=hI1.bge
 obtain⟨lv,hx,ho⟩:=hI1.cut
 have HX:Hid (Box W1 b s (f:Nat) (a:Nat) lv):=hx
 obtain⟨c0,c1,c2,c3⟩:=hx.cells
 clear hB1 hI1 hx c0 c1 c2
 go_wp2_with (at_builtin;refine wpList_append_own _ rfl _ _ 71 rfl w0.heap.size 153 i0 (.agg #[.int .i64 0,.string ⟨#[]⟩,.int .i64 0]) 3 32 Tryz.underlying71 hi hz0 hz1 hz2 rfl (by decide) _ _ _ rfl (ho.alloc _) _ 1 1 [.int .i64 kd,.string (s.extract f a),.int .i64 vl] rfl rfl three_cells three_one (by unfold maxLen;omega) (by omega) (by simp;omega) ?_;intro v' w2 hown' hgrow _;have hx2:=HX.out.grown hgrow (HX.out.ne ho);have cc3:=hx2.cells.2.2.2;have ff3:=hx2.free 3;obtain⟨gg,gcap,hshape⟩:=own_shape hown';subst hshape)
 go_end0
 exact⟨rfl,Inv.added HB.out hbge HX.out ho hown' hgrow⟩
end Go.Proofs.YtobgbmfpicmpcaaGreatDoor

/- The program's 'addWord' and 'addNumber': a word of at most eight bytes, a number as it may be, is laid behind the tokens gathered; else the machine stands as it was. -/
namespace Go.Proofs.YtobgbmfpicmpcaaGreatDoor
open Go.RowKit
set_option maxRecDepth 100000 in
set_option maxHeartbeats 1000000 in
theorem addWordNo {w0 W:World} {b:Nat} {s:ByteArray} {f a:Nat} {acc:List Tok} (hinv:Inv w0 b s (f:Nat) (a:Nat) acc W) (hs:s.size≤2000) (hfa:f≤a) (ha:a≤s.size) (h8:8<a - f):
  Calls Tryz.prog 214 #[.pointer (some ⟨b,0,none⟩)] W fun e W'=>e=.returned (.bool false)∧Inv w0 b s (f:Nat) (a:Nat) acc W':=by
 have HI:Hid (Inv w0 b s (f:Nat) (a:Nat) acc W):=hinv
 obtain⟨lv,hx,ho⟩:=hinv.cut
 obtain⟨c0,c1,c2,c3⟩:=hx.cells
 clear hinv hx ho c0 c3
 go_enter Tryz.func214,Tryz.ntmps214
 go_wp2
 go_quiet (fail)
 go_wp2
 go_ret
 exact⟨rfl,HI.out.drew nq⟩
set_option maxRecDepth 100000 in
set_option maxHeartbeats 1000000 in
theorem addWordYes {w0 W:World} {b:Nat} {s:ByteArray} {f a:Nat} {acc:List Tok} (hinv:Inv w0 b s (f:Nat) (a:Nat) acc W) (hs:s.size≤2000) (hfa:f≤a) (ha:a≤s.size) (hal:acc.length≤2000) (h8:a - f≤8):
  Calls Tryz.prog 214 #[.pointer (some ⟨b,0,none⟩)] W fun e W'=>e=.returned (.bool true)∧Inv w0 b s (f:Nat) (a:Nat) (acc++[⟨1,s.extract f a,0⟩]) W':=by
 have HI:Hid (Inv w0 b s (f:Nat) (a:Nat) acc W):=hinv
 obtain⟨lv,hx,ho⟩:=hinv.cut
 obtain⟨c0,c1,c2,c3⟩:=hx.cells
 clear hinv hx ho c0 c3
 go_enter Tryz.func214,Tryz.ntmps214
 go_wp2
 go_quiet (fail)
 go_wp2_with (go_at_call 216;refine(add 1 0 (HI.out.drew nq) hs hfa ha hal).mono ?_;rintro e W' ⟨rfl,h1⟩)
 go_ret
 exact⟨rfl,h1⟩
set_option maxRecDepth 100000 in
set_option maxHeartbeats 1000000 in
theorem addNumA {w0 W:World} {b:Nat} {s:ByteArray} {f a:Nat} {acc:List Tok} {t:ByteArray} {u:ByteArray} (hinv:Inv w0 b s (f:Nat) (a:Nat) acc W) (hfa:f≤a) (ha:a≤s.size) (ht:s.extract f a=t)
  (hT:∀W,Calls Tryz.prog 273 #[.string t,.string ⟨#[45]⟩] W fun e w'=>e=.returned (.string u)∧w'=W) (hu:0<u.size) (hne:(t.toList==[48])=false) (hu0:(((u[0]'hu).toNat:Int)==48)=true):
  Calls Tryz.prog 215 #[.pointer (some ⟨b,0,none⟩)] W fun e W'=>e=.returned (.bool false)∧Inv w0 b s (f:Nat) (a:Nat) acc W':=by
 have HI:Hid (Inv w0 b s (f:Nat) (a:Nat) acc W):=hinv
 obtain⟨lv,hx,ho⟩:=hinv.cut
 obtain⟨c0,c1,c2,c3⟩:=hx.cells
 have HT:Hid (∀W,Calls Tryz.prog 273 #[.string t,.string ⟨#[45]⟩] W fun e w'=>e=.returned (.string u)∧w'=W):=hT
 clear hT
 clear hinv hx ho c3
 go_enter Tryz.func215,Tryz.ntmps215
 go_wp2
 go_quiet (fail)
 go_wp2_with (first|(go_at_call 273;refine(HT.out _).mono ?_;rintro e W' ⟨rfl,rfl⟩))
 go_ret
 exact⟨rfl,HI.out.drew nq⟩
set_option maxRecDepth 100000 in
set_option maxHeartbeats 1000000 in
theorem addNumB {w0 W:World} {b:Nat} {s:ByteArray} {f a:Nat} {acc:List Tok} {t:ByteArray} {v:Int} (hinv:Inv w0 b s (f:Nat) (a:Nat) acc W) (hs:s.size≤2000) (hfa:f≤a) (ha:a≤s.size) (hal:acc.length≤2000) (ht:s.extract f a=t)
  (heq:(t.toList==[48])=true) (hA:∀W,Calls Tryz.prog 274 #[.string t] W fun e w'=>e=.returned (.tuple #[.int .i64 v,.nilIface])∧Below W.heap.size W w') (hv1:-1000000000≤v) (hv2:v≤1000000000):
  Calls Tryz.prog 215 #[.pointer (some ⟨b,0,none⟩)] W fun e W'=>e=.returned (.bool true)∧Inv w0 b s (f:Nat) (a:Nat) (acc++[⟨2,s.extract f a,v⟩]) W':=by
 have HI:Hid (Inv w0 b s (f:Nat) (a:Nat) acc W):=hinv
 obtain⟨lv,hx,ho⟩:=hinv.cut
 obtain⟨c0,c1,c2,c3⟩:=hx.cells
 have HA:Hid (∀W,Calls Tryz.prog 274 #[.string t] W fun e w'=>e=.returned (.tuple #[.int .i64 v,.nilIface])∧Below W.heap.size W w'):=hA
 clear hA
 clear hinv hx ho c3
 go_enter Tryz.func215,Tryz.ntmps215
 go_wp2
 go_quiet (fail)
 go_wp2_with (first|(go_at_call 274;refine(HA.out _).mono ?_;rintro e W2 ⟨rfl,hb2⟩;have hI2:=Lib.hid ((HI.out.drew nq).old hb2);clear hb2)|(go_at_call 216;refine(add 2 v hI2.out hs hfa ha hal).mono ?_;rintro e W3 ⟨rfl,h3⟩))
 go_ret
 exact⟨rfl,h3⟩
set_option maxRecDepth 100000 in
set_option maxHeartbeats 1000000 in
theorem addNumC {w0 W:World} {b:Nat} {s:ByteArray} {f a:Nat} {acc:List Tok} {t:ByteArray} {u:ByteArray} (hinv:Inv w0 b s (f:Nat) (a:Nat) acc W) (hfa:f≤a) (ha:a≤s.size) (ht:s.extract f a=t)
  (hT:∀W,Calls Tryz.prog 273 #[.string t,.string ⟨#[45]⟩] W fun e w'=>e=.returned (.string u)∧w'=W) (hu:0<u.size) (hne:(t.toList==[48])=false) (hu0:(((u[0]'hu).toNat:Int)==48)=false) (hA:∀W,Below w0.heap.size w0 W→Calls Tryz.prog 274 #[.string t] W fun e w'=>∃N x,e=.returned (.tuple #[.int .i64 x,.iface 412 (.pointer (some ⟨N,0,none⟩))])∧Below W.heap.size W w'):
  Calls Tryz.prog 215 #[.pointer (some ⟨b,0,none⟩)] W fun e W'=>e=.returned (.bool false)∧Inv w0 b s (f:Nat) (a:Nat) acc W':=by
 have HI:Hid (Inv w0 b s (f:Nat) (a:Nat) acc W):=hinv
 obtain⟨lv,hx,ho⟩:=hinv.cut
 obtain⟨c0,c1,c2,c3⟩:=hx.cells
 have HT:Hid (∀W,Calls Tryz.prog 273 #[.string t,.string ⟨#[45]⟩] W fun e w'=>e=.returned (.string u)∧w'=W):=hT
 clear hT
 have HA:Hid (∀W,Below w0.heap.size w0 W→Calls Tryz.prog 274 #[.string t] W fun e w'=>∃N x,e=.returned (.tuple #[.int .i64 x,.iface 412 (.pointer (some ⟨N,0,none⟩))])∧Below W.heap.size W w'):=hA
 clear hA
 clear hinv hx ho c3
 go_enter Tryz.func215,Tryz.ntmps215
 go_wp2
 go_quiet (fail)
 go_wp2_with (first|(go_at_call 273;refine(HT.out _).mono ?_;rintro e W' ⟨rfl,rfl⟩)|(go_at_call 274;refine(HA.out _ (HI.out.drew nq).below).mono ?_;rintro e W2 ⟨N,x,rfl,hb2⟩;have hI2:=Lib.hid ((HI.out.drew nq).old hb2);clear hb2))
 go_ret
 exact⟨rfl,hI2.out⟩
set_option maxRecDepth 100000 in
set_option maxHeartbeats 1000000 in
theorem addNumD1 {w0 W:World} {b:Nat} {s:ByteArray} {f a:Nat} {acc:List Tok} {t:ByteArray} {u:ByteArray} {v:Int} (hinv:Inv w0 b s (f:Nat) (a:Nat) acc W) (hfa:f≤a) (ha:a≤s.size) (ht:s.extract f a=t)
  (hT:∀W,Calls Tryz.prog 273 #[.string t,.string ⟨#[45]⟩] W fun e w'=>e=.returned (.string u)∧w'=W) (hu:0<u.size) (hne:(t.toList==[48])=false) (hu0:(((u[0]'hu).toNat:Int)==48)=false) (hA:∀W,Calls Tryz.prog 274 #[.string t] W fun e w'=>e=.returned (.tuple #[.int .i64 v,.nilIface])∧Below W.heap.size W w') (hv:v < -1000000000):
  Calls Tryz.prog 215 #[.pointer (some ⟨b,0,none⟩)] W fun e W'=>e=.returned (.bool false)∧Inv w0 b s (f:Nat) (a:Nat) acc W':=by
 have HI:Hid (Inv w0 b s (f:Nat) (a:Nat) acc W):=hinv
 obtain⟨lv,hx,ho⟩:=hinv.cut
 obtain⟨c0,c1,c2,c3⟩:=hx.cells
 have HT:Hid (∀W,Calls Tryz.prog 273 #[.string t,.string ⟨#[45]⟩] W fun e w'=>e=.returned (.string u)∧w'=W):=hT
 clear hT
 have HA:Hid (∀W,Calls Tryz.prog 274 #[.string t] W fun e w'=>e=.returned (.tuple #[.int .i64 v,.nilIface])∧Below W.heap.size W w'):=hA
 clear hA
 clear hinv hx ho c3
 go_enter Tryz.func215,Tryz.ntmps215
 go_wp2
 go_quiet (fail)
 go_wp2_with (first|(go_at_call 273;refine(HT.out _).mono ?_;rintro e W' ⟨rfl,rfl⟩)|(go_at_call 274;refine(HA.out _).mono ?_;rintro e W2 ⟨rfl,hb2⟩;have hI2:=Lib.hid ((HI.out.drew nq).old hb2);clear hb2))
 go_ret
 exact⟨rfl,hI2.out⟩
set_option maxRecDepth 100000 in
set_option maxHeartbeats 1000000 in
theorem addNumD2 {w0 W:World} {b:Nat} {s:ByteArray} {f a:Nat} {acc:List Tok} {t:ByteArray} {u:ByteArray} {v:Int} (hinv:Inv w0 b s (f:Nat) (a:Nat) acc W) (hfa:f≤a) (ha:a≤s.size) (ht:s.extract f a=t)
  (hT:∀W,Calls Tryz.prog 273 #[.string t,.string ⟨#[45]⟩] W fun e w'=>e=.returned (.string u)∧w'=W) (hu:0<u.size) (hne:(t.toList==[48])=false) (hu0:(((u[0]'hu).toNat:Int)==48)=false) (hA:∀W,Calls Tryz.prog 274 #[.string t] W fun e w'=>e=.returned (.tuple #[.int .i64 v,.nilIface])∧Below W.heap.size W w') (hv:1000000000<v):
  Calls Tryz.prog 215 #[.pointer (some ⟨b,0,none⟩)] W fun e W'=>e=.returned (.bool false)∧Inv w0 b s (f:Nat) (a:Nat) acc W':=by
 have HI:Hid (Inv w0 b s (f:Nat) (a:Nat) acc W):=hinv
 obtain⟨lv,hx,ho⟩:=hinv.cut
 obtain⟨c0,c1,c2,c3⟩:=hx.cells
 have HT:Hid (∀W,Calls Tryz.prog 273 #[.string t,.string ⟨#[45]⟩] W fun e w'=>e=.returned (.string u)∧w'=W):=hT
 clear hT
 have HA:Hid (∀W,Calls Tryz.prog 274 #[.string t] W fun e w'=>e=.returned (.tuple #[.int .i64 v,.nilIface])∧Below W.heap.size W w'):=hA
 clear hA
 clear hinv hx ho c3
 go_enter Tryz.func215,Tryz.ntmps215
 go_wp2
 go_quiet (fail)
 go_wp2_with (first|(go_at_call 273;refine(HT.out _).mono ?_;rintro e W' ⟨rfl,rfl⟩)|(go_at_call 274;refine(HA.out _).mono ?_;rintro e W2 ⟨rfl,hb2⟩;have hI2:=Lib.hid ((HI.out.drew nq).old hb2);clear hb2))
 go_ret
 exact⟨rfl,hI2.out⟩
set_option maxRecDepth 100000 in
set_option maxHeartbeats 1000000 in
theorem addNumE {w0 W:World} {b:Nat} {s:ByteArray} {f a:Nat} {acc:List Tok} {t:ByteArray} {u:ByteArray} {v:Int} (hinv:Inv w0 b s (f:Nat) (a:Nat) acc W) (hs:s.size≤2000) (hfa:f≤a) (ha:a≤s.size) (hal:acc.length≤2000) (ht:s.extract f a=t)
  (hT:∀W,Calls Tryz.prog 273 #[.string t,.string ⟨#[45]⟩] W fun e w'=>e=.returned (.string u)∧w'=W) (hu:0<u.size) (hne:(t.toList==[48])=false) (hu0:(((u[0]'hu).toNat:Int)==48)=false) (hA:∀W,Calls Tryz.prog 274 #[.string t] W fun e w'=>e=.returned (.tuple #[.int .i64 v,.nilIface])∧Below W.heap.size W w') (hv1:-1000000000≤v) (hv2:v≤1000000000):
  Calls Tryz.prog 215 #[.pointer (some ⟨b,0,none⟩)] W fun e W'=>e=.returned (.bool true)∧Inv w0 b s (f:Nat) (a:Nat) (acc++[⟨2,s.extract f a,v⟩]) W':=by
 have HI:Hid (Inv w0 b s (f:Nat) (a:Nat) acc W):=hinv
 obtain⟨lv,hx,ho⟩:=hinv.cut
 obtain⟨c0,c1,c2,c3⟩:=hx.cells
 have HT:Hid (∀W,Calls Tryz.prog 273 #[.string t,.string ⟨#[45]⟩] W fun e w'=>e=.returned (.string u)∧w'=W):=hT
 clear hT
 have HA:Hid (∀W,Calls Tryz.prog 274 #[.string t] W fun e w'=>e=.returned (.tuple #[.int .i64 v,.nilIface])∧Below W.heap.size W w'):=hA
 clear hA
 clear hinv hx ho c3
 go_enter Tryz.func215,Tryz.ntmps215
 go_wp2
 go_quiet (fail)
 go_wp2_with (first|(go_at_call 273;refine(HT.out _).mono ?_;rintro e W' ⟨rfl,rfl⟩)|(go_at_call 274;refine(HA.out _).mono ?_;rintro e W2 ⟨rfl,hb2⟩;have hI2:=Lib.hid ((HI.out.drew nq).old hb2);clear hb2)|(go_at_call 216;refine(add 2 v hI2.out hs hfa ha hal).mono ?_;rintro e W3 ⟨rfl,h3⟩))
 go_ret
 exact⟨rfl,h3⟩
theorem trimPlain (t:ByteArray) (h0:0<t.size) (h:bt t 0≠45) (w:World):Calls Tryz.prog 273 #[.string t,.string ⟨#[45]⟩] w fun e w'=>e=.returned (.string t)∧w'=w:=by
 have:=Tryz.strings_TrimPrefix t ⟨#[45]⟩ w
 have e:(⟨(Lib.trimPrefix t.data.toList (⟨#[45]⟩:ByteArray).data.toList).toArray⟩:ByteArray)=t:=by
  obtain⟨c,r,hc,hb,-,-⟩:=cons_of h0
  have hn:Lib.trimPrefix t.data.toList [45]=t.data.toList:=by
   unfold Lib.trimPrefix
   rw[if_neg]
   rw[hc]
   unfold Lib.hasPrefix
   intro hp
   simp[List.isPrefixOf] at hp
   subst hp
   apply h;rw[←hb];rfl
  show (⟨(Lib.trimPrefix t.data.toList [45]).toArray⟩:ByteArray)=t
  rw[hn]
 rw[e] at this;exact this
def tailOf (t:ByteArray):ByteArray:=⟨(t.data.toList.drop 1).toArray⟩
theorem tail_size (t:ByteArray):(tailOf t).size=t.size - 1:=by
 have:(tailOf t).data.toList.length=(tailOf t).size:=len_toList _
 rw[←this]
 show ((t.data.toList.drop 1).toArray).toList.length=_
 rw[List.toList_toArray,List.length_drop,len_toList]
theorem tail_bt (t:ByteArray) (h:1<t.size):bt (tailOf t) 0=bt t 1:=by
 have h1:0<(tailOf t).data.toList.length:=by rw[len_toList,tail_size];omega
 rw[bt_get h1,bt_get (s:=t) (k:=1) (by rw[len_toList];exact h)]
 have:(tailOf t).data.toList=t.data.toList.drop 1:=by
  show ((t.data.toList.drop 1).toArray).toList=_
  rw[List.toList_toArray]
 simp only[this,List.getElem_drop]
theorem trimSign (t:ByteArray) (h0:0<t.size) (h:bt t 0=45) (w:World):Calls Tryz.prog 273 #[.string t,.string ⟨#[45]⟩] w fun e w'=>e=.returned (.string (tailOf t))∧w'=w:=by
 have:=Tryz.strings_TrimPrefix t ⟨#[45]⟩ w
 have e:(⟨(Lib.trimPrefix t.data.toList (⟨#[45]⟩:ByteArray).data.toList).toArray⟩:ByteArray)=tailOf t:=by
  obtain⟨c,r,hc,hb,-,-⟩:=cons_of h0
  have hc45:c=45:=UInt8.toNat_inj.1 (by show c.toNat=45;omega)
  have hn:Lib.trimPrefix t.data.toList [45]=t.data.toList.drop 1:=by
   unfold Lib.trimPrefix
   rw[if_pos]
   ·rfl
   ·rw[hc,hc45]
    unfold Lib.hasPrefix
    simp[List.isPrefixOf]
  show (⟨(Lib.trimPrefix t.data.toList [45]).toArray⟩:ByteArray)=_
  rw[hn];rfl
 rw[e] at this;exact this
theorem atoiOk (t:ByteArray) (v:Int) (hz:t.size≤2000) (h:Lib.atoiAll t.data.toList=.ok v) (W:World):Calls Tryz.prog 274 #[.string t] W fun e w'=>e=.returned (.tuple #[.int .i64 v,.nilIface])∧Below W.heap.size W w':=by
 refine(Tryz.strconv_Atoi_ok t (by omega) v h W).mono ?_
 rintro e w' ⟨he,hw|⟨x,hw⟩⟩
 ·subst hw;exact⟨he,Below.refl _ _⟩
 ·subst hw;exact⟨he,Lib.bytesWorld_below _ _ _⟩
theorem atoiRange {w0:World} {ev:Value} (hv:w0.cell? ⟨5,0,none⟩=some ev) (hev:ev=.nilIface∨∃te pe,ev=.iface te pe) (t:ByteArray) (hz:t.size≤2000) (h:Lib.atoiAll t.data.toList=.range) (W:World) (hB:Below w0.heap.size w0 W):
  Calls Tryz.prog 274 #[.string t] W fun e w'=>∃N x,e=.returned (.tuple #[.int .i64 x,.iface 412 (.pointer (some ⟨N,0,none⟩))])∧Below W.heap.size W w':=by
 have hlt:=Lib.lt_of_cell hv
 refine(Tryz.strconv_Atoi_range t (by omega) h ev W ((hB.cell hlt).trans hv) hev).mono ?_
 rintro e w' ⟨N,he,-,-,hb⟩
 exact⟨N,_,he,hb⟩
theorem zero_iff (t:ByteArray):(t.toList==[48])=true↔t.size=1∧bt t 0=48:=by
 rw[ByteArray.toList_eq]
 constructor
 ·intro h
  have h:t.data.toList=[48]:=by simpa using h
  have hl:=len_toList t
  have hb:=bt_get (s:=t) (k:=0) (by rw[h];simp)
  simp only[h] at hb
  rw[h] at hl
  exact⟨by simpa using hl.symm,by rw[hb];rfl⟩
 ·rintro ⟨h1,h2⟩
  obtain⟨c,r,hc,hb,-,hr⟩:=cons_of (s:=t) (by omega)
  have hr0:r=[]:=List.eq_nil_of_length_eq_zero (by omega)
  have hc48:c=48:=UInt8.toNat_inj.1 (by show c.toNat=48;omega)
  rw[hc,hr0,hc48];rfl
theorem ne_zero {t:ByteArray} (h:¬(t.size=1∧bt t 0=48)):(t.toList==[48])=false:=by
 cases hx:(t.toList==[48]) with
 | true=>exact absurd ((zero_iff t).1 hx) h
 | false=>rfl
theorem first_is {u:ByteArray} (hu:0<u.size) (h:bt u 0=48):(((u[0]'hu).toNat:Int)==48)=true:=by rw[bt_in hu,h];rfl
theorem first_not {u:ByteArray} (hu:0<u.size) (h:bt u 0≠48):(((u[0]'hu).toNat:Int)==48)=false:=by rw[bt_in hu];simpa using h
theorem addNumberSome {w0 W:World} {b:Nat} {s:ByteArray} {f a:Nat} {acc:List Tok} {t:ByteArray} {v:Int} (hinv:Inv w0 b s (f:Nat) (a:Nat) acc W) (hs:s.size≤2000) (hfa:f≤a) (ha:a≤s.size) (hal:acc.length≤2000) (ht:s.extract f a=t)
  (hn:Numeral t) (hv:numL t.data.toList=some v):
  Calls Tryz.prog 215 #[.pointer (some ⟨b,0,none⟩)] W fun e W'=>e=.returned (.bool true)∧Inv w0 b s (f:Nat) (a:Nat) (acc++[⟨2,s.extract f a,v⟩]) W':=by
 have hz:t.size≤2000:=by rw[←ht,size_extract' _ _ _ ha];omega
 rcases hn with ⟨h0,hd⟩|⟨h1,h45,hd⟩
 ·have hb:=hd 0 h0
  by_cases hbad:(bt t 0=48∧1<t.size)∨1000000000<(digs 0 t.data.toList:Nat)
  ·rw[numL_plain_bad h0 (by omega) hbad] at hv;cases hv
  ·have hok:=numL_plain_ok h0 (by omega) (by omega) (by omega)
   rw[hok] at hv
   injection hv with hv
   have hat:Lib.atoiAll t.data.toList=.ok v:=by
    rcases atoi_plain h0 hd with h|⟨_,h⟩
    ·rw[h,hv]
    ·omega
   by_cases hzr:t.size=1∧bt t 0=48
   ·exact addNumB hinv hs hfa ha hal ht ((zero_iff t).2 hzr) (atoiOk t v hz hat) (by omega) (by omega)
   ·exact addNumE hinv hs hfa ha hal ht (trimPlain t h0 (by omega)) h0 (ne_zero hzr) (first_not h0 (by omega)) (atoiOk t v hz hat) (by omega) (by omega)
 ·by_cases hbad:bt t 1=48∨1000000000<(digs 0 (t.data.toList.drop 1):Nat)
  ·rw[numL_sign_bad h1 h45 hbad] at hv;cases hv
  ·have hok:=numL_sign_ok h1 h45 (by omega) (by omega)
   rw[hok] at hv
   injection hv with hv
   have hat:Lib.atoiAll t.data.toList=.ok v:=by
    rcases atoi_sign h1 h45 hd with h|⟨_,h⟩
    ·rw[h,hv]
    ·omega
   have hu:0<(tailOf t).size:=by rw[tail_size];omega
   exact addNumE hinv hs hfa ha hal ht (trimSign t (by omega) h45) hu (ne_zero (by omega)) (first_not hu (by rw[tail_bt t h1];omega)) (atoiOk t v hz hat) (by omega) (by omega)
theorem addNumberNone {w0 W:World} {ev:Value} (hg:w0.cell? ⟨5,0,none⟩=some ev) (hev:ev=.nilIface∨∃te pe,ev=.iface te pe) {b:Nat} {s:ByteArray} {f a:Nat} {acc:List Tok} {t:ByteArray} (hinv:Inv w0 b s (f:Nat) (a:Nat) acc W) (hs:s.size≤2000) (hfa:f≤a) (ha:a≤s.size) (ht:s.extract f a=t)
  (hn:Numeral t) (hv:numL t.data.toList=none):
  Calls Tryz.prog 215 #[.pointer (some ⟨b,0,none⟩)] W fun e W'=>e=.returned (.bool false)∧Inv w0 b s (f:Nat) (a:Nat) acc W':=by
 have hz:t.size≤2000:=by rw[←ht,size_extract' _ _ _ ha];omega
 rcases hn with ⟨h0,hd⟩|⟨h1,h45,hd⟩
 ·have hb:=hd 0 h0
  by_cases hzr:bt t 0=48∧1<t.size
  ·exact addNumA hinv hfa ha ht (trimPlain t h0 (by omega)) h0 (ne_zero (by omega)) (first_is h0 hzr.1)
  ·have hbig:1000000000<(digs 0 t.data.toList:Nat):=by
    by_cases h:1000000000<(digs 0 t.data.toList:Nat)
    ·exact h
    ·rw[numL_plain_ok h0 (by omega) hzr (by omega)] at hv;cases hv
   have hn0:¬(t.size=1∧bt t 0=48):=by
    rintro ⟨ha1,hb1⟩
    have h2:=dn_whole t 0 (fun j _=>hd j) (by omega)
    rw[ha1,List.drop_zero] at h2
    have h3:dn t 0 1=10*0+(bt t (0+0) - 48):=by simp only[dn]
    rw[Nat.add_zero,hb1] at h3
    have:dn t 0 (1 - 0)=dn t 0 1:=by rfl
    omega
   have h48:bt t 0≠48:=by intro h;omega
   rcases atoi_plain h0 hd with h|⟨h,_⟩
   ·exact addNumD2 hinv hfa ha ht (trimPlain t h0 (by omega)) h0 (ne_zero hn0) (first_not h0 h48) (atoiOk t _ hz h) (by omega)
   ·exact addNumC hinv hfa ha ht (trimPlain t h0 (by omega)) h0 (ne_zero hn0) (first_not h0 h48) (fun W hB=>atoiRange hg hev t hz h W hB)
 ·have hu:0<(tailOf t).size:=by rw[tail_size];omega
  by_cases h48:bt t 1=48
  ·exact addNumA hinv hfa ha ht (trimSign t (by omega) h45) hu (ne_zero (by omega)) (first_is hu (by rw[tail_bt t h1];exact h48))
  ·have hbig:1000000000<(digs 0 (t.data.toList.drop 1):Nat):=by
    by_cases h:1000000000<(digs 0 (t.data.toList.drop 1):Nat)
    ·exact h
    ·rw[numL_sign_ok h1 h45 h48 (by omega)] at hv;cases hv
   rcases atoi_sign h1 h45 hd with h|⟨h,_⟩
   ·exact addNumD1 hinv hfa ha ht (trimSign t (by omega) h45) hu (ne_zero (by omega)) (first_not hu (by rw[tail_bt t h1];exact h48)) (atoiOk t _ hz h) (by omega)
   ·exact addNumC hinv hfa ha ht (trimSign t (by omega) h45) hu (ne_zero (by omega)) (first_not hu (by rw[tail_bt t h1];exact h48)) (fun W hB=>atoiRange hg hev t hz h W hB)
end Go.Proofs.YtobgbmfpicmpcaaGreatDoor

/- The program's 'opening': in which state a token's first byte puts the machine. -/
namespace Go.Proofs.YtobgbmfpicmpcaaGreatDoor
open Go.RowKit
def openN (c:Int):Int:=
 if c=45 then 3 else if c=93 then 4 else if c=46 then 5 else if c=60 then 6 else if c=62 then 7
 else if c=40∨c=41∨c=58∨c=44∨c=61∨c=42∨c=123∨c=125 then 8
 else if letB c then 1 else if digB c then 2 else 0
set_option maxRecDepth 100000 in
set_option maxHeartbeats 1000000 in
theorem opening (c:Int) (w:World):Calls Tryz.prog 213 #[.int .u8 c] w fun e w'=>e=.returned (.int .i64 (openN c))∧w'=w:=by
 by_cases hs:c=45∨c=93∨c=46∨c=60∨c=62∨c=40∨c=41∨c=58∨c=44∨c=61∨c=42∨c=123∨c=125
 ·rcases hs with rfl|rfl|rfl|rfl|rfl|rfl|rfl|rfl|rfl|rfl|rfl|rfl|rfl
  all_goals
   go_enter Tryz.func213,Tryz.ntmps213
   go_wp2
   go_ret
   exact⟨rfl,rfl⟩
 ·have ho:openN c=if letB c then 1 else if digB c then 2 else 0:=by
   unfold openN
   rw[if_neg (by omega),if_neg (by omega),if_neg (by omega),if_neg (by omega),if_neg (by omega),if_neg (by omega)]
  have h1:(c==45)=false:=by simp;omega
  have h2:(c==93)=false:=by simp;omega
  have h3:(c==46)=false:=by simp;omega
  have h4:(c==60)=false:=by simp;omega
  have h5:(c==62)=false:=by simp;omega
  have h6:(c==40)=false:=by simp;omega
  have h7:(c==41)=false:=by simp;omega
  have h8:(c==58)=false:=by simp;omega
  have h9:(c==44)=false:=by simp;omega
  have h10:(c==61)=false:=by simp;omega
  have h11:(c==42)=false:=by simp;omega
  have h12:(c==123)=false:=by simp;omega
  have h13:(c==125)=false:=by simp;omega
  clear hs
  cases hl:letB c with
  | true=>
   rw[hl] at ho
   rw[ho]
   clear ho
   go_enter Tryz.func213,Tryz.ntmps213
   go_wp2_with (first|(go_at_call 204;refine(isLetter _ _).mono ?_;rintro e w' ⟨rfl,rfl⟩)|(go_at_call 205;refine(isDigit _ _).mono ?_;rintro e w' ⟨rfl,rfl⟩))
   go_ret
   exact⟨rfl,rfl⟩
  | false=>
   rw[hl] at ho
   cases hd:digB c with
   | true=>
    rw[hd] at ho
    rw[ho]
    clear ho
    go_enter Tryz.func213,Tryz.ntmps213
    go_wp2_with (first|(go_at_call 204;refine(isLetter _ _).mono ?_;rintro e w' ⟨rfl,rfl⟩)|(go_at_call 205;refine(isDigit _ _).mono ?_;rintro e w' ⟨rfl,rfl⟩))
    go_ret
    exact⟨rfl,rfl⟩
   | false=>
    rw[hd] at ho
    rw[ho]
    clear ho
    go_enter Tryz.func213,Tryz.ntmps213
    go_wp2_with (first|(go_at_call 204;refine(isLetter _ _).mono ?_;rintro e w' ⟨rfl,rfl⟩)|(go_at_call 205;refine(isDigit _ _).mono ?_;rintro e w' ⟨rfl,rfl⟩))
    go_ret
    exact⟨rfl,rfl⟩
end Go.Proofs.YtobgbmfpicmpcaaGreatDoor

/- A scope in which the run jumps among several labels: what holds at each jump bears a number that every pass lowers. Of no program. -/
namespace Go.Proofs.YtobgbmfpicmpcaaGreatDoor
open Go
def ExitJumps (J:Nat→Act→World→Prop) (Q:Exit→Act→World→Prop):Exit→Act→World→Prop
 | .goto l,a,w=>J l a w
 | e,a,w=>Q e a w
section
variable {P:Program} {a:Act} {w:World} {Q:Exit→Act→World→Prop}
theorem wp_scope_labels {c:Code} (J:Nat→Nat→Act→World→Prop)
  (first:c.wp P (ExitJumps (fun l a' w'=>∃n,J l n a' w') Q) a w)
  (pass:∀n l a w,J l n a w→∃rest,findLabel c l=some rest∧rest.wp P (ExitJumps (fun l' a' w'=>∃n',n'<n∧J l' n' a' w') Q) a w):(Code.scope c).wp P Q a w:=by
 intro b k cs
 have key:∀n l a w,J l n a w→∃rest e a' w',findLabel c l=some rest∧Q e a' w'∧Arrives P (lone (b.at a (.code rest::.inScope c::k)) cs w) b k cs e a' w':=by
  intro n
  induction n using Nat.strongRecOn with
  | _ n ih=>
   intro l a w hJ
   obtain⟨rest,hf,hrest⟩:=pass n l a w hJ
   obtain⟨e,a₁,w₁,hq,harr⟩:=hrest b (.inScope c::k) cs
   refine⟨rest,?_⟩
   cases e with
   | normal=>exact⟨.normal,a₁,w₁,hf,hq,Steps.trans harr (.one step_inScope)⟩
   | exit id=>exact⟨.exit id,a₁,w₁,hf,hq,fun k' hk=>harr k' (by simp[exitTo,hk])⟩
   | goto l'=>
    obtain⟨n',hlt,hJ'⟩:=hq
    obtain⟨rest',e₂,a₂,w₂,hf',hq₂,harr₂⟩:=ih n' hlt l' a₁ w₁ hJ'
    have hg:gotoIn l' (.inScope c::k)=some (.code rest'::.inScope c::k):=by simp[gotoIn,hf']
    exact⟨e₂,a₂,w₂,hf,hq₂,.of_steps (harr _ hg) harr₂⟩
   | ret=>exact⟨_,a₁,w₁,hf,hq,harr⟩
   | panic ch=>exact⟨_,a₁,w₁,hf,hq,harr⟩
   | outgrown=>exact⟨_,a₁,w₁,hf,hq,harr⟩
 obtain⟨e,a₁,w₁,hq,harr⟩:=first b (.inScope c::k) cs
 cases e with
 | normal=>exact⟨.normal,a₁,w₁,hq,.head step_scope (Steps.trans harr (.one step_inScope))⟩
 | exit id=>exact⟨.exit id,a₁,w₁,hq,fun k' hk=>.head step_scope (harr k' (by simp[exitTo,hk]))⟩
 | goto l'=>
  obtain⟨n',hJ'⟩:=hq
  obtain⟨rest',e₂,a₂,w₂,hf',hq₂,harr₂⟩:=key n' l' a₁ w₁ hJ'
  have hg:gotoIn l' (.inScope c::k)=some (.code rest'::.inScope c::k):=by simp[gotoIn,hf']
  exact⟨e₂,a₂,w₂,hq₂,.of_steps (.head step_scope (harr _ hg)) harr₂⟩
 | ret=>exact⟨_,a₁,w₁,hq,.of_steps (.one step_scope) harr⟩
 | panic ch=>exact⟨_,a₁,w₁,hq,.of_steps (.one step_scope) harr⟩
 | outgrown=>exact⟨_,a₁,w₁,hq,.of_steps (.one step_scope) harr⟩
end
end Go.Proofs.YtobgbmfpicmpcaaGreatDoor

/- The program's 'token': the machine of states cuts the token that begins at its place, or tells that there is none. -/
namespace Go.Proofs.YtobgbmfpicmpcaaGreatDoor
open Go.RowKit
def Fr (b:Nat) (a:Act):Prop:=
 ∃u3 u4 u5 u6 u7 u8 u9 u10 u11 u12 u13 u14 u15 u16 u17 u18 u19 u20 u21 u22 u23 u24 u25 u26 u27 u28 u29 u30 u31 u32 u33 u34 u35 u36 u37 u38 u39 u40 u41 u42 u43 u44 u45 u46 u47 u48 u49 u50 u51 u52 u53 u54 u55 u56 u57 u58 u59 u60 u61 u62 u63 u64 u65 u66 u67 u68 u69 u70 u71 u72:Value,a={tmps:=#[.pointer (some ⟨b,0,none⟩),undef,.bool false,u3,u4,u5,u6,u7,u8,u9,u10,u11,u12,u13,u14,u15,u16,u17,u18,u19,u20,u21,u22,u23,u24,u25,u26,u27,u28,u29,u30,u31,u32,u33,u34,u35,u36,u37,u38,u39,u40,u41,u42,u43,u44,u45,u46,u47,u48,u49,u50,u51,u52,u53,u54,u55,u56,u57,u58,u59,u60,u61,u62,u63,u64,u65,u66,u67,u68,u69,u70,u71,u72],defers:=[]}
def JT (w0:World) (b:Nat) (s:ByteArray) (k:Nat) (acc:List Tok) (l n:Nat) (a:Act) (W:World):Prop:=
 Fr b a∧match l with
 | 0=>∃e:Nat,k<e∧e≤s.size∧n=s.size - e+1∧span alnB s e=span alnB s k∧letB (bt s k)=true∧Inv w0 b s (k:Nat) (e:Nat) acc W
 | 1=>∃e:Nat,k<e∧e≤s.size∧n=s.size - e+1∧span digB s e=span digB s (k+1)∧NumBegin s k∧letB (bt s k)=false∧Inv w0 b s (k:Nat) (e:Nat) acc W
 | 2=>n=s.size+2∧bt s k=45∧Inv w0 b s (k:Nat) ((k+1:Nat):Int) acc W
 | 3=>n=1∧bt s k=93∧Inv w0 b s (k:Nat) ((k+1:Nat):Int) acc W
 | 4=>n=1∧bt s k=46∧Inv w0 b s (k:Nat) ((k+1:Nat):Int) acc W
 | 5=>n=2∧bt s k=60∧Inv w0 b s (k:Nat) ((k+1:Nat):Int) acc W
 | 6=>n=1∧(bt s k=62∨(bt s k=60∧bt s (k+1)≠62))∧Inv w0 b s (k:Nat) ((k+1:Nat):Int) acc W
 | 7=>n=0∧letB (bt s k)=false∧¬NumBegin s k∧0<markLen s k∧Inv w0 b s (k:Nat) ((k+markLen s k:Nat):Int) acc W
 | _=>False
def TokenPost (w0:World) (b:Nat) (s:ByteArray) (k:Nat) (acc:List Tok) (e:Ending) (W:World):Prop:=
 (e=.returned (.bool true)∧∃en t,one s k=some (en,t)∧Inv w0 b s (k:Nat) (en:Nat) (acc++[t]) W)∨
 (e=.returned (.bool false)∧one s k=none∧Below w0.heap.size w0 W)
def OpenIs (c o:Int):Prop:=
 (o=0→letB c=false∧digB c=false∧c≠45∧c≠93∧c≠46∧c≠60∧c≠62∧c≠40∧c≠41∧c≠58∧c≠44∧c≠61∧c≠42∧c≠123∧c≠125)∧
 (o=1→letB c=true)∧(o=2→digB c=true∧letB c=false)∧(o=3→c=45)∧(o=4→c=93)∧(o=5→c=46)∧(o=6→c=60)∧(o=7→c=62)∧
 (o=8→c=40∨c=41∨c=58∨c=44∨c=61∨c=42∨c=123∨c=125)
theorem openIs (c:Int):OpenIs c (openN c):=by
 unfold OpenIs openN
 by_cases h1:c=45
 ·subst h1;simp
 by_cases h2:c=93
 ·subst h2;simp
 by_cases h3:c=46
 ·subst h3;simp
 by_cases h4:c=60
 ·subst h4;simp
 by_cases h5:c=62
 ·subst h5;simp
 rw[if_neg h1,if_neg h2,if_neg h3,if_neg h4,if_neg h5]
 by_cases h6:c=40∨c=41∨c=58∨c=44∨c=61∨c=42∨c=123∨c=125
 ·rw[if_pos h6];simp;exact h6
 ·rw[if_neg h6]
  cases hl:letB c with
  | true=>simp
  | false=>
   cases hd:digB c with
   | true=>simp
   | false=>simp;omega
theorem ne_of_beq_false {x y:Int} (h:(x==y)=false):x≠y:=by simpa using h
theorem open_nine (c:Int):openN c=0∨openN c=1∨openN c=2∨openN c=3∨openN c=4∨openN c=5∨openN c=6∨openN c=7∨openN c=8:=by
 unfold openN;repeat' split
 all_goals simp
theorem not_num {s:ByteArray} {k:Nat} (h1:¬(48≤bt s k∧bt s k≤57)) (h2:bt s k≠45∨digB (bt s (k+1))=false):¬NumBegin s k:=by
 rintro (h|⟨h,h3⟩)
 ·exact h1 (of_digB h)
 ·rcases h2 with h2|h2
  ·exact h2 h
  ·rw[h2] at h3;cases h3
theorem mark0 {s:ByteArray} {k:Nat} (h:bt s k≠45∧bt s k≠93∧bt s k≠46∧bt s k≠60∧bt s k≠62∧bt s k≠40∧bt s k≠41∧bt s k≠58∧bt s k≠44∧bt s k≠61∧bt s k≠42∧bt s k≠123∧bt s k≠125):markLen s k=0:=by
 unfold markLen
 simp only
 repeat' split
 all_goals omega
theorem mark1 {s:ByteArray} {k:Nat} (h:bt s k=40∨bt s k=41∨bt s k=58∨bt s k=44∨bt s k=61∨bt s k=42∨bt s k=123∨bt s k=125):markLen s k=1:=by
 unfold markLen
 simp only
 repeat' split
 all_goals omega
set_option maxRecDepth 100000 in
set_option maxHeartbeats 2000000 in
theorem token {w0 W:World} {ev:Value} (hg:w0.cell? ⟨5,0,none⟩=some ev) (hev:ev=.nilIface∨∃te pe,ev=.iface te pe) {b:Nat} {s:ByteArray} {f:Int} {k:Nat} {acc:List Tok}
  (hinv:Inv w0 b s f (k:Nat) acc W) (hs:s.size≤2000) (hk:k<s.size) (hal:acc.length≤2000):
  Calls Tryz.prog 154 #[.pointer (some ⟨b,0,none⟩)] W (TokenPost w0 b s k acc):=by
 have HG:Hid (w0.cell? ⟨5,0,none⟩=some ev):=hg
 have HEV:Hid (ev=.nilIface∨∃te pe,ev=.iface te pe):=hev
 clear hg hev
 go_enter Tryz.func154,Tryz.ntmps154
 go_wp2
 refine wp_scope_labels (JT w0 b s k acc) ?_ ?_
 ·have HI:Hid (Inv w0 b s f (k:Nat) acc W):=hinv
  obtain⟨lv,hx,ho⟩:=hinv.cut
  obtain⟨c0,c1,c2,c3⟩:=hx.cells
  have f1:=hx.free 1
  have f2:=hx.free 2
  clear hinv hx ho c3
  go_wp2
  have hI1:Inv w0 b s (k:Nat) ((k+1:Nat):Int) acc ((W.setCell ⟨b,1,none⟩ (.int .i64 (k:Int))).setCell ⟨b,2,none⟩ (.int .i64 ((k:Int)+1))):=by
   rw[show ((k+1:Nat):Int)=(k:Int)+1 from by omega]
   exact(HI.out.setFrom (k:Int)).setAt ((k:Int)+1)
  generalize (W.setCell ⟨b,1,none⟩ (.int .i64 (k:Int))).setCell ⟨b,2,none⟩ (.int .i64 ((k:Int)+1))=W1 at hI1⊢
  clear HI c0 c1 c2 f1 f2
  have HI:Hid (Inv w0 b s (k:Nat) ((k+1:Nat):Int) acc W1):=hI1
  obtain⟨lv1,hx,ho⟩:=hI1.cut
  obtain⟨c0,c1,c2,c3⟩:=hx.cells
  clear hI1 hx ho c2 c3
  have HC:Hid (OpenIs (bt s k) (openN (bt s k))):=openIs _
  have hopen:=open_nine ((s[k]'hk).toNat:Int)
  go_quiet ((go_at_call 213;exact Calls.quiet_of_same (opening _ _)))
  rcases hopen with ho|ho|ho|ho|ho|ho|ho|ho|ho
  all_goals
   have HO:Hid (OpenIs (bt s k) (openN ((s[k]'hk).toNat:Int))):=by rw[bt_in hk];exact HC.out
   rw[ho] at HO
   clear HC
  ·go_wp2
   simp only[ExitJumps]
   go_ret
   obtain⟨h1,h2,h3⟩:=HO.out.1 rfl
   have h4:=of_digB_no h2
   exact Or.inr ⟨rfl,one_mark_bad h1 (not_num h4 (Or.inl h3.1)) (mark0 h3),(HI.out.drew nq).below⟩
  ·go_wp2
   go_step3
   have h1:=HO.out.2.1 rfl
   exact⟨_,⟨_,_,_,_,_,_,_,_,_,_,_,_,_,_,_,_,_,_,_,_,_,_,_,_,_,_,_,_,_,_,_,_,_,_,_,_,_,_,_,_,_,_,_,_,_,_,_,_,_,_,_,_,_,_,_,_,_,_,_,_,_,_,_,_,_,_,_,_,_,_,rfl⟩,k+1,by omega,by omega,rfl,(span_go hk (by unfold alnB;rw[h1];rfl)).symm,h1,HI.out.drew nq⟩
  ·go_wp2
   go_step3
   have h1:=HO.out.2.2.1 rfl
   exact⟨_,⟨_,_,_,_,_,_,_,_,_,_,_,_,_,_,_,_,_,_,_,_,_,_,_,_,_,_,_,_,_,_,_,_,_,_,_,_,_,_,_,_,_,_,_,_,_,_,_,_,_,_,_,_,_,_,_,_,_,_,_,_,_,_,_,_,_,_,_,_,_,_,rfl⟩,k+1,by omega,by omega,rfl,rfl,Or.inl h1.1,h1.2,HI.out.drew nq⟩
  ·go_wp2
   go_step3
   exact⟨_,⟨_,_,_,_,_,_,_,_,_,_,_,_,_,_,_,_,_,_,_,_,_,_,_,_,_,_,_,_,_,_,_,_,_,_,_,_,_,_,_,_,_,_,_,_,_,_,_,_,_,_,_,_,_,_,_,_,_,_,_,_,_,_,_,_,_,_,_,_,_,_,rfl⟩,rfl,HO.out.2.2.2.1 rfl,HI.out.drew nq⟩
  ·go_wp2
   go_step3
   exact⟨_,⟨_,_,_,_,_,_,_,_,_,_,_,_,_,_,_,_,_,_,_,_,_,_,_,_,_,_,_,_,_,_,_,_,_,_,_,_,_,_,_,_,_,_,_,_,_,_,_,_,_,_,_,_,_,_,_,_,_,_,_,_,_,_,_,_,_,_,_,_,_,_,rfl⟩,rfl,HO.out.2.2.2.2.1 rfl,HI.out.drew nq⟩
  ·go_wp2
   go_step3
   exact⟨_,⟨_,_,_,_,_,_,_,_,_,_,_,_,_,_,_,_,_,_,_,_,_,_,_,_,_,_,_,_,_,_,_,_,_,_,_,_,_,_,_,_,_,_,_,_,_,_,_,_,_,_,_,_,_,_,_,_,_,_,_,_,_,_,_,_,_,_,_,_,_,_,rfl⟩,rfl,HO.out.2.2.2.2.2.1 rfl,HI.out.drew nq⟩
  ·go_wp2
   go_step3
   exact⟨_,⟨_,_,_,_,_,_,_,_,_,_,_,_,_,_,_,_,_,_,_,_,_,_,_,_,_,_,_,_,_,_,_,_,_,_,_,_,_,_,_,_,_,_,_,_,_,_,_,_,_,_,_,_,_,_,_,_,_,_,_,_,_,_,_,_,_,_,_,_,_,_,rfl⟩,rfl,HO.out.2.2.2.2.2.2.1 rfl,HI.out.drew nq⟩
  ·go_wp2
   go_step3
   exact⟨_,⟨_,_,_,_,_,_,_,_,_,_,_,_,_,_,_,_,_,_,_,_,_,_,_,_,_,_,_,_,_,_,_,_,_,_,_,_,_,_,_,_,_,_,_,_,_,_,_,_,_,_,_,_,_,_,_,_,_,_,_,_,_,_,_,_,_,_,_,_,_,_,rfl⟩,rfl,Or.inl (HO.out.2.2.2.2.2.2.2.1 rfl),HI.out.drew nq⟩
  ·go_wp2
   go_step3
   have h1:=HO.out.2.2.2.2.2.2.2.2 rfl
   have h2:=mark1 h1
   exact⟨_,⟨_,_,_,_,_,_,_,_,_,_,_,_,_,_,_,_,_,_,_,_,_,_,_,_,_,_,_,_,_,_,_,_,_,_,_,_,_,_,_,_,_,_,_,_,_,_,_,_,_,_,_,_,_,_,_,_,_,_,_,_,_,_,_,_,_,_,_,_,_,_,rfl⟩,rfl,letB_no (by omega),not_num (by omega) (Or.inl (by omega)),by omega,by rw[h2];exact HI.out.drew nq⟩
 ·intro n l a' W' hJ
  obtain⟨hfr,hj⟩:=hJ
  obtain⟨u3,u4,u5,u6,u7,u8,u9,u10,u11,u12,u13,u14,u15,u16,u17,u18,u19,u20,u21,u22,u23,u24,u25,u26,u27,u28,u29,u30,u31,u32,u33,u34,u35,u36,u37,u38,u39,u40,u41,u42,u43,u44,u45,u46,u47,u48,u49,u50,u51,u52,u53,u54,u55,u56,u57,u58,u59,u60,u61,u62,u63,u64,u65,u66,u67,u68,u69,u70,u71,u72,rfl⟩:=hfr
  match l,hj with
  | 0,hj=>
   obtain⟨e,he1,he2,rfl,hsp,hl,hI⟩:=hj
   have HI:Hid (Inv w0 b s (k:Nat) (e:Nat) acc W'):=hI
   have HSP:Hid (span alnB s e=span alnB s k):=hsp
   have HL:Hid (letB (bt s k)=true):=hl
   clear hI hsp hl
   refine⟨_,rfl,?_⟩
   cases hel:letB (bt s e) with
   | true=>
    have HX:Hid (letB (bt s e)=true):=hel
    have het:e<s.size:=lt_of_class hel letB_end
    have HST:Hid (span alnB s (e+1)=span alnB s k):=by show _=_;rw[←HSP.out];exact(span_go het (by unfold alnB;rw[hel];rfl)).symm
    clear hel
    go_wp2_with (first|(go_at_call_of 211 (Value.func (Fn.func (204:Nat)) #[] #[]);refine(goesLetterYes HI.out hs HX.out).mono ?_;rintro e1 W1 ⟨rfl,hI1⟩;have HI1:=Lib.hid hI1;clear hI1))
    go_step3
    exact⟨_,by omega,⟨_,_,_,_,_,_,_,_,_,_,_,_,_,_,_,_,_,_,_,_,_,_,_,_,_,_,_,_,_,_,_,_,_,_,_,_,_,_,_,_,_,_,_,_,_,_,_,_,_,_,_,_,_,_,_,_,_,_,_,_,_,_,_,_,_,_,_,_,_,_,rfl⟩,e+1,by omega,by omega,rfl,HST.out,HL.out,HI1.out⟩
   | false=>
    have HX:Hid (letB (bt s e)=false):=hel
    cases hed:digB (bt s e) with
    | true=>
     have HY:Hid (digB (bt s e)=true):=hed
     have het:e<s.size:=lt_of_class hed digB_end
     have HST:Hid (span alnB s (e+1)=span alnB s k):=by show _=_;rw[←HSP.out];exact(span_go het (by unfold alnB;rw[hel,hed];rfl)).symm
     clear hel hed
     go_wp2_with (first|(go_at_call_of 211 (Value.func (Fn.func (204:Nat)) #[] #[]);refine(goesLetterNo HI.out he2 HX.out).mono ?_;rintro e1 W1 ⟨rfl,hI1⟩;have HI1:=Lib.hid hI1;clear hI1)|(go_at_call_of 211 (Value.func (Fn.func (205:Nat)) #[] #[]);refine(goesDigitYes HI1.out hs HY.out).mono ?_;rintro e2 W2 ⟨rfl,hI2⟩;have HI2:=Lib.hid hI2;clear hI2))
     go_step3
     exact⟨_,by omega,⟨_,_,_,_,_,_,_,_,_,_,_,_,_,_,_,_,_,_,_,_,_,_,_,_,_,_,_,_,_,_,_,_,_,_,_,_,_,_,_,_,_,_,_,_,_,_,_,_,_,_,_,_,_,_,_,_,_,_,_,_,_,_,_,_,_,_,_,_,_,_,rfl⟩,e+1,by omega,by omega,rfl,HST.out,HL.out,HI2.out⟩
    | false=>
     have HY:Hid (digB (bt s e)=false):=hed
     have HE:Hid (span alnB s k=e):=by show _=_;rw[←HSP.out];exact span_stop (fun _=>by unfold alnB;rw[hel,hed];rfl)
     clear hel hed
     by_cases h8:8<e - k
     ·have HONE:Hid (one s k=none):=one_word_bad hk (by rw[bt_in hk];exact HL.out) HE.out h8
      go_wp2_with (first|(go_at_call_of 211 (Value.func (Fn.func (204:Nat)) #[] #[]);refine(goesLetterNo HI.out he2 HX.out).mono ?_;rintro e1 W1 ⟨rfl,hI1⟩;have HI1:=Lib.hid hI1;clear hI1)|(go_at_call_of 211 (Value.func (Fn.func (205:Nat)) #[] #[]);refine(goesDigitNo HI1.out he2 HY.out).mono ?_;rintro e2 W2 ⟨rfl,hI2⟩;have HI2:=Lib.hid hI2;clear hI2)|(go_at_call 214;refine(addWordNo HI2.out hs (by omega) he2 h8).mono ?_;rintro e3 W3 ⟨rfl,hI3⟩;have HI3:=Lib.hid hI3;clear hI3))
      simp only[ExitJumps]
      go_ret
      exact Or.inr ⟨rfl,HONE.out,HI3.out.below⟩
     ·have HONE:Hid (one s k=some (e,⟨1,s.extract k e,0⟩)):=one_word hk (by rw[bt_in hk];exact HL.out) HE.out (by omega)
      go_wp2_with (first|(go_at_call_of 211 (Value.func (Fn.func (204:Nat)) #[] #[]);refine(goesLetterNo HI.out he2 HX.out).mono ?_;rintro e1 W1 ⟨rfl,hI1⟩;have HI1:=Lib.hid hI1;clear hI1)|(go_at_call_of 211 (Value.func (Fn.func (205:Nat)) #[] #[]);refine(goesDigitNo HI1.out he2 HY.out).mono ?_;rintro e2 W2 ⟨rfl,hI2⟩;have HI2:=Lib.hid hI2;clear hI2)|(go_at_call 214;refine(addWordYes HI2.out hs (by omega) he2 hal (by omega)).mono ?_;rintro e3 W3 ⟨rfl,hI3⟩;have HI3:=Lib.hid hI3;clear hI3))
      simp only[ExitJumps]
      go_ret
      exact Or.inl ⟨rfl,e,_,HONE.out,HI3.out⟩
  | 1,hj=>
   obtain⟨e,he1,he2,rfl,hsp,hnb,hl,hI⟩:=hj
   have HI:Hid (Inv w0 b s (k:Nat) (e:Nat) acc W'):=hI
   have HSP:Hid (span digB s e=span digB s (k+1)):=hsp
   have HNB:Hid (NumBegin s k):=hnb
   have HL:Hid (letB (bt s k)=false):=hl
   clear hI hsp hl hnb
   refine⟨_,rfl,?_⟩
   cases hed:digB (bt s e) with
   | true=>
    have HY:Hid (digB (bt s e)=true):=hed
    have het:e<s.size:=lt_of_class hed digB_end
    have HST:Hid (span digB s (e+1)=span digB s (k+1)):=by show _=_;rw[←HSP.out];exact(span_go het hed).symm
    clear hed
    go_wp2_with (first|(go_at_call_of 211 (Value.func (Fn.func (205:Nat)) #[] #[]);refine(goesDigitYes HI.out hs HY.out).mono ?_;rintro e2 W2 ⟨rfl,hI2⟩;have HI2:=Lib.hid hI2;clear hI2))
    go_step3
    exact⟨_,by omega,⟨_,_,_,_,_,_,_,_,_,_,_,_,_,_,_,_,_,_,_,_,_,_,_,_,_,_,_,_,_,_,_,_,_,_,_,_,_,_,_,_,_,_,_,_,_,_,_,_,_,_,_,_,_,_,_,_,_,_,_,_,_,_,_,_,_,_,_,_,_,_,rfl⟩,e+1,by omega,by omega,rfl,HST.out,HNB.out,HL.out,HI2.out⟩
   | false=>
    have HY:Hid (digB (bt s e)=false):=hed
    have HE:Hid (span digB s (k+1)=e):=by show _=_;rw[←HSP.out];exact span_stop (fun _=>hed)
    clear hed
    have HNUM:Hid (Numeral (s.extract k e)):=numeral_of hk HNB.out HE.out
    cases hv:numL (s.extract k e).data.toList with
    | none=>
     have HV:Hid (numL (s.extract k e).data.toList=none):=hv
     have HONE:Hid (one s k=none):=one_num_bad HL.out HNB.out HE.out hv
     clear hv
     go_wp2_with (first|(go_at_call_of 211 (Value.func (Fn.func (205:Nat)) #[] #[]);refine(goesDigitNo HI.out he2 HY.out).mono ?_;rintro e2 W2 ⟨rfl,hI2⟩;have HI2:=Lib.hid hI2;clear hI2)|(go_at_call 215;refine(addNumberNone HG.out HEV.out HI2.out hs (by omega) he2 rfl HNUM.out HV.out).mono ?_;rintro e3 W3 ⟨rfl,hI3⟩;have HI3:=Lib.hid hI3;clear hI3))
     simp only[ExitJumps]
     go_ret
     exact Or.inr ⟨rfl,HONE.out,HI3.out.below⟩
    | some v=>
     have HV:Hid (numL (s.extract k e).data.toList=some v):=hv
     have HONE:Hid (one s k=some (e,⟨2,s.extract k e,v⟩)):=one_num HL.out HNB.out HE.out hv
     clear hv
     go_wp2_with (first|(go_at_call_of 211 (Value.func (Fn.func (205:Nat)) #[] #[]);refine(goesDigitNo HI.out he2 HY.out).mono ?_;rintro e2 W2 ⟨rfl,hI2⟩;have HI2:=Lib.hid hI2;clear hI2)|(go_at_call 215;refine(addNumberSome HI2.out hs (by omega) he2 hal rfl HNUM.out HV.out).mono ?_;rintro e3 W3 ⟨rfl,hI3⟩;have HI3:=Lib.hid hI3;clear hI3))
     simp only[ExitJumps]
     go_ret
     exact Or.inl ⟨rfl,e,_,HONE.out,HI3.out⟩
  | 2,hj=>
   obtain⟨rfl,hb,hI⟩:=hj
   have HI:Hid (Inv w0 b s (k:Nat) ((k+1:Nat):Int) acc W'):=hI
   have HB:Hid (bt s k=45):=hb
   clear hI hb
   refine⟨_,rfl,?_⟩
   cases hq:(bt s (k+1)==91) with
   | true=>
    have HQ:Hid ((bt s (k+1)==91)=true):=hq
    clear hq
    have HM:Hid (markLen s k=2):=by
     have hb:=HB.out
     have hqx:=eq_of_beq HQ.out
     show markLen s k=2
     unfold markLen
     simp only
     repeat' split
     all_goals omega
    have HD:Hid (digB (bt s (k+1))=false):=digB_no (by have:=eq_of_beq HQ.out;omega)
    go_wp2_with (first|(go_at_call_of 153 (Value.int IntKind.u8 91);refine(takesYes (by omega) HI.out hs HQ.out).mono ?_;rintro e1 W1 ⟨rfl,hI1⟩;have HI1:=Lib.hid hI1;clear hI1))
    go_step3
    exact⟨_,by omega,⟨_,_,_,_,_,_,_,_,_,_,_,_,_,_,_,_,_,_,_,_,_,_,_,_,_,_,_,_,_,_,_,_,_,_,_,_,_,_,_,_,_,_,_,_,_,_,_,_,_,_,_,_,_,_,_,_,_,_,_,_,_,_,_,_,_,_,_,_,_,_,rfl⟩,rfl,letB_no (by have:=HB.out;omega),not_num (by have:=HB.out;omega) (Or.inr HD.out),by rw[HM.out];omega,by rw[HM.out];exact HI1.out⟩
   | false=>
    have HQ:Hid ((bt s (k+1)==91)=false):=hq
    clear hq
    cases hed:digB (bt s (k+1)) with
    | true=>
     have HY:Hid (digB (bt s (k+1))=true):=hed
     have het:k+1<s.size:=lt_of_class hed digB_end
     have HST:Hid (span digB s (k+1+1)=span digB s (k+1)):=(span_go het hed).symm
     clear hed
     go_wp2_with (first|(go_at_call_of 153 (Value.int IntKind.u8 91);refine(takesNo HI.out (by omega) HQ.out).mono ?_;rintro e1 W1 ⟨rfl,hI1⟩;have HI1:=Lib.hid hI1;clear hI1)|(go_at_call_of 211 (Value.func (Fn.func (205:Nat)) #[] #[]);refine(goesDigitYes HI1.out hs HY.out).mono ?_;rintro e2 W2 ⟨rfl,hI2⟩;have HI2:=Lib.hid hI2;clear hI2))
     go_step3
     exact⟨_,by omega,⟨_,_,_,_,_,_,_,_,_,_,_,_,_,_,_,_,_,_,_,_,_,_,_,_,_,_,_,_,_,_,_,_,_,_,_,_,_,_,_,_,_,_,_,_,_,_,_,_,_,_,_,_,_,_,_,_,_,_,_,_,_,_,_,_,_,_,_,_,_,_,rfl⟩,k+1+1,by omega,by omega,rfl,HST.out,Or.inr ⟨HB.out,HY.out⟩,letB_no (by have:=HB.out;omega),HI2.out⟩
    | false=>
     have HY:Hid (digB (bt s (k+1))=false):=hed
     clear hed
     have HONE:Hid (one s k=none):=by
      have hb:=HB.out
      have hqx:=ne_of_beq_false HQ.out
      refine one_mark_bad (letB_no (by omega)) (not_num (by omega) (Or.inr HY.out)) ?_
      unfold markLen
      simp only
      repeat' split
      all_goals omega
     go_wp2_with (first|(go_at_call_of 153 (Value.int IntKind.u8 91);refine(takesNo HI.out (by omega) HQ.out).mono ?_;rintro e1 W1 ⟨rfl,hI1⟩;have HI1:=Lib.hid hI1;clear hI1)|(go_at_call_of 211 (Value.func (Fn.func (205:Nat)) #[] #[]);refine(goesDigitNo HI1.out (by omega) HY.out).mono ?_;rintro e2 W2 ⟨rfl,hI2⟩;have HI2:=Lib.hid hI2;clear hI2))
     simp only[ExitJumps]
     go_ret
     exact Or.inr ⟨rfl,HONE.out,HI2.out.below⟩
  | 3,hj=>
   obtain⟨rfl,hb,hI⟩:=hj
   have HI:Hid (Inv w0 b s (k:Nat) ((k+1:Nat):Int) acc W'):=hI
   have HB:Hid (bt s k=93):=hb
   clear hI hb
   refine⟨_,rfl,?_⟩
   cases hq:(bt s (k+1)==45) with
   | true=>
    have HQ:Hid ((bt s (k+1)==45)=true):=hq
    clear hq
    have het:k+1<s.size:=bt_lt (by have:=eq_of_beq HQ.out;omega)
    cases hr:(bt s (k+1+1)==62) with
    | true=>
     have HR:Hid ((bt s (k+1+1)==62)=true):=hr
     clear hr
     have HM:Hid (markLen s k=3):=by
      have hb:=HB.out
      have hqx:=eq_of_beq HQ.out
      have hrx:bt s (k+2)=62:=eq_of_beq HR.out
      show markLen s k=3
      unfold markLen
      simp only
      repeat' split
      all_goals omega
     go_wp2_with (first|(go_at_call_of 153 (Value.int IntKind.u8 45);refine(takesYes (by omega) HI.out hs HQ.out).mono ?_;rintro e1 W1 ⟨rfl,hI1⟩;have HI1:=Lib.hid hI1;clear hI1)|(go_at_call_of 153 (Value.int IntKind.u8 62);refine(takesYes (by omega) HI1.out hs HR.out).mono ?_;rintro e2 W2 ⟨rfl,hI2⟩;have HI2:=Lib.hid hI2;clear hI2))
     go_step3
     exact⟨_,by omega,⟨_,_,_,_,_,_,_,_,_,_,_,_,_,_,_,_,_,_,_,_,_,_,_,_,_,_,_,_,_,_,_,_,_,_,_,_,_,_,_,_,_,_,_,_,_,_,_,_,_,_,_,_,_,_,_,_,_,_,_,_,_,_,_,_,_,_,_,_,_,_,rfl⟩,rfl,letB_no (by have:=HB.out;omega),not_num (by have:=HB.out;omega) (Or.inl (by have:=HB.out;omega)),by rw[HM.out];omega,by rw[HM.out];exact HI2.out⟩
    | false=>
     have HR:Hid ((bt s (k+1+1)==62)=false):=hr
     clear hr
     have HONE:Hid (one s k=none):=by
      have hb:=HB.out
      have hqx:=eq_of_beq HQ.out
      have hrx:bt s (k+2)≠62:=ne_of_beq_false HR.out
      refine one_mark_bad (letB_no (by omega)) (not_num (by omega) (Or.inl (by omega))) ?_
      unfold markLen
      simp only
      repeat' split
      all_goals omega
     go_wp2_with (first|(go_at_call_of 153 (Value.int IntKind.u8 45);refine(takesYes (by omega) HI.out hs HQ.out).mono ?_;rintro e1 W1 ⟨rfl,hI1⟩;have HI1:=Lib.hid hI1;clear hI1)|(go_at_call_of 153 (Value.int IntKind.u8 62);refine(takesNo HI1.out (by omega) HR.out).mono ?_;rintro e2 W2 ⟨rfl,hI2⟩;have HI2:=Lib.hid hI2;clear hI2))
     simp only[ExitJumps]
     go_ret
     exact Or.inr ⟨rfl,HONE.out,HI2.out.below⟩
   | false=>
    have HQ:Hid ((bt s (k+1)==45)=false):=hq
    clear hq
    have HONE:Hid (one s k=none):=by
     have hb:=HB.out
     have hqx:=ne_of_beq_false HQ.out
     refine one_mark_bad (letB_no (by omega)) (not_num (by omega) (Or.inl (by omega))) ?_
     unfold markLen
     simp only
     repeat' split
     all_goals omega
    go_wp2_with (first|(go_at_call_of 153 (Value.int IntKind.u8 45);refine(takesNo HI.out (by omega) HQ.out).mono ?_;rintro e1 W1 ⟨rfl,hI1⟩;have HI1:=Lib.hid hI1;clear hI1))
    simp only[ExitJumps]
    go_ret
    exact Or.inr ⟨rfl,HONE.out,HI1.out.below⟩
  | 4,hj=>
   obtain⟨rfl,hb,hI⟩:=hj
   have HI:Hid (Inv w0 b s (k:Nat) ((k+1:Nat):Int) acc W'):=hI
   have HB:Hid (bt s k=46):=hb
   clear hI hb
   refine⟨_,rfl,?_⟩
   cases hq:(bt s (k+1)==46) with
   | true=>
    have HQ:Hid ((bt s (k+1)==46)=true):=hq
    clear hq
    have HM:Hid (markLen s k=2):=by
     have hb:=HB.out
     have hqx:=eq_of_beq HQ.out
     show markLen s k=2
     unfold markLen
     simp only
     repeat' split
     all_goals omega
    go_wp2_with (first|(go_at_call_of 153 (Value.int IntKind.u8 46);refine(takesYes (by omega) HI.out hs HQ.out).mono ?_;rintro e1 W1 ⟨rfl,hI1⟩;have HI1:=Lib.hid hI1;clear hI1))
    go_step3
    exact⟨_,by omega,⟨_,_,_,_,_,_,_,_,_,_,_,_,_,_,_,_,_,_,_,_,_,_,_,_,_,_,_,_,_,_,_,_,_,_,_,_,_,_,_,_,_,_,_,_,_,_,_,_,_,_,_,_,_,_,_,_,_,_,_,_,_,_,_,_,_,_,_,_,_,_,rfl⟩,rfl,letB_no (by have:=HB.out;omega),not_num (by have:=HB.out;omega) (Or.inl (by have:=HB.out;omega)),by rw[HM.out];omega,by rw[HM.out];exact HI1.out⟩
   | false=>
    have HQ:Hid ((bt s (k+1)==46)=false):=hq
    clear hq
    have HM:Hid (markLen s k=1):=by
     have hb:=HB.out
     have hqx:=ne_of_beq_false HQ.out
     show markLen s k=1
     unfold markLen
     simp only
     repeat' split
     all_goals omega
    go_wp2_with (first|(go_at_call_of 153 (Value.int IntKind.u8 46);refine(takesNo HI.out (by omega) HQ.out).mono ?_;rintro e1 W1 ⟨rfl,hI1⟩;have HI1:=Lib.hid hI1;clear hI1))
    go_step3
    exact⟨_,by omega,⟨_,_,_,_,_,_,_,_,_,_,_,_,_,_,_,_,_,_,_,_,_,_,_,_,_,_,_,_,_,_,_,_,_,_,_,_,_,_,_,_,_,_,_,_,_,_,_,_,_,_,_,_,_,_,_,_,_,_,_,_,_,_,_,_,_,_,_,_,_,_,rfl⟩,rfl,letB_no (by have:=HB.out;omega),not_num (by have:=HB.out;omega) (Or.inl (by have:=HB.out;omega)),by rw[HM.out];omega,by rw[HM.out];exact HI1.out⟩
  | 5,hj=>
   obtain⟨rfl,hb,hI⟩:=hj
   have HI:Hid (Inv w0 b s (k:Nat) ((k+1:Nat):Int) acc W'):=hI
   have HB:Hid (bt s k=60):=hb
   clear hI hb
   refine⟨_,rfl,?_⟩
   cases hq:(bt s (k+1)==62) with
   | true=>
    have HQ:Hid ((bt s (k+1)==62)=true):=hq
    clear hq
    have HM:Hid (markLen s k=2):=by
     have hb:=HB.out
     have hqx:=eq_of_beq HQ.out
     show markLen s k=2
     unfold markLen
     simp only
     repeat' split
     all_goals omega
    go_wp2_with (first|(go_at_call_of 153 (Value.int IntKind.u8 62);refine(takesYes (by omega) HI.out hs HQ.out).mono ?_;rintro e1 W1 ⟨rfl,hI1⟩;have HI1:=Lib.hid hI1;clear hI1))
    go_step3
    exact⟨_,by omega,⟨_,_,_,_,_,_,_,_,_,_,_,_,_,_,_,_,_,_,_,_,_,_,_,_,_,_,_,_,_,_,_,_,_,_,_,_,_,_,_,_,_,_,_,_,_,_,_,_,_,_,_,_,_,_,_,_,_,_,_,_,_,_,_,_,_,_,_,_,_,_,rfl⟩,rfl,letB_no (by have:=HB.out;omega),not_num (by have:=HB.out;omega) (Or.inl (by have:=HB.out;omega)),by rw[HM.out];omega,by rw[HM.out];exact HI1.out⟩
   | false=>
    have HQ:Hid ((bt s (k+1)==62)=false):=hq
    clear hq
    go_wp2_with (first|(go_at_call_of 153 (Value.int IntKind.u8 62);refine(takesNo HI.out (by omega) HQ.out).mono ?_;rintro e1 W1 ⟨rfl,hI1⟩;have HI1:=Lib.hid hI1;clear hI1))
    go_step3
    exact⟨_,by omega,⟨_,_,_,_,_,_,_,_,_,_,_,_,_,_,_,_,_,_,_,_,_,_,_,_,_,_,_,_,_,_,_,_,_,_,_,_,_,_,_,_,_,_,_,_,_,_,_,_,_,_,_,_,_,_,_,_,_,_,_,_,_,_,_,_,_,_,_,_,_,_,rfl⟩,rfl,Or.inr ⟨HB.out,ne_of_beq_false HQ.out⟩,HI1.out⟩
  | 6,hj=>
   obtain⟨rfl,hb,hI⟩:=hj
   have HI:Hid (Inv w0 b s (k:Nat) ((k+1:Nat):Int) acc W'):=hI
   have HB:Hid (bt s k=62∨(bt s k=60∧bt s (k+1)≠62)):=hb
   clear hI hb
   refine⟨_,rfl,?_⟩
   cases hq:(bt s (k+1)==61) with
   | true=>
    have HQ:Hid ((bt s (k+1)==61)=true):=hq
    clear hq
    have HM:Hid (markLen s k=2):=by
     have hb:=HB.out
     have hqx:=eq_of_beq HQ.out
     show markLen s k=2
     unfold markLen
     simp only
     repeat' split
     all_goals omega
    go_wp2_with (first|(go_at_call_of 153 (Value.int IntKind.u8 61);refine(takesYes (by omega) HI.out hs HQ.out).mono ?_;rintro e1 W1 ⟨rfl,hI1⟩;have HI1:=Lib.hid hI1;clear hI1))
    go_step3
    exact⟨_,by omega,⟨_,_,_,_,_,_,_,_,_,_,_,_,_,_,_,_,_,_,_,_,_,_,_,_,_,_,_,_,_,_,_,_,_,_,_,_,_,_,_,_,_,_,_,_,_,_,_,_,_,_,_,_,_,_,_,_,_,_,_,_,_,_,_,_,_,_,_,_,_,_,rfl⟩,rfl,letB_no (by have:=HB.out;omega),not_num (by have:=HB.out;omega) (Or.inl (by have:=HB.out;omega)),by rw[HM.out];omega,by rw[HM.out];exact HI1.out⟩
   | false=>
    have HQ:Hid ((bt s (k+1)==61)=false):=hq
    clear hq
    have HM:Hid (markLen s k=1):=by
     have hb:=HB.out
     have hqx:=ne_of_beq_false HQ.out
     show markLen s k=1
     unfold markLen
     simp only
     repeat' split
     all_goals omega
    go_wp2_with (first|(go_at_call_of 153 (Value.int IntKind.u8 61);refine(takesNo HI.out (by omega) HQ.out).mono ?_;rintro e1 W1 ⟨rfl,hI1⟩;have HI1:=Lib.hid hI1;clear hI1))
    go_step3
    exact⟨_,by omega,⟨_,_,_,_,_,_,_,_,_,_,_,_,_,_,_,_,_,_,_,_,_,_,_,_,_,_,_,_,_,_,_,_,_,_,_,_,_,_,_,_,_,_,_,_,_,_,_,_,_,_,_,_,_,_,_,_,_,_,_,_,_,_,_,_,_,_,_,_,_,_,rfl⟩,rfl,letB_no (by have:=HB.out;omega),not_num (by have:=HB.out;omega) (Or.inl (by have:=HB.out;omega)),by rw[HM.out];omega,by rw[HM.out];exact HI1.out⟩
  | 7,hj=>
   obtain⟨rfl,h1,h2,hm3,hI⟩:=hj
   have HI:Hid (Inv w0 b s (k:Nat) ((k+markLen s k:Nat):Int) acc W'):=hI
   clear hI
   have hml:=markLen_le hk
   refine⟨_,rfl,?_⟩
   go_wp2_with (go_at_call 216;refine(add 3 0 HI.out hs (by omega) (by omega) hal).mono ?_;rintro e W3 ⟨rfl,h3⟩)
   simp only[ExitJumps]
   go_ret
   exact Or.inl ⟨rfl,_,_,one_mark h1 h2 hm3,h3⟩
  | x+8,hj=>exact hj.elim
end Go.Proofs.YtobgbmfpicmpcaaGreatDoor

/- The program's 'cut' and 'Tokens': the whole text is cut as the plain specification says, into memory of its own. -/
namespace Go.Proofs.YtobgbmfpicmpcaaGreatDoor
open Go.RowKit
theorem tokenYes {w0 W:World} {ev:Value} (hg:w0.cell? ⟨5,0,none⟩=some ev) (hev:ev=.nilIface∨∃te pe,ev=.iface te pe) {b:Nat} {s:ByteArray} {f:Int} {k en:Nat} {t:Tok} {acc:List Tok}
  (hinv:Inv w0 b s f (k:Nat) acc W) (hs:s.size≤2000) (hk:k<s.size) (hal:acc.length≤2000) (ho:one s k=some (en,t)):
  Calls Tryz.prog 154 #[.pointer (some ⟨b,0,none⟩)] W fun e W'=>e=.returned (.bool true)∧Inv w0 b s (k:Nat) (en:Nat) (acc++[t]) W':=by
 refine(token hg hev hinv hs hk hal).mono ?_
 rintro e W' (⟨he,en',t',h1,h2⟩|⟨_,h1,_⟩)
 ·rw[ho] at h1
  injection h1 with h1;injection h1 with h1 h3;subst h1;subst h3
  exact⟨he,h2⟩
 ·rw[ho] at h1;cases h1
theorem tokenNo {w0 W:World} {ev:Value} (hg:w0.cell? ⟨5,0,none⟩=some ev) (hev:ev=.nilIface∨∃te pe,ev=.iface te pe) {b:Nat} {s:ByteArray} {f:Int} {k:Nat} {acc:List Tok}
  (hinv:Inv w0 b s f (k:Nat) acc W) (hs:s.size≤2000) (hk:k<s.size) (hal:acc.length≤2000) (ho:one s k=none):
  Calls Tryz.prog 154 #[.pointer (some ⟨b,0,none⟩)] W fun e W'=>e=.returned (.bool false)∧Below w0.heap.size w0 W':=by
 refine(token hg hev hinv hs hk hal).mono ?_
 rintro e W' (⟨he,en',t',h1,h2⟩|⟨he,_,h2⟩)
 ·rw[ho] at h1;cases h1
 ·exact⟨he,h2⟩
def CutPost (w0:World) (b:Nat) (s:ByteArray) (e:Ending) (W:World):Prop:=
 (e=.returned (.bool true)∧∃ts f k,run s 0=some ts∧Inv w0 b s f k ts W)∨(e=.returned (.bool false)∧run s 0=none∧Below w0.heap.size w0 W)
set_option maxRecDepth 100000 in
set_option maxHeartbeats 2000000 in
theorem cut {w0 W:World} {ev:Value} (hg:w0.cell? ⟨5,0,none⟩=some ev) (hev:ev=.nilIface∨∃te pe,ev=.iface te pe) {b:Nat} {s:ByteArray} {f:Int} (hinv:Inv w0 b s f ((0:Nat):Int) [] W) (hs:s.size≤2000):
  Calls Tryz.prog 93 #[.pointer (some ⟨b,0,none⟩)] W (CutPost w0 b s):=by
 have HG:Hid (w0.cell? ⟨5,0,none⟩=some ev):=hg
 have HEV:Hid (ev=.nilIface∨∃te pe,ev=.iface te pe):=hev
 have HI0:Hid (Inv w0 b s f ((0:Nat):Int) [] W):=hinv
 clear hg hev hinv
 go_enter Tryz.func93,Tryz.ntmps93
 go_wp2
 go_loopg [2] s.size (fun g u wr=>u=.bool false∧∃(k:Nat) (f:Int) (acc:List Tok),k≤s.size∧g=s.size - k∧Sofar s k acc∧acc.length≤k∧Inv w0 b s f (k:Nat) acc wr)
 case atStart=>exact⟨rfl,0,f,[],by omega,by omega,sofar_start s,by simp,HI0.out⟩
 case round=>
  obtain⟨rfl,k,f,acc,hk,rfl,hsf,hal,hI⟩:=hrel
  have HSF:Hid (Sofar s k acc):=hsf
  have HI:Hid (Inv w0 b s f (k:Nat) acc wr):=hI
  obtain⟨lv,hx,ho⟩:=hI.cut
  obtain⟨c0,c1,c2,c3⟩:=hx.cells
  clear hI hx ho c1 c3 hsf HI0
  by_cases hlt:k<s.size
  ·go_wp2
   go_quiet (fail)
   cases hb:(bt s k==32) with
   | true=>
    have HB:Hid ((bt s k==32)=true):=hb
    clear hb
    go_wp2_with (go_at_call 153;refine(takesYes (by omega) (HI.out.drew nq) hs HB.out).mono ?_;rintro e1 W1 ⟨rfl,hI1⟩;have HI1:=Lib.hid hI1;clear hI1)
    go_roundg (s.size - (k+1))
    case measure=>omega
    case rel=>exact⟨rfl,k+1,f,acc,by omega,rfl,HSF.out.blank hlt (eq_of_beq HB.out),by omega,HI1.out⟩
   | false=>
    have HB:Hid ((bt s k==32)=false):=hb
    clear hb
    cases hone:one s k with
    | none=>
     have HO:Hid (one s k=none):=hone
     clear hone
     go_wp2_with (first|(go_at_call 153;refine(takesNo (HI.out.drew nq) hk HB.out).mono ?_;rintro e1 W1 ⟨rfl,hI1⟩;have HI1:=Lib.hid hI1;clear hI1)|(go_at_call 154;refine(tokenNo HG.out HEV.out HI1.out hs hlt (by omega) HO.out).mono ?_;rintro e2 W2 ⟨rfl,hI2⟩;have HI2:=Lib.hid hI2;clear hI2))
     go_ret
     exact Or.inr ⟨rfl,HSF.out.bad hlt (ne_of_beq_false HB.out) HO.out,HI2.out⟩
    | some p=>
     obtain⟨en,t⟩:=p
     have HO:Hid (one s k=some (en,t)):=hone
     have hnx:=one_next hone hlt
     clear hone
     go_wp2_with (first|(go_at_call 153;refine(takesNo (HI.out.drew nq) hk HB.out).mono ?_;rintro e1 W1 ⟨rfl,hI1⟩;have HI1:=Lib.hid hI1;clear hI1)|(go_at_call 154;refine(tokenYes HG.out HEV.out HI1.out hs hlt (by omega) HO.out).mono ?_;rintro e2 W2 ⟨rfl,hI2⟩;have HI2:=Lib.hid hI2;clear hI2))
     go_roundg (s.size - en)
     case measure=>omega
     case rel=>exact⟨rfl,en,_,_,by omega,rfl,HSF.out.tok hlt (ne_of_beq_false HB.out) HO.out,by simp;omega,HI2.out⟩
  ·go_wp2
   go_quiet (fail)
   go_wp2
   go_ret
   exact Or.inl ⟨rfl,acc,f,k,HSF.out.fin hlt,HI.out.drew nq⟩
theorem cutSome {w0 W:World} {ev:Value} (hg:w0.cell? ⟨5,0,none⟩=some ev) (hev:ev=.nilIface∨∃te pe,ev=.iface te pe) {b:Nat} {s:ByteArray} {f:Int} {ts:List Tok} (hinv:Inv w0 b s f ((0:Nat):Int) [] W) (hs:s.size≤2000) (hr:run s 0=some ts):
  Calls Tryz.prog 93 #[.pointer (some ⟨b,0,none⟩)] W fun e W'=>e=.returned (.bool true)∧∃f k,Inv w0 b s f k ts W':=by
 refine(cut hg hev hinv hs).mono ?_
 rintro e W' (⟨he,ts',f,k,h1,h2⟩|⟨_,h1,_⟩)
 ·rw[hr] at h1;injection h1 with h1;subst h1;exact⟨he,f,k,h2⟩
 ·rw[hr] at h1;cases h1
theorem cutNone {w0 W:World} {ev:Value} (hg:w0.cell? ⟨5,0,none⟩=some ev) (hev:ev=.nilIface∨∃te pe,ev=.iface te pe) {b:Nat} {s:ByteArray} {f:Int} (hinv:Inv w0 b s f ((0:Nat):Int) [] W) (hs:s.size≤2000) (hr:run s 0=none):
  Calls Tryz.prog 93 #[.pointer (some ⟨b,0,none⟩)] W fun e W'=>e=.returned (.bool false)∧Below w0.heap.size w0 W':=by
 refine(cut hg hev hinv hs).mono ?_
 rintro e W' (⟨he,ts',f,k,h1,h2⟩|⟨he,_,h2⟩)
 ·rw[hr] at h1;cases h1
 ·exact⟨he,h2⟩
theorem inv_new (w:World) (s:ByteArray):Inv w w.heap.size s 0 ((0:Nat):Int) [] (w.alloc (.cells #[.string s,.int .i64 0,.int .i64 0,.slice none 0 0] 163)):=
 ⟨(Below.refl _ _).alloc (Nat.le_refl _) _,Nat.le_refl _,.slice none 0 0,heap_alloc_new w _,World.ownsRow_nil _ _ _ _⟩
set_option maxRecDepth 100000 in
set_option maxHeartbeats 1000000 in
theorem tokens (s:ByteArray) (w:World) {ev:Value} (hg:w.cell? ⟨5,0,none⟩=some ev) (hev:ev=.nilIface∨∃te pe,ev=.iface te pe) (hm:s.size≤maxLen):
  Calls Tryz.prog 44 #[.string s] w (TokPost s w):=by
 unfold maxLen at hm
 have HG:Hid (w.cell? ⟨5,0,none⟩=some ev):=hg
 have HEV:Hid (ev=.nilIface∨∃te pe,ev=.iface te pe):=hev
 clear hg hev
 by_cases hs:s.size≤2000
 ·cases hr:run s 0 with
  | none=>
   have HR:Hid (run s 0=none):=hr
   clear hr
   go_enter Tryz.func44,Tryz.ntmps44
   go_wp2_with (go_at_call 93;refine(cutNone HG.out HEV.out (inv_new w s) hs HR.out).mono ?_;rintro e1 W1 ⟨rfl,hb1⟩)
   go_ret2
   exact⟨hb1,Or.inl ⟨toks_none hs HR.out,rfl⟩⟩
  | some ts=>
   have HR:Hid (run s 0=some ts):=hr
   clear hr
   go_enter Tryz.func44,Tryz.ntmps44
   go_wp2_with (go_at_call 93;refine(cutSome HG.out HEV.out (inv_new w s) hs HR.out).mono ?_;rintro e1 W1 ⟨rfl,f1,k1,hI1⟩;have HI1:=Lib.hid hI1;obtain⟨lv,hx,ho⟩:=hI1.cut;have c3:=hx.cells.2.2.2;have HOW:=Lib.hid ho;clear hI1 hx ho)
   go_ret2
   exact⟨HI1.out.below,Or.inr ⟨ts,lv,toks_some hs HR.out,rfl,HOW.out⟩⟩
 ·go_enter Tryz.func44,Tryz.ntmps44
  go_wp2
  go_ret2
  exact⟨Below.refl _ _,Or.inl ⟨by unfold toks;rw[if_pos (by omega)],rfl⟩⟩
end Go.Proofs.YtobgbmfpicmpcaaGreatDoor

