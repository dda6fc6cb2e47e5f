/- The program's kinds of words and tokens. -/
import Derived.Test.YtobgbmfpicmpcaaGreatDoorC07
namespace Go.Proofs.YtobgbmfpicmpcaaGreatDoor
open Go.RowKit
def wordKind (s:ByteArray):Int:=if isWord s then (if 97≤bt s 0 then 1 else if isKeyword s then 3 else 2) else 0
theorem isWord_first {s:ByteArray} (h:isWord s=true):1≤s.size∧letB (bt s 0)=true:=by
 unfold isWord at h
 simp only[Bool.and_eq_true,decide_eq_true_eq] at h
 exact⟨h.1.1.1,h.1.2⟩
theorem kindW_eq (s:ByteArray):kindW s=if wordKind s=1 then 1 else if wordKind s=2 then 2 else 3:=by
 unfold kindW wordKind isName isTitle
 cases hw:isWord s with
 | false=>simp
 | true=>
  by_cases h9:97≤bt s 0
  ·simp[h9]
  ·have h9':bt s 0<97:=by omega
   cases hk:isKeyword s<;>simp[h9,h9']
set_option maxRecDepth 100000 in
set_option maxHeartbeats 2000000 in
theorem kindOfNo {s:ByteArray} (w:World) (HW:Hid (isWord s=false)):Calls Tryz.prog 73 #[.string s] w fun e w'=>e=.returned (.int .i64 0)∧w'=w:=by
 go_enter Tryz.func73,Tryz.ntmps73
 go_wp2_with (go_at_call 147;refine(isWordP _ _).mono ?_;rintro e w' ⟨rfl,rfl⟩;rw[HW.out])
 go_ret
 exact⟨rfl,rfl⟩
set_option maxRecDepth 100000 in
set_option maxHeartbeats 2000000 in
theorem kindOfName {s:ByteArray} (w:World) (HW:Hid (isWord s=true)) (h0:0<s.size) (ha:(97:Int)≤((s[0]'h0).toNat:Int)) (hz:((s[0]'h0).toNat:Int)≤122):Calls Tryz.prog 73 #[.string s] w fun e w'=>e=.returned (.int .i64 1)∧w'=w:=by
 go_enter Tryz.func73,Tryz.ntmps73
 go_wp2_with (go_at_call 147;refine(isWordP _ _).mono ?_;rintro e w' ⟨rfl,rfl⟩;rw[HW.out])
 go_ret
 exact⟨rfl,rfl⟩
set_option maxRecDepth 100000 in
set_option maxHeartbeats 2000000 in
theorem kindOfKey0 {s:ByteArray} (w:World) (HW:Hid (isWord s=true)) (h0':0<s.size) (ha:¬(97:Int)≤((s[0]'h0').toNat:Int))  (h0:(s.toList==[77,65,84,67,72])=true):Calls Tryz.prog 73 #[.string s] w fun e w'=>e=.returned (.int .i64 3)∧w'=w:=by
 go_enter Tryz.func73,Tryz.ntmps73
 go_wp2_with (go_at_call 147;refine(isWordP _ _).mono ?_;rintro e w' ⟨rfl,rfl⟩;rw[HW.out])
 go_ret
 exact⟨rfl,rfl⟩
set_option maxRecDepth 100000 in
set_option maxHeartbeats 2000000 in
theorem kindOfKey1 {s:ByteArray} (w:World) (HW:Hid (isWord s=true)) (h0':0<s.size) (ha:¬(97:Int)≤((s[0]'h0').toNat:Int)) (h0:(s.toList==[77,65,84,67,72])=false) (h1:(s.toList==[87,72,69,82,69])=true):Calls Tryz.prog 73 #[.string s] w fun e w'=>e=.returned (.int .i64 3)∧w'=w:=by
 go_enter Tryz.func73,Tryz.ntmps73
 go_wp2_with (go_at_call 147;refine(isWordP _ _).mono ?_;rintro e w' ⟨rfl,rfl⟩;rw[HW.out])
 go_ret
 exact⟨rfl,rfl⟩
set_option maxRecDepth 100000 in
set_option maxHeartbeats 2000000 in
theorem kindOfKey2 {s:ByteArray} (w:World) (HW:Hid (isWord s=true)) (h0':0<s.size) (ha:¬(97:Int)≤((s[0]'h0').toNat:Int)) (h0:(s.toList==[77,65,84,67,72])=false) (h1:(s.toList==[87,72,69,82,69])=false) (h2:(s.toList==[65,78,68])=true):Calls Tryz.prog 73 #[.string s] w fun e w'=>e=.returned (.int .i64 3)∧w'=w:=by
 go_enter Tryz.func73,Tryz.ntmps73
 go_wp2_with (go_at_call 147;refine(isWordP _ _).mono ?_;rintro e w' ⟨rfl,rfl⟩;rw[HW.out])
 go_ret
 exact⟨rfl,rfl⟩
set_option maxRecDepth 100000 in
set_option maxHeartbeats 2000000 in
theorem kindOfKey3 {s:ByteArray} (w:World) (HW:Hid (isWord s=true)) (h0':0<s.size) (ha:¬(97:Int)≤((s[0]'h0').toNat:Int)) (h0:(s.toList==[77,65,84,67,72])=false) (h1:(s.toList==[87,72,69,82,69])=false) (h2:(s.toList==[65,78,68])=false) (h3:(s.toList==[82,69,84,85,82,78])=true):Calls Tryz.prog 73 #[.string s] w fun e w'=>e=.returned (.int .i64 3)∧w'=w:=by
 go_enter Tryz.func73,Tryz.ntmps73
 go_wp2_with (go_at_call 147;refine(isWordP _ _).mono ?_;rintro e w' ⟨rfl,rfl⟩;rw[HW.out])
 go_ret
 exact⟨rfl,rfl⟩
set_option maxRecDepth 100000 in
set_option maxHeartbeats 2000000 in
theorem kindOfKey4 {s:ByteArray} (w:World) (HW:Hid (isWord s=true)) (h0':0<s.size) (ha:¬(97:Int)≤((s[0]'h0').toNat:Int)) (h0:(s.toList==[77,65,84,67,72])=false) (h1:(s.toList==[87,72,69,82,69])=false) (h2:(s.toList==[65,78,68])=false) (h3:(s.toList==[82,69,84,85,82,78])=false) (h4:(s.toList==[79,82,68,69,82])=true):Calls Tryz.prog 73 #[.string s] w fun e w'=>e=.returned (.int .i64 3)∧w'=w:=by
 go_enter Tryz.func73,Tryz.ntmps73
 go_wp2_with (go_at_call 147;refine(isWordP _ _).mono ?_;rintro e w' ⟨rfl,rfl⟩;rw[HW.out])
 go_ret
 exact⟨rfl,rfl⟩
set_option maxRecDepth 100000 in
set_option maxHeartbeats 2000000 in
theorem kindOfKey5 {s:ByteArray} (w:World) (HW:Hid (isWord s=true)) (h0':0<s.size) (ha:¬(97:Int)≤((s[0]'h0').toNat:Int)) (h0:(s.toList==[77,65,84,67,72])=false) (h1:(s.toList==[87,72,69,82,69])=false) (h2:(s.toList==[65,78,68])=false) (h3:(s.toList==[82,69,84,85,82,78])=false) (h4:(s.toList==[79,82,68,69,82])=false) (h5:(s.toList==[66,89])=true):Calls Tryz.prog 73 #[.string s] w fun e w'=>e=.returned (.int .i64 3)∧w'=w:=by
 go_enter Tryz.func73,Tryz.ntmps73
 go_wp2_with (go_at_call 147;refine(isWordP _ _).mono ?_;rintro e w' ⟨rfl,rfl⟩;rw[HW.out])
 go_ret
 exact⟨rfl,rfl⟩
set_option maxRecDepth 100000 in
set_option maxHeartbeats 2000000 in
theorem kindOfKey6 {s:ByteArray} (w:World) (HW:Hid (isWord s=true)) (h0':0<s.size) (ha:¬(97:Int)≤((s[0]'h0').toNat:Int)) (h0:(s.toList==[77,65,84,67,72])=false) (h1:(s.toList==[87,72,69,82,69])=false) (h2:(s.toList==[65,78,68])=false) (h3:(s.toList==[82,69,84,85,82,78])=false) (h4:(s.toList==[79,82,68,69,82])=false) (h5:(s.toList==[66,89])=false) (h6:(s.toList==[68,69,83,67])=true):Calls Tryz.prog 73 #[.string s] w fun e w'=>e=.returned (.int .i64 3)∧w'=w:=by
 go_enter Tryz.func73,Tryz.ntmps73
 go_wp2_with (go_at_call 147;refine(isWordP _ _).mono ?_;rintro e w' ⟨rfl,rfl⟩;rw[HW.out])
 go_ret
 exact⟨rfl,rfl⟩
set_option maxRecDepth 100000 in
set_option maxHeartbeats 2000000 in
theorem kindOfKey7 {s:ByteArray} (w:World) (HW:Hid (isWord s=true)) (h0':0<s.size) (ha:¬(97:Int)≤((s[0]'h0').toNat:Int)) (h0:(s.toList==[77,65,84,67,72])=false) (h1:(s.toList==[87,72,69,82,69])=false) (h2:(s.toList==[65,78,68])=false) (h3:(s.toList==[82,69,84,85,82,78])=false) (h4:(s.toList==[79,82,68,69,82])=false) (h5:(s.toList==[66,89])=false) (h6:(s.toList==[68,69,83,67])=false) (h7:(s.toList==[83,75,73,80])=true):Calls Tryz.prog 73 #[.string s] w fun e w'=>e=.returned (.int .i64 3)∧w'=w:=by
 go_enter Tryz.func73,Tryz.ntmps73
 go_wp2_with (go_at_call 147;refine(isWordP _ _).mono ?_;rintro e w' ⟨rfl,rfl⟩;rw[HW.out])
 go_ret
 exact⟨rfl,rfl⟩
set_option maxRecDepth 100000 in
set_option maxHeartbeats 2000000 in
theorem kindOfKey8 {s:ByteArray} (w:World) (HW:Hid (isWord s=true)) (h0':0<s.size) (ha:¬(97:Int)≤((s[0]'h0').toNat:Int)) (h0:(s.toList==[77,65,84,67,72])=false) (h1:(s.toList==[87,72,69,82,69])=false) (h2:(s.toList==[65,78,68])=false) (h3:(s.toList==[82,69,84,85,82,78])=false) (h4:(s.toList==[79,82,68,69,82])=false) (h5:(s.toList==[66,89])=false) (h6:(s.toList==[68,69,83,67])=false) (h7:(s.toList==[83,75,73,80])=false) (h8:(s.toList==[76,73,77,73,84])=true):Calls Tryz.prog 73 #[.string s] w fun e w'=>e=.returned (.int .i64 3)∧w'=w:=by
 go_enter Tryz.func73,Tryz.ntmps73
 go_wp2_with (go_at_call 147;refine(isWordP _ _).mono ?_;rintro e w' ⟨rfl,rfl⟩;rw[HW.out])
 go_ret
 exact⟨rfl,rfl⟩
set_option maxRecDepth 100000 in
set_option maxHeartbeats 2000000 in
theorem kindOfKey9 {s:ByteArray} (w:World) (HW:Hid (isWord s=true)) (h0':0<s.size) (ha:¬(97:Int)≤((s[0]'h0').toNat:Int)) (h0:(s.toList==[77,65,84,67,72])=false) (h1:(s.toList==[87,72,69,82,69])=false) (h2:(s.toList==[65,78,68])=false) (h3:(s.toList==[82,69,84,85,82,78])=false) (h4:(s.toList==[79,82,68,69,82])=false) (h5:(s.toList==[66,89])=false) (h6:(s.toList==[68,69,83,67])=false) (h7:(s.toList==[83,75,73,80])=false) (h8:(s.toList==[76,73,77,73,84])=false) (h9:(s.toList==[83,69,84])=true):Calls Tryz.prog 73 #[.string s] w fun e w'=>e=.returned (.int .i64 3)∧w'=w:=by
 go_enter Tryz.func73,Tryz.ntmps73
 go_wp2_with (go_at_call 147;refine(isWordP _ _).mono ?_;rintro e w' ⟨rfl,rfl⟩;rw[HW.out])
 go_ret
 exact⟨rfl,rfl⟩
set_option maxRecDepth 100000 in
set_option maxHeartbeats 2000000 in
theorem kindOfKey10 {s:ByteArray} (w:World) (HW:Hid (isWord s=true)) (h0':0<s.size) (ha:¬(97:Int)≤((s[0]'h0').toNat:Int)) (h0:(s.toList==[77,65,84,67,72])=false) (h1:(s.toList==[87,72,69,82,69])=false) (h2:(s.toList==[65,78,68])=false) (h3:(s.toList==[82,69,84,85,82,78])=false) (h4:(s.toList==[79,82,68,69,82])=false) (h5:(s.toList==[66,89])=false) (h6:(s.toList==[68,69,83,67])=false) (h7:(s.toList==[83,75,73,80])=false) (h8:(s.toList==[76,73,77,73,84])=false) (h9:(s.toList==[83,69,84])=false) (h10:(s.toList==[68,69,76,69,84,69])=true):Calls Tryz.prog 73 #[.string s] w fun e w'=>e=.returned (.int .i64 3)∧w'=w:=by
 go_enter Tryz.func73,Tryz.ntmps73
 go_wp2_with (go_at_call 147;refine(isWordP _ _).mono ?_;rintro e w' ⟨rfl,rfl⟩;rw[HW.out])
 go_ret
 exact⟨rfl,rfl⟩
set_option maxRecDepth 100000 in
set_option maxHeartbeats 2000000 in
theorem kindOfKey11 {s:ByteArray} (w:World) (HW:Hid (isWord s=true)) (h0':0<s.size) (ha:¬(97:Int)≤((s[0]'h0').toNat:Int)) (h0:(s.toList==[77,65,84,67,72])=false) (h1:(s.toList==[87,72,69,82,69])=false) (h2:(s.toList==[65,78,68])=false) (h3:(s.toList==[82,69,84,85,82,78])=false) (h4:(s.toList==[79,82,68,69,82])=false) (h5:(s.toList==[66,89])=false) (h6:(s.toList==[68,69,83,67])=false) (h7:(s.toList==[83,75,73,80])=false) (h8:(s.toList==[76,73,77,73,84])=false) (h9:(s.toList==[83,69,84])=false) (h10:(s.toList==[68,69,76,69,84,69])=false) (h11:(s.toList==[67,82,69,65,84,69])=true):Calls Tryz.prog 73 #[.string s] w fun e w'=>e=.returned (.int .i64 3)∧w'=w:=by
 go_enter Tryz.func73,Tryz.ntmps73
 go_wp2_with (go_at_call 147;refine(isWordP _ _).mono ?_;rintro e w' ⟨rfl,rfl⟩;rw[HW.out])
 go_ret
 exact⟨rfl,rfl⟩
set_option maxRecDepth 100000 in
set_option maxHeartbeats 2000000 in
theorem kindOfKey12 {s:ByteArray} (w:World) (HW:Hid (isWord s=true)) (h0':0<s.size) (ha:¬(97:Int)≤((s[0]'h0').toNat:Int)) (h0:(s.toList==[77,65,84,67,72])=false) (h1:(s.toList==[87,72,69,82,69])=false) (h2:(s.toList==[65,78,68])=false) (h3:(s.toList==[82,69,84,85,82,78])=false) (h4:(s.toList==[79,82,68,69,82])=false) (h5:(s.toList==[66,89])=false) (h6:(s.toList==[68,69,83,67])=false) (h7:(s.toList==[83,75,73,80])=false) (h8:(s.toList==[76,73,77,73,84])=false) (h9:(s.toList==[83,69,84])=false) (h10:(s.toList==[68,69,76,69,84,69])=false) (h11:(s.toList==[67,82,69,65,84,69])=false) (h12:(s.toList==[67,65,76,76])=true):Calls Tryz.prog 73 #[.string s] w fun e w'=>e=.returned (.int .i64 3)∧w'=w:=by
 go_enter Tryz.func73,Tryz.ntmps73
 go_wp2_with (go_at_call 147;refine(isWordP _ _).mono ?_;rintro e w' ⟨rfl,rfl⟩;rw[HW.out])
 go_ret
 exact⟨rfl,rfl⟩
set_option maxRecDepth 100000 in
set_option maxHeartbeats 2000000 in
theorem kindOfKey13 {s:ByteArray} (w:World) (HW:Hid (isWord s=true)) (h0':0<s.size) (ha:¬(97:Int)≤((s[0]'h0').toNat:Int)) (h0:(s.toList==[77,65,84,67,72])=false) (h1:(s.toList==[87,72,69,82,69])=false) (h2:(s.toList==[65,78,68])=false) (h3:(s.toList==[82,69,84,85,82,78])=false) (h4:(s.toList==[79,82,68,69,82])=false) (h5:(s.toList==[66,89])=false) (h6:(s.toList==[68,69,83,67])=false) (h7:(s.toList==[83,75,73,80])=false) (h8:(s.toList==[76,73,77,73,84])=false) (h9:(s.toList==[83,69,84])=false) (h10:(s.toList==[68,69,76,69,84,69])=false) (h11:(s.toList==[67,82,69,65,84,69])=false) (h12:(s.toList==[67,65,76,76])=false) (h13:(s.toList==[73,83])=true):Calls Tryz.prog 73 #[.string s] w fun e w'=>e=.returned (.int .i64 3)∧w'=w:=by
 go_enter Tryz.func73,Tryz.ntmps73
 go_wp2_with (go_at_call 147;refine(isWordP _ _).mono ?_;rintro e w' ⟨rfl,rfl⟩;rw[HW.out])
 go_ret
 exact⟨rfl,rfl⟩
set_option maxRecDepth 100000 in
set_option maxHeartbeats 2000000 in
theorem kindOfKey14 {s:ByteArray} (w:World) (HW:Hid (isWord s=true)) (h0':0<s.size) (ha:¬(97:Int)≤((s[0]'h0').toNat:Int)) (h0:(s.toList==[77,65,84,67,72])=false) (h1:(s.toList==[87,72,69,82,69])=false) (h2:(s.toList==[65,78,68])=false) (h3:(s.toList==[82,69,84,85,82,78])=false) (h4:(s.toList==[79,82,68,69,82])=false) (h5:(s.toList==[66,89])=false) (h6:(s.toList==[68,69,83,67])=false) (h7:(s.toList==[83,75,73,80])=false) (h8:(s.toList==[76,73,77,73,84])=false) (h9:(s.toList==[83,69,84])=false) (h10:(s.toList==[68,69,76,69,84,69])=false) (h11:(s.toList==[67,82,69,65,84,69])=false) (h12:(s.toList==[67,65,76,76])=false) (h13:(s.toList==[73,83])=false) (h14:(s.toList==[78,79,84])=true):Calls Tryz.prog 73 #[.string s] w fun e w'=>e=.returned (.int .i64 3)∧w'=w:=by
 go_enter Tryz.func73,Tryz.ntmps73
 go_wp2_with (go_at_call 147;refine(isWordP _ _).mono ?_;rintro e w' ⟨rfl,rfl⟩;rw[HW.out])
 go_ret
 exact⟨rfl,rfl⟩
set_option maxRecDepth 100000 in
set_option maxHeartbeats 2000000 in
theorem kindOfKey15 {s:ByteArray} (w:World) (HW:Hid (isWord s=true)) (h0':0<s.size) (ha:¬(97:Int)≤((s[0]'h0').toNat:Int)) (h0:(s.toList==[77,65,84,67,72])=false) (h1:(s.toList==[87,72,69,82,69])=false) (h2:(s.toList==[65,78,68])=false) (h3:(s.toList==[82,69,84,85,82,78])=false) (h4:(s.toList==[79,82,68,69,82])=false) (h5:(s.toList==[66,89])=false) (h6:(s.toList==[68,69,83,67])=false) (h7:(s.toList==[83,75,73,80])=false) (h8:(s.toList==[76,73,77,73,84])=false) (h9:(s.toList==[83,69,84])=false) (h10:(s.toList==[68,69,76,69,84,69])=false) (h11:(s.toList==[67,82,69,65,84,69])=false) (h12:(s.toList==[67,65,76,76])=false) (h13:(s.toList==[73,83])=false) (h14:(s.toList==[78,79,84])=false) (h15:(s.toList==[78,85,76,76])=true):Calls Tryz.prog 73 #[.string s] w fun e w'=>e=.returned (.int .i64 3)∧w'=w:=by
 go_enter Tryz.func73,Tryz.ntmps73
 go_wp2_with (go_at_call 147;refine(isWordP _ _).mono ?_;rintro e w' ⟨rfl,rfl⟩;rw[HW.out])
 go_ret
 exact⟨rfl,rfl⟩
set_option maxRecDepth 100000 in
set_option maxHeartbeats 2000000 in
theorem kindOfKey16 {s:ByteArray} (w:World) (HW:Hid (isWord s=true)) (h0':0<s.size) (ha:¬(97:Int)≤((s[0]'h0').toNat:Int)) (h0:(s.toList==[77,65,84,67,72])=false) (h1:(s.toList==[87,72,69,82,69])=false) (h2:(s.toList==[65,78,68])=false) (h3:(s.toList==[82,69,84,85,82,78])=false) (h4:(s.toList==[79,82,68,69,82])=false) (h5:(s.toList==[66,89])=false) (h6:(s.toList==[68,69,83,67])=false) (h7:(s.toList==[83,75,73,80])=false) (h8:(s.toList==[76,73,77,73,84])=false) (h9:(s.toList==[83,69,84])=false) (h10:(s.toList==[68,69,76,69,84,69])=false) (h11:(s.toList==[67,82,69,65,84,69])=false) (h12:(s.toList==[67,65,76,76])=false) (h13:(s.toList==[73,83])=false) (h14:(s.toList==[78,79,84])=false) (h15:(s.toList==[78,85,76,76])=false) (h16:(s.toList==[67,79,85,78,84])=true):Calls Tryz.prog 73 #[.string s] w fun e w'=>e=.returned (.int .i64 3)∧w'=w:=by
 go_enter Tryz.func73,Tryz.ntmps73
 go_wp2_with (go_at_call 147;refine(isWordP _ _).mono ?_;rintro e w' ⟨rfl,rfl⟩;rw[HW.out])
 go_ret
 exact⟨rfl,rfl⟩
set_option maxRecDepth 100000 in
set_option maxHeartbeats 2000000 in
theorem kindOfKey17 {s:ByteArray} (w:World) (HW:Hid (isWord s=true)) (h0':0<s.size) (ha:¬(97:Int)≤((s[0]'h0').toNat:Int)) (h0:(s.toList==[77,65,84,67,72])=false) (h1:(s.toList==[87,72,69,82,69])=false) (h2:(s.toList==[65,78,68])=false) (h3:(s.toList==[82,69,84,85,82,78])=false) (h4:(s.toList==[79,82,68,69,82])=false) (h5:(s.toList==[66,89])=false) (h6:(s.toList==[68,69,83,67])=false) (h7:(s.toList==[83,75,73,80])=false) (h8:(s.toList==[76,73,77,73,84])=false) (h9:(s.toList==[83,69,84])=false) (h10:(s.toList==[68,69,76,69,84,69])=false) (h11:(s.toList==[67,82,69,65,84,69])=false) (h12:(s.toList==[67,65,76,76])=false) (h13:(s.toList==[73,83])=false) (h14:(s.toList==[78,79,84])=false) (h15:(s.toList==[78,85,76,76])=false) (h16:(s.toList==[67,79,85,78,84])=false):Calls Tryz.prog 73 #[.string s] w fun e w'=>e=.returned (.int .i64 2)∧w'=w:=by
 go_enter Tryz.func73,Tryz.ntmps73
 go_wp2_with (go_at_call 147;refine(isWordP _ _).mono ?_;rintro e w' ⟨rfl,rfl⟩;rw[HW.out])
 go_ret
 exact⟨rfl,rfl⟩
theorem t_MATCH:kMATCH.toList=[77,65,84,67,72]:=by decide +kernel
theorem t_WHERE:kWHERE.toList=[87,72,69,82,69]:=by decide +kernel
theorem t_AND:kAND.toList=[65,78,68]:=by decide +kernel
theorem t_RETURN:kRETURN.toList=[82,69,84,85,82,78]:=by decide +kernel
theorem t_ORDER:kORDER.toList=[79,82,68,69,82]:=by decide +kernel
theorem t_BY:kBY.toList=[66,89]:=by decide +kernel
theorem t_DESC:kDESC.toList=[68,69,83,67]:=by decide +kernel
theorem t_SKIP:kSKIP.toList=[83,75,73,80]:=by decide +kernel
theorem t_LIMIT:kLIMIT.toList=[76,73,77,73,84]:=by decide +kernel
theorem t_SET:kSET.toList=[83,69,84]:=by decide +kernel
theorem t_DELETE:kDELETE.toList=[68,69,76,69,84,69]:=by decide +kernel
theorem t_CREATE:kCREATE.toList=[67,82,69,65,84,69]:=by decide +kernel
theorem t_CALL:kCALL.toList=[67,65,76,76]:=by decide +kernel
theorem t_IS:kIS.toList=[73,83]:=by decide +kernel
theorem t_NOT:kNOT.toList=[78,79,84]:=by decide +kernel
theorem t_NULL:kNULL.toList=[78,85,76,76]:=by decide +kernel
theorem t_COUNT:kCOUNT.toList=[67,79,85,78,84]:=by decide +kernel
theorem key_eq (k s:ByteArray):eqB k s=(s.toList==k.toList):=by
 unfold eqB
 rw[Bool.eq_iff_iff]
 simp only[beq_iff_eq]
 exact eq_comm
theorem wordKindOf (s:ByteArray) (w:World):Calls Tryz.prog 73 #[.string s] w fun e w'=>e=.returned (.int .i64 (wordKind s))∧w'=w:=by
 cases hw:isWord s with
 | false=>rw[show wordKind s=0 by unfold wordKind;rw[hw];rfl];exact kindOfNo w hw
 | true=>
  obtain⟨h1,hl⟩:=isWord_first hw
  have hs0:0<s.size:=h1
  have hb:=bt_in hs0
  have hl2:=of_letB hl
  by_cases h9:97≤bt s 0
  ·rw[show wordKind s=1 by unfold wordKind;rw[hw,if_pos h9];rfl]
   exact kindOfName w hw hs0 (by omega) (by omega)
  ·have h9':¬(97:Int)≤((s[0]'hs0).toNat:Int):=by omega
   have hk:wordKind s=if isKeyword s then 3 else 2:=by unfold wordKind;rw[hw,if_neg h9];rfl
   rw[hk]
   have hkk:isKeyword s=((s.toList==[77,65,84,67,72]) || ((s.toList==[87,72,69,82,69]) || ((s.toList==[65,78,68]) || ((s.toList==[82,69,84,85,82,78]) || ((s.toList==[79,82,68,69,82]) || ((s.toList==[66,89]) || ((s.toList==[68,69,83,67]) || ((s.toList==[83,75,73,80]) || ((s.toList==[76,73,77,73,84]) || ((s.toList==[83,69,84]) || ((s.toList==[68,69,76,69,84,69]) || ((s.toList==[67,82,69,65,84,69]) || ((s.toList==[67,65,76,76]) || ((s.toList==[73,83]) || ((s.toList==[78,79,84]) || ((s.toList==[78,85,76,76]) || ((s.toList==[67,79,85,78,84])))))))))))))))))):=by
    unfold isKeyword keywords
    simp only[List.any_cons,List.any_nil,Bool.or_false,key_eq,t_MATCH,t_WHERE,t_AND,t_RETURN,t_ORDER,t_BY,t_DESC,t_SKIP,t_LIMIT,t_SET,t_DELETE,t_CREATE,t_CALL,t_IS,t_NOT,t_NULL,t_COUNT]
   rw[hkk]
   cases h0:(s.toList==[77,65,84,67,72]) with
   | true=>simpa using kindOfKey0 w hw hs0 h9' h0
   | false=>
    cases h1:(s.toList==[87,72,69,82,69]) with
    | true=>simpa using kindOfKey1 w hw hs0 h9' h0 h1
    | false=>
     cases h2:(s.toList==[65,78,68]) with
     | true=>simpa using kindOfKey2 w hw hs0 h9' h0 h1 h2
     | false=>
      cases h3:(s.toList==[82,69,84,85,82,78]) with
      | true=>simpa using kindOfKey3 w hw hs0 h9' h0 h1 h2 h3
      | false=>
       cases h4:(s.toList==[79,82,68,69,82]) with
       | true=>simpa using kindOfKey4 w hw hs0 h9' h0 h1 h2 h3 h4
       | false=>
        cases h5:(s.toList==[66,89]) with
        | true=>simpa using kindOfKey5 w hw hs0 h9' h0 h1 h2 h3 h4 h5
        | false=>
         cases h6:(s.toList==[68,69,83,67]) with
         | true=>simpa using kindOfKey6 w hw hs0 h9' h0 h1 h2 h3 h4 h5 h6
         | false=>
          cases h7:(s.toList==[83,75,73,80]) with
          | true=>simpa using kindOfKey7 w hw hs0 h9' h0 h1 h2 h3 h4 h5 h6 h7
          | false=>
           cases h8:(s.toList==[76,73,77,73,84]) with
           | true=>simpa using kindOfKey8 w hw hs0 h9' h0 h1 h2 h3 h4 h5 h6 h7 h8
           | false=>
            cases h9:(s.toList==[83,69,84]) with
            | true=>simpa using kindOfKey9 w hw hs0 h9' h0 h1 h2 h3 h4 h5 h6 h7 h8 h9
            | false=>
             cases h10:(s.toList==[68,69,76,69,84,69]) with
             | true=>simpa using kindOfKey10 w hw hs0 h9' h0 h1 h2 h3 h4 h5 h6 h7 h8 h9 h10
             | false=>
              cases h11:(s.toList==[67,82,69,65,84,69]) with
              | true=>simpa using kindOfKey11 w hw hs0 h9' h0 h1 h2 h3 h4 h5 h6 h7 h8 h9 h10 h11
              | false=>
               cases h12:(s.toList==[67,65,76,76]) with
               | true=>simpa using kindOfKey12 w hw hs0 h9' h0 h1 h2 h3 h4 h5 h6 h7 h8 h9 h10 h11 h12
               | false=>
                cases h13:(s.toList==[73,83]) with
                | true=>simpa using kindOfKey13 w hw hs0 h9' h0 h1 h2 h3 h4 h5 h6 h7 h8 h9 h10 h11 h12 h13
                | false=>
                 cases h14:(s.toList==[78,79,84]) with
                 | true=>simpa using kindOfKey14 w hw hs0 h9' h0 h1 h2 h3 h4 h5 h6 h7 h8 h9 h10 h11 h12 h13 h14
                 | false=>
                  cases h15:(s.toList==[78,85,76,76]) with
                  | true=>simpa using kindOfKey15 w hw hs0 h9' h0 h1 h2 h3 h4 h5 h6 h7 h8 h9 h10 h11 h12 h13 h14 h15
                  | false=>
                   cases h16:(s.toList==[67,79,85,78,84]) with
                   | true=>simpa using kindOfKey16 w hw hs0 h9' h0 h1 h2 h3 h4 h5 h6 h7 h8 h9 h10 h11 h12 h13 h14 h15 h16
                   | false=>
                    simpa using kindOfKey17 w hw hs0 h9' h0 h1 h2 h3 h4 h5 h6 h7 h8 h9 h10 h11 h12 h13 h14 h15 h16
end Go.Proofs.YtobgbmfpicmpcaaGreatDoor

/- The program's parser: the kind of a token; is the next one of this kind? -/
namespace Go.Proofs.YtobgbmfpicmpcaaGreatDoor
open Go.RowKit
theorem wordKind_range (s:ByteArray):wordKind s=0∨wordKind s=1∨wordKind s=2∨wordKind s=3:=by
 unfold wordKind
 repeat' split
 all_goals simp
set_option maxRecDepth 100000 in
set_option maxHeartbeats 2000000 in
theorem kindOfWordP (s:ByteArray) (w:World):Calls Tryz.prog 321 #[.string s] w fun e w'=>e=.returned (.int .i64 (kindW s))∧w'=w:=by
 rcases wordKind_range s with h|h|h|h
 all_goals
  have HK:=Lib.hid h
  have HE:=Lib.hid (kindW_eq s)
  clear h
  go_enter Tryz.func321,Tryz.ntmps321
  go_wp2_with (go_at_call 73;refine(wordKindOf _ _).mono ?_;rintro e w' ⟨rfl,rfl⟩;rw[HK.out])
  go_ret
  exact⟨by rw[HE.out,HK.out];rfl,rfl⟩
set_option maxRecDepth 100000 in
set_option maxHeartbeats 2000000 in
theorem kindOfP (t:Tok) (w:World):Calls Tryz.prog 275 #[.agg #[.int .i64 t.kind,.string t.text,.int .i64 t.val]] w fun e w'=>e=.returned (.int .i64 (kindP t))∧Below w.heap.size w w':=by
 have HB:Hid (Below w.heap.size w (w.alloc (.cells #[.int .i64 t.kind,.string t.text,.int .i64 t.val] 153))):=Below.alloc (Below.refl _ _) (Nat.le_refl _) _
 by_cases h2:t.kind=2
 ·have HK:Hid (kindP t=4):=by show _=_;unfold kindP;rw[if_pos h2]
  go_enter Tryz.func275,Tryz.ntmps275
  go_wp2_with fail
  refine bodyPost_ret (v:=.int .i64 4) ?_ rfl ⟨by rw[HK.out],?_⟩
  ·simp[results,Tryz.results275,go_sem]
  ·simpa [h2] using HB.out
 ·by_cases h3:t.kind=3
  ·have HK:Hid (kindP t=5):=by show _=_;unfold kindP;rw[if_neg h2,if_pos h3]
   go_enter Tryz.func275,Tryz.ntmps275
   go_wp2_with fail
   refine bodyPost_ret (v:=.int .i64 5) ?_ rfl ⟨by rw[HK.out],?_⟩
   ·simp[results,Tryz.results275,go_sem]
   ·simpa [h3] using HB.out
  ·by_cases h1:t.kind=1
   ·have HK:Hid (kindP t=kindW t.text):=by show _=_;unfold kindP;rw[if_neg h2,if_neg h3,if_pos h1]
    go_enter Tryz.func275,Tryz.ntmps275
    go_wp2_with (go_at_call 321;refine(kindOfWordP _ _).mono ?_;rintro e w' ⟨rfl,rfl⟩)
    refine bodyPost_ret (v:=.int .i64 (kindW t.text)) ?_ rfl ⟨by rw[HK.out],?_⟩
    ·simp[results,Tryz.results275,go_sem]
    ·simpa [h1] using HB.out
   ·have HK:Hid (kindP t=0):=by show _=_;unfold kindP;rw[if_neg h2,if_neg h3,if_neg h1]
    go_enter Tryz.func275,Tryz.ntmps275
    go_wp2_with fail
    refine bodyPost_ret (v:=.int .i64 0) ?_ rfl ⟨by rw[HK.out],HB.out⟩
    simp[results,Tryz.results275,go_sem]
set_option maxRecDepth 100000 in
set_option maxHeartbeats 2000000 in
theorem sees_ {b G:Nat} {st:RS} {W:World} (h:PI b G st W) (k:Int) (m:Bool) (hm:seesP k st=m):
  Calls Tryz.prog 217 #[.pointer (some ⟨b,0,none⟩),.int .i64 k] W fun e W'=>e=.returned (.bool m)∧PI b G st W'∧W.grownBy W' (some b):=by
 obtain⟨ao,c,hb,hc,hs⟩:=h.box
 have HH:=Lib.hid h
 cases hr:st.rest with
 | nil=>
  rw[hr] at hb
  have hm0:m=false:=by rw[←hm];unfold seesP;rw[hr]
  subst hm0
  have c0:=hb.at_ 0 (.slice ao 0 c) rfl
  clear hs h hc hb hm hr
  go_enter Tryz.func217,Tryz.ntmps217
  go_wp2_with fail
  refine bodyPost_ret (v:=.bool false) ?_ rfl ⟨rfl,HH.out,grown_refl _ _⟩
  simp[results,Tryz.results217,go_sem]
 | cons t r=>
  have hmt:m=decide (kindP t=k):=by rw[←hm];unfold seesP;rw[hr]
  have HM:=Lib.hid hmt
  rw[hr] at hs hc hb
  obtain⟨o,rfl,a0,a1,a2⟩:=hs 0 (by simp)
  have k0:W.cell? ⟨G,o,none⟩=some (.int .i64 t.kind):=by simpa using a0
  have k1:W.cell? ⟨G,o+1,none⟩=some (.string t.text):=by simpa using a1
  have k2:W.cell? ⟨G,o+2,none⟩=some (.int .i64 t.val):=by simpa using a2
  have c0:=hb.at_ 0 (.slice (some ⟨G,o,none⟩) (r.length+1) c) rfl
  clear hs h hc hb a0 a1 a2 hm hr hmt
  go_enter Tryz.func217,Tryz.ntmps217
  go_wp2_with fail
  refine(kindOfP t W).mono ?_
  rintro e W1 ⟨rfl,hb1⟩
  have HB1:=Lib.hid hb1
  clear hb1
  go_wp2_with fail
  refine bodyPost_ret (v:=.bool (decide (kindP t=k))) ?_ rfl ⟨by rw[HM.out],HH.out.quiet (grown_below HB1.out none),grown_below HB1.out _⟩
  simp[results,Tryz.results217,go_sem]
  by_cases hk:kindP t=k<;>simp[hk]
end Go.Proofs.YtobgbmfpicmpcaaGreatDoor

/- The program's parser: a token is taken; names, titles and numbers; all done? -/
namespace Go.Proofs.YtobgbmfpicmpcaaGreatDoor
open Go.RowKit
theorem PI.ne {b G x:Nat} {st:RS} {W:World} (h:PI b G st W) (hx:W.heap.size≤x):b≠x∧G≠x:=by
 obtain⟨ao,c,hb,_⟩:=h.box
 have:=hb.lt
 exact⟨by omega,by have:=h.far.2;omega⟩
set_option maxRecDepth 100000 in
set_option maxHeartbeats 2000000 in
theorem takeNo {b G:Nat} {st:RS} {W:World} (h:PI b G st W) (k:Int) (hm:seesP k st=false):
  Calls Tryz.prog 155 #[.pointer (some ⟨b,0,none⟩),.int .i64 k] W fun e W'=>e=.returned (.agg #[.int .i64 0,.string ⟨#[]⟩,.int .i64 0])∧PI b G failP W'∧W.grownBy W' (some b):=by
 have g0:=grown_alloc W (.cells #[.int .i64 0,.string ⟨#[]⟩,.int .i64 0] 153) none
 have HG0:=Lib.hid (grown_alloc W (.cells #[.int .i64 0,.string ⟨#[]⟩,.int .i64 0] 153) (some b))
 have H0:=Lib.hid (h.quiet g0)
 have HL0:=Lib.hid (Loc.new W #[.int .i64 0,.string ⟨#[]⟩,.int .i64 0] 153)
 have HNE:=Lib.hid (h.ne (Nat.le_refl _)).1
 have HNG:=Lib.hid (h.ne (Nat.le_refl _)).2
 have HM:=Lib.hid hm
 clear h g0 hm
 go_enter Tryz.func155,Tryz.ntmps155
 go_wp2_with fail
 obtain⟨X,hX⟩:∃X,X=W.heap.size:=⟨_,rfl⟩
 rw[←hX] at HL0 HNE HNG⊢
 have hXW:W.heap.size≤X:=by omega
 clear hX
 generalize W.alloc (.cells #[.int .i64 0,.string ⟨#[]⟩,.int .i64 0] 153)=W1 at H0 HL0 HG0⊢
 refine(sees_ H0.out k false HM.out).mono ?_
 rintro e W2 ⟨rfl,h2,g2⟩
 have H2:=Lib.hid h2
 have G2:=Lib.hid (grown_trans HG0.out g2)
 have HL2:=Lib.hid (HL0.out.grown g2 (by intro e;injection e with e;exact HNE.out e.symm))
 clear h2 g2 H0 HL0
 go_wp2_with fail
 refine(fail_ H2.out).mono ?_
 rintro e W3 ⟨rfl,h3,g3⟩
 have H3:=Lib.hid h3
 have G3:=Lib.hid (grown_trans G2.out g3)
 have HL3:=Lib.hid (HL2.out.grown g3 (by intro e;injection e with e;exact HNE.out e.symm))
 have c0:=HL3.out.at_ 0 (.int .i64 0) rfl
 have c1:=HL3.out.at_ 1 (.string ⟨#[]⟩) rfl
 have c2:=HL3.out.at_ 2 (.int .i64 0) rfl
 have f0:W3.frozen? ⟨X,0,none⟩=false:=HL3.out.free 0
 have f1:W3.frozen? ⟨X,1,none⟩=false:=HL3.out.free 1
 have f2:W3.frozen? ⟨X,2,none⟩=false:=HL3.out.free 2
 clear h3 g3 H2 HL2
 go_wp2_with fail
 have hF:Loc (((W3.setCell ⟨X,0,none⟩ (.int .i64 0)).setCell ⟨X,1,none⟩ (.string ⟨#[]⟩)).setCell ⟨X,2,none⟩ (.int .i64 0)) X #[.int .i64 0,.string ⟨#[]⟩,.int .i64 0] 153:=((HL3.out.set 0 _).set 1 _).set 2 _
 have hP:PI b G failP (((W3.setCell ⟨X,0,none⟩ (.int .i64 0)).setCell ⟨X,1,none⟩ (.string ⟨#[]⟩)).setCell ⟨X,2,none⟩ (.int .i64 0)):=H3.out.kept (r:=some X) (grown_trans (grown_trans (grown_set _ _ _ _) (grown_set _ _ _ _)) (grown_set _ _ _ _)) (by intro e;injection e with e;exact HNE.out e) (by intro e;injection e with e;exact HNG.out e)
 have hG:=grown_own (grown_own (grown_own G3.out hXW 0 (.int .i64 0)) hXW 1 (.string ⟨#[]⟩)) hXW 2 (.int .i64 0)
 generalize (((W3.setCell ⟨X,0,none⟩ (.int .i64 0)).setCell ⟨X,1,none⟩ (.string ⟨#[]⟩)).setCell ⟨X,2,none⟩ (.int .i64 0))=WF at hF hP hG⊢
 refine bodyPost_ret (v:=.agg #[.int .i64 0,.string ⟨#[]⟩,.int .i64 0]) ?_ rfl ⟨rfl,hP,hG⟩
 have r0:=hF.cell 0
 have r1:=hF.cell 1
 have r2:=hF.cell 2
 simp at r0 r1 r2
 simp[results,Tryz.results155,go_sem,r0,r1,r2]
set_option maxRecDepth 100000 in
set_option maxHeartbeats 2000000 in
theorem takeYes {b G:Nat} {st:RS} {W:World} (h:PI b G st W) (k:Int) (hm:seesP k st=true) {t:Tok} {r:List Tok} (hr:st.rest=t::r):
  Calls Tryz.prog 155 #[.pointer (some ⟨b,0,none⟩),.int .i64 k] W fun e W'=>e=.returned (.agg #[.int .i64 t.kind,.string t.text,.int .i64 t.val])∧PI b G ⟨r,st.bad⟩ W'∧W.grownBy W' (some b):=by
 have g0:=grown_alloc W (.cells #[.int .i64 0,.string ⟨#[]⟩,.int .i64 0] 153) none
 have HG0:=Lib.hid (grown_alloc W (.cells #[.int .i64 0,.string ⟨#[]⟩,.int .i64 0] 153) (some b))
 have H0:=Lib.hid (h.quiet g0)
 have HL0:=Lib.hid (Loc.new W #[.int .i64 0,.string ⟨#[]⟩,.int .i64 0] 153)
 have HNE:=Lib.hid (h.ne (Nat.le_refl _)).1
 have HNG:=Lib.hid (h.ne (Nat.le_refl _)).2
 have HM:=Lib.hid hm
 have HR:=Lib.hid hr
 clear h g0 hm hr
 go_enter Tryz.func155,Tryz.ntmps155
 go_wp2_with fail
 obtain⟨X,hX⟩:∃X,X=W.heap.size:=⟨_,rfl⟩
 rw[←hX] at HL0 HNE HNG⊢
 have hXW:W.heap.size≤X:=by omega
 clear hX
 generalize W.alloc (.cells #[.int .i64 0,.string ⟨#[]⟩,.int .i64 0] 153)=W1 at H0 HL0 HG0⊢
 refine(sees_ H0.out k true HM.out).mono ?_
 rintro e W2 ⟨rfl,h2,g2⟩
 have H2:=Lib.hid h2
 have G2:=Lib.hid (grown_trans HG0.out g2)
 have HL2:=Lib.hid (HL0.out.grown g2 (by intro e;injection e with e;exact HNE.out e.symm))
 obtain⟨ao,c,hb,hc,hs⟩:=h2.box
 rw[HR.out] at hb hc hs
 obtain⟨o,rfl,a0,a1,a2⟩:=hs 0 (by simp)
 have k0:W2.cell? ⟨G,o,none⟩=some (.int .i64 t.kind):=by simpa using a0
 have k1:W2.cell? ⟨G,o+1,none⟩=some (.string t.text):=by simpa using a1
 have k2:W2.cell? ⟨G,o+2,none⟩=some (.int .i64 t.val):=by simpa using a2
 have c0:=hb.at_ 0 (.slice (some ⟨G,o,none⟩) (r.length+1) c) rfl
 have hc':r.length+1≤c:=hc
 have HB:=Lib.hid hb
 have HS:=Lib.hid hs
 clear h2 g2 H0 HL0 hb hc hs a0 a1 a2
 go_upto_region 5 with fail
 obtain⟨Y,hY⟩:∃Y,Y=W2.heap.size:=⟨_,rfl⟩
 have g3:=grown_alloc W2 (.cells #[.int .i64 t.kind,.string t.text,.int .i64 t.val] 153) none
 have G3:=Lib.hid (grown_trans G2.out (grown_alloc W2 (.cells #[.int .i64 t.kind,.string t.text,.int .i64 t.val] 153) (some b)))
 have H3:=Lib.hid (H2.out.quiet g3)
 have HL3:=Lib.hid (HL2.out.grown g3 (by simp))
 have HB3:=Lib.hid (HB.out.grown g3 (by simp))
 have HY:=Lib.hid (Loc.new W2 #[.int .i64 t.kind,.string t.text,.int .i64 t.val] 153)
 have HYB:Hid (Y≠b):=by have:=HB.out.lt;show Y≠b;omega
 have HS3:Hid (TSeen G (some ⟨G,o,none⟩) (t::r) (W2.alloc (.cells #[.int .i64 t.kind,.string t.text,.int .i64 t.val] 153))):=by
  intro j hj
  obtain⟨o',e,a0,a1,a2⟩:=HS.out j hj
  have hlt:=H2.out.far.2
  have hB:=g3.block G hlt (by simp)
  have hcc:∀x,(W2.alloc (.cells #[.int .i64 t.kind,.string t.text,.int .i64 t.val] 153)).cell? ⟨G,x,none⟩=W2.cell? ⟨G,x,none⟩:=fun x=>by simp only[World.cell?,hB]
  exact⟨o',e,by rw[hcc];exact a0,by rw[hcc];exact a1,by rw[hcc];exact a2⟩
 rw[←hY] at HY⊢
 clear hY g3
 generalize W2.alloc (.cells #[.int .i64 t.kind,.string t.text,.int .i64 t.val] 153)=W3 at H3 HL3 HB3 HY HS3 G3⊢
 clear c0 k0 k1 k2 HB HS H2 HL2 G2
 have c0:=HB3.out.at_ 0 (.slice (some ⟨G,o,none⟩) (r.length+1) c) rfl
 have fb0:W3.frozen? ⟨b,0,none⟩=false:=HB3.out.free 0
 have k0:True:=trivial
 have k1:True:=trivial
 have k2:True:=trivial
 by_cases hc1:c=1
 ·subst hc1
  have hr0:r=[]:=List.length_eq_zero_iff.1 (by omega)
  have hrl:r.length=0:=by rw[hr0];rfl
  clear hr0
  have H4a:PI b G ⟨r,st.bad⟩ (W3.setCell ⟨b,0,none⟩ (.slice (some ⟨G,o,none⟩) 0 0)):=by have h:=H3.out.adv HR.out HB3.out (ao:=some ⟨G,o,none⟩) (c:=0) (by omega) (by intro j hj;omega);rw[hrl] at h;exact h
  have H4:=Lib.hid H4a
  have hY4:=(HY.out.setOther HYB.out 0 (.slice (some ⟨G,o,none⟩) 0 0))
  have hL4:=(HL3.out.setOther (fun e=>HNE.out e.symm) 0 (.slice (some ⟨G,o,none⟩) 0 0))
  have hG4:=grown_trans G3.out (grown_set W3 b 0 (.slice (some ⟨G,o,none⟩) 0 0))
  go_upto_region 6 with fail
  generalize W3.setCell ⟨b,0,none⟩ (.slice (some ⟨G,o,none⟩) 0 0)=W4 at H4 hY4 hL4 hG4⊢
  clear H4a k0 k1 k2 c0 fb0
  have y0:=hY4.at_ 0 (.int .i64 t.kind) rfl
  have y1:=hY4.at_ 1 (.string t.text) rfl
  have y2:=hY4.at_ 2 (.int .i64 t.val) rfl
  have x0:=hL4.at_ 0 (.int .i64 0) rfl
  have x1:=hL4.at_ 1 (.string ⟨#[]⟩) rfl
  have x2:=hL4.at_ 2 (.int .i64 0) rfl
  have f0:W4.frozen? ⟨X,0,none⟩=false:=hL4.free 0
  have f1:W4.frozen? ⟨X,1,none⟩=false:=hL4.free 1
  have f2:W4.frozen? ⟨X,2,none⟩=false:=hL4.free 2
  have HL4:=Lib.hid hL4
  have HG4:=Lib.hid hG4
  clear hY4 hL4 hG4
  go_wp2_with fail
  have hF:Loc (((W4.setCell ⟨X,0,none⟩ (.int .i64 t.kind)).setCell ⟨X,1,none⟩ (.string t.text)).setCell ⟨X,2,none⟩ (.int .i64 t.val)) X #[.int .i64 t.kind,.string t.text,.int .i64 t.val] 153:=((HL4.out.set 0 _).set 1 _).set 2 _
  have hP:PI b G ⟨r,st.bad⟩ (((W4.setCell ⟨X,0,none⟩ (.int .i64 t.kind)).setCell ⟨X,1,none⟩ (.string t.text)).setCell ⟨X,2,none⟩ (.int .i64 t.val)):=H4.out.kept (r:=some X) (grown_trans (grown_trans (grown_set _ _ _ _) (grown_set _ _ _ _)) (grown_set _ _ _ _)) (by intro e;injection e with e;exact HNE.out e) (by intro e;injection e with e;exact HNG.out e)
  have hG:=grown_own (grown_own (grown_own HG4.out hXW 0 (.int .i64 t.kind)) hXW 1 (.string t.text)) hXW 2 (.int .i64 t.val)
  generalize (((W4.setCell ⟨X,0,none⟩ (.int .i64 t.kind)).setCell ⟨X,1,none⟩ (.string t.text)).setCell ⟨X,2,none⟩ (.int .i64 t.val))=WF at hF hP hG⊢
  refine bodyPost_ret (v:=.agg #[.int .i64 t.kind,.string t.text,.int .i64 t.val]) ?_ rfl ⟨rfl,hP,hG⟩
  have r0:=hF.cell 0
  have r1:=hF.cell 1
  have r2:=hF.cell 2
  simp at r0 r1 r2
  simp[results,Tryz.results155,go_sem,r0,r1,r2]
 ·have H4a:PI b G ⟨r,st.bad⟩ (W3.setCell ⟨b,0,none⟩ (.slice (some ⟨G,o+3,none⟩) r.length (c - 1))):=H3.out.adv HR.out HB3.out (by omega) HS3.out.tail
  have H4:=Lib.hid H4a
  have hY4:=(HY.out.setOther HYB.out 0 (.slice (some ⟨G,o+3,none⟩) r.length (c - 1)))
  have hL4:=(HL3.out.setOther (fun e=>HNE.out e.symm) 0 (.slice (some ⟨G,o+3,none⟩) r.length (c - 1)))
  have hG4:=grown_trans G3.out (grown_set W3 b 0 (.slice (some ⟨G,o+3,none⟩) r.length (c - 1)))
  go_upto_region 6 with fail
  generalize W3.setCell ⟨b,0,none⟩ (.slice (some ⟨G,o+3,none⟩) r.length (c - 1))=W4 at H4 hY4 hL4 hG4⊢
  clear H4a k0 k1 k2 c0 fb0
  have y0:=hY4.at_ 0 (.int .i64 t.kind) rfl
  have y1:=hY4.at_ 1 (.string t.text) rfl
  have y2:=hY4.at_ 2 (.int .i64 t.val) rfl
  have x0:=hL4.at_ 0 (.int .i64 0) rfl
  have x1:=hL4.at_ 1 (.string ⟨#[]⟩) rfl
  have x2:=hL4.at_ 2 (.int .i64 0) rfl
  have f0:W4.frozen? ⟨X,0,none⟩=false:=hL4.free 0
  have f1:W4.frozen? ⟨X,1,none⟩=false:=hL4.free 1
  have f2:W4.frozen? ⟨X,2,none⟩=false:=hL4.free 2
  have HL4:=Lib.hid hL4
  have HG4:=Lib.hid hG4
  clear hY4 hL4 hG4
  go_wp2_with fail
  have hF:Loc (((W4.setCell ⟨X,0,none⟩ (.int .i64 t.kind)).setCell ⟨X,1,none⟩ (.string t.text)).setCell ⟨X,2,none⟩ (.int .i64 t.val)) X #[.int .i64 t.kind,.string t.text,.int .i64 t.val] 153:=((HL4.out.set 0 _).set 1 _).set 2 _
  have hP:PI b G ⟨r,st.bad⟩ (((W4.setCell ⟨X,0,none⟩ (.int .i64 t.kind)).setCell ⟨X,1,none⟩ (.string t.text)).setCell ⟨X,2,none⟩ (.int .i64 t.val)):=H4.out.kept (r:=some X) (grown_trans (grown_trans (grown_set _ _ _ _) (grown_set _ _ _ _)) (grown_set _ _ _ _)) (by intro e;injection e with e;exact HNE.out e) (by intro e;injection e with e;exact HNG.out e)
  have hG:=grown_own (grown_own (grown_own HG4.out hXW 0 (.int .i64 t.kind)) hXW 1 (.string t.text)) hXW 2 (.int .i64 t.val)
  generalize (((W4.setCell ⟨X,0,none⟩ (.int .i64 t.kind)).setCell ⟨X,1,none⟩ (.string t.text)).setCell ⟨X,2,none⟩ (.int .i64 t.val))=WF at hF hP hG⊢
  refine bodyPost_ret (v:=.agg #[.int .i64 t.kind,.string t.text,.int .i64 t.val]) ?_ rfl ⟨rfl,hP,hG⟩
  have r0:=hF.cell 0
  have r1:=hF.cell 1
  have r2:=hF.cell 2
  simp at r0 r1 r2
  simp[results,Tryz.results155,go_sem,r0,r1,r2]
theorem take_ {b G:Nat} {st:RS} {W:World} (h:PI b G st W) (k:Int):
  Calls Tryz.prog 155 #[.pointer (some ⟨b,0,none⟩),.int .i64 k] W fun e W'=>e=.returned (.agg #[.int .i64 (takeP k st).1.kind,.string (takeP k st).1.text,.int .i64 (takeP k st).1.val])∧PI b G (takeP k st).2 W'∧W.grownBy W' (some b):=by
 cases hm:seesP k st with
 | false=>
  have e:takeP k st=(tok0,failP):=by unfold takeP;rw[hm];rfl
  rw[e]
  exact takeNo h k hm
 | true=>
  cases hr:st.rest with
  | nil=>unfold seesP at hm;rw[hr] at hm;cases hm
  | cons t r=>
   have e:takeP k st=(t,⟨r,st.bad⟩):=by unfold takeP;rw[hm,hr];rfl
   rw[e]
   exact takeYes h k hm hr
end Go.Proofs.YtobgbmfpicmpcaaGreatDoor

/- The program's parser: names, titles, numbers; all done? -/
namespace Go.Proofs.YtobgbmfpicmpcaaGreatDoor
open Go.RowKit
theorem fieldText (a c:Int) (s:ByteArray) (w:World):(Instr.field 153 (.agg #[.int .i64 a,.string s,.int .i64 c]) 1).run Tryz.prog w=.ok (.string s) w:=by kernel_rfl
theorem fieldVal (a c:Int) (s:ByteArray) (w:World):(Instr.field 153 (.agg #[.int .i64 a,.string s,.int .i64 c]) 2).run Tryz.prog w=.ok (.int .i64 c) w:=by kernel_rfl
set_option maxRecDepth 100000 in
set_option maxHeartbeats 2000000 in
theorem name_ {b G:Nat} {st s1:RS} {n:ByteArray} {W:World} (h:PI b G st W) (hn:nameP st=(n,s1)):
  Calls Tryz.prog 95 #[.pointer (some ⟨b,0,none⟩)] W fun e W'=>e=.returned (.string n)∧PI b G s1 W'∧W.grownBy W' (some b):=by
 have HH:=Lib.hid h
 obtain⟨t,s2,ht⟩:∃t s2,takeP 1 st=(t,s2):=⟨_,_,rfl⟩
 have e:(t.text,s2)=(n,s1):=by rw[←hn];unfold nameP;rw[ht]
 injection e with e1 e2
 have HT:=Lib.hid ht
 have HE1:=Lib.hid e1
 have HE2:=Lib.hid e2
 have hfd:=fieldText t.kind t.val t.text
 clear h hn ht e1 e2
 go_enter Tryz.func95,Tryz.ntmps95
 go_wp2_with fail
 refine(take_ HH.out 1).mono ?_
 rintro e W1 ⟨rfl,h1,g1⟩
 rw[HT.out] at h1⊢
 have H1:=Lib.hid h1
 have G1:=Lib.hid g1
 clear h1 g1
 go_wp2_with fail
 refine bodyPost_ret (v:=.string t.text) ?_ rfl ⟨by rw[HE1.out],by rw[←HE2.out];exact H1.out,G1.out⟩
 simp[results,Tryz.results95,go_sem]
set_option maxRecDepth 100000 in
set_option maxHeartbeats 2000000 in
theorem title_ {b G:Nat} {st s1:RS} {n:ByteArray} {W:World} (h:PI b G st W) (hn:titleP st=(n,s1)):
  Calls Tryz.prog 156 #[.pointer (some ⟨b,0,none⟩)] W fun e W'=>e=.returned (.string n)∧PI b G s1 W'∧W.grownBy W' (some b):=by
 have HH:=Lib.hid h
 obtain⟨t,s2,ht⟩:∃t s2,takeP 2 st=(t,s2):=⟨_,_,rfl⟩
 have e:(t.text,s2)=(n,s1):=by rw[←hn];unfold titleP;rw[ht]
 injection e with e1 e2
 have HT:=Lib.hid ht
 have HE1:=Lib.hid e1
 have HE2:=Lib.hid e2
 have hfd:=fieldText t.kind t.val t.text
 clear h hn ht e1 e2
 go_enter Tryz.func156,Tryz.ntmps156
 go_wp2_with fail
 refine(take_ HH.out 2).mono ?_
 rintro e W1 ⟨rfl,h1,g1⟩
 rw[HT.out] at h1⊢
 have H1:=Lib.hid h1
 have G1:=Lib.hid g1
 clear h1 g1
 go_wp2_with fail
 refine bodyPost_ret (v:=.string t.text) ?_ rfl ⟨by rw[HE1.out],by rw[←HE2.out];exact H1.out,G1.out⟩
 simp[results,Tryz.results156,go_sem]
set_option maxRecDepth 100000 in
set_option maxHeartbeats 2000000 in
theorem number_ {b G:Nat} {st s1:RS} {lo hi n:Int} {W:World} (h:PI b G st W) (hn:numberP lo hi st=(n,s1)):
  Calls Tryz.prog 218 #[.pointer (some ⟨b,0,none⟩),.int .i64 lo,.int .i64 hi] W fun e W'=>e=.returned (.int .i64 n)∧PI b G s1 W'∧W.grownBy W' (some b):=by
 have HH:=Lib.hid h
 obtain⟨t,s2,ht⟩:∃t s2,takeP 4 st=(t,s2):=⟨_,_,rfl⟩
 have e:(t.val,if t.val<lo∨hi<t.val then failP else s2)=(n,s1):=by rw[←hn];unfold numberP;rw[ht]
 injection e with e1 e2
 have HT:=Lib.hid ht
 have HE1:=Lib.hid e1
 have HE2:=Lib.hid e2
 have hfd:=fieldVal t.kind t.val t.text
 clear h hn ht e1 e2
 by_cases hlo:t.val<lo
 ·have HS:Hid (s1=failP):=by show _=_;rw[←HE2.out,if_pos (Or.inl hlo)]
  go_enter Tryz.func218,Tryz.ntmps218
  go_wp2_with fail
  refine(take_ HH.out 4).mono ?_
  rintro e W1 ⟨rfl,h1,g1⟩
  rw[HT.out] at h1⊢
  have H1:=Lib.hid h1
  have G1:=Lib.hid g1
  clear h1 g1
  go_wp2_with fail
  refine(fail_ H1.out).mono ?_
  rintro e W2 ⟨rfl,h2,g2⟩
  have H2:=Lib.hid h2
  have G2:=Lib.hid g2
  clear h2 g2
  go_wp2_with fail
  refine bodyPost_ret (v:=.int .i64 t.val) ?_ rfl ⟨by rw[HE1.out],by rw[HS.out];exact H2.out,grown_trans G1.out G2.out⟩
  simp[results,Tryz.results218,go_sem]
 ·by_cases hhi:hi<t.val
  ·have HS:Hid (s1=failP):=by show _=_;rw[←HE2.out,if_pos (Or.inr hhi)]
   go_enter Tryz.func218,Tryz.ntmps218
   go_wp2_with fail
   refine(take_ HH.out 4).mono ?_
   rintro e W1 ⟨rfl,h1,g1⟩
   rw[HT.out] at h1⊢
   have H1:=Lib.hid h1
   have G1:=Lib.hid g1
   clear h1 g1
   go_wp2_with fail
   refine(fail_ H1.out).mono ?_
   rintro e W2 ⟨rfl,h2,g2⟩
   have H2:=Lib.hid h2
   have G2:=Lib.hid g2
   clear h2 g2
   go_wp2_with fail
   refine bodyPost_ret (v:=.int .i64 t.val) ?_ rfl ⟨by rw[HE1.out],by rw[HS.out];exact H2.out,grown_trans G1.out G2.out⟩
   simp[results,Tryz.results218,go_sem]
  ·have HS:Hid (s1=s2):=by show _=_;rw[←HE2.out,if_neg (by rintro (e|e);exact hlo e;exact hhi e)]
   go_enter Tryz.func218,Tryz.ntmps218
   go_wp2_with fail
   refine(take_ HH.out 4).mono ?_
   rintro e W1 ⟨rfl,h1,g1⟩
   rw[HT.out] at h1⊢
   have H1:=Lib.hid h1
   have G1:=Lib.hid g1
   clear h1 g1
   go_wp2_with fail
   refine bodyPost_ret (v:=.int .i64 t.val) ?_ rfl ⟨by rw[HE1.out],by rw[HS.out];exact H1.out,G1.out⟩
   simp[results,Tryz.results218,go_sem]
set_option maxRecDepth 100000 in
set_option maxHeartbeats 2000000 in
theorem done_ {b G:Nat} {st:RS} {W:World} (h:PI b G st W):
  Calls Tryz.prog 46 #[.pointer (some ⟨b,0,none⟩)] W fun e W'=>e=.returned (.bool (!st.bad&&st.rest.isEmpty))∧W'=W:=by
 obtain⟨ao,c,hb,hc,hs⟩:=h.box
 have c0:=hb.at_ 0 (.slice ao st.rest.length c) rfl
 have c1:=hb.at_ 1 (.bool st.bad) rfl
 clear hs h hc hb
 cases hbad:st.bad with
 | true=>
  rw[hbad] at c1
  go_enter Tryz.func46,Tryz.ntmps46
  go_wp2_with fail
  refine bodyPost_ret (v:=.bool false) ?_ rfl ⟨rfl,rfl⟩
  simp[results,Tryz.results46,go_sem]
 | false=>
  rw[hbad] at c1
  cases hr:st.rest with
  | nil=>
   rw[hr] at c0
   have c0':W.cell? ⟨b,0,none⟩=some (.slice ao 0 c):=c0
   clear c0
   go_enter Tryz.func46,Tryz.ntmps46
   go_wp2_with fail
   refine bodyPost_ret (v:=.bool true) ?_ rfl ⟨rfl,rfl⟩
   simp[results,Tryz.results46,go_sem]
  | cons t r=>
   rw[hr] at c0
   have c0':W.cell? ⟨b,0,none⟩=some (.slice ao (r.length+1) c):=c0
   clear c0
   go_enter Tryz.func46,Tryz.ntmps46
   go_wp2_with fail
   refine bodyPost_ret (v:=.bool false) ?_ rfl ⟨rfl,rfl⟩
   simp[results,Tryz.results46,go_sem]
   try omega
end Go.Proofs.YtobgbmfpicmpcaaGreatDoor

/- The program's parser: properties, terms, pairs. -/
namespace Go.Proofs.YtobgbmfpicmpcaaGreatDoor
open Go.RowKit
structure PX (W0:World) (b G:Nat) (st:RS) (x:Nat) (cx:Array Value) (T:TypeId) (w:World):Prop where
 p:PI b G st w
 lx:Loc w x cx T
 nx:W0.heap.size≤x
 xb:x≠b
 xg:x≠G
 grown:W0.grownBy w (some b)
theorem PX.start {W:World} {b G:Nat} {st:RS} (h:PI b G st W) (cx:Array Value) (T:TypeId):PX W b G st W.heap.size cx T (W.alloc (.cells cx T)):=
 ⟨h.quiet (grown_alloc W _ none),Loc.new W cx T,Nat.le_refl _,fun e=>(h.ne (Nat.le_refl _)).1 e.symm,fun e=>(h.ne (Nat.le_refl _)).2 e.symm,grown_alloc W _ _⟩
theorem PX.call {W0 w w':World} {b G x:Nat} {st st':RS} {cx:Array Value} {T:TypeId} (h:PX W0 b G st x cx T w) (h1:PI b G st' w') (g1:w.grownBy w' (some b)):PX W0 b G st' x cx T w':=
 ⟨h1,h.lx.grown g1 (by intro e;injection e with e;exact h.xb e),h.nx,h.xb,h.xg,grown_trans h.grown g1⟩
theorem PX.set {W0 w:World} {b G x:Nat} {st:RS} {cx:Array Value} {T:TypeId} (h:PX W0 b G st x cx T w) (j:Nat) (u:Value):PX W0 b G st x (cx.setIfInBounds j u) T (w.setCell ⟨x,j,none⟩ u):=
 ⟨h.p.kept (grown_set w x j u) (by intro e;injection e with e;exact h.xb e.symm) (by intro e;injection e with e;exact h.xg e.symm),h.lx.set j u,h.nx,h.xb,h.xg,grown_own h.grown h.nx j u⟩
set_option maxRecDepth 100000 in
set_option maxHeartbeats 2000000 in
theorem property_ {b G:Nat} {st s1:RS} {n k:ByteArray} {W:World} (h:PI b G st W) (hn:propP st=((n,k),s1)):
  Calls Tryz.prog 166 #[.pointer (some ⟨b,0,none⟩)] W fun e W'=>e=.returned (.tuple #[.string n,.string k])∧PI b G s1 W'∧W.grownBy W' (some b):=by
 have HH:=Lib.hid h
 obtain⟨n',a1,ha⟩:∃n' a1,nameP st=(n',a1):=⟨_,_,rfl⟩
 obtain⟨k',a2,hk⟩:∃k' a2,nameP (expectP mDot a1)=(k',a2):=⟨_,_,rfl⟩
 have e:((n',k'),a2)=((n,k),s1):=by rw[←hn];unfold propP;simp only[ha,hk]
 injection e with e1 e3
 injection e1 with e1 e2
 subst e1;subst e2;subst e3
 have HA:=Lib.hid ha
 have HK:=Lib.hid hk
 clear h hn ha hk
 go_enter Tryz.func166,Tryz.ntmps166
 go_wp2_with fail
 refine(name_ HH.out HA.out).mono ?_
 rintro e W1 ⟨rfl,h1,g1⟩
 have H1:=Lib.hid h1
 have G1:=Lib.hid g1
 clear h1 g1
 go_wp2_with fail
 refine(expect_ H1.out mDot).mono ?_
 rintro e W2 ⟨rfl,h2,g2⟩
 have H2:=Lib.hid h2
 have G2:=Lib.hid (grown_trans G1.out g2)
 clear h2 g2
 go_wp2_with fail
 refine(name_ H2.out HK.out).mono ?_
 rintro e W3 ⟨rfl,h3,g3⟩
 have H3:=Lib.hid h3
 have G3:=Lib.hid (grown_trans G2.out g3)
 clear h3 g3
 go_wp2_with fail
 refine bodyPost_ret (v:=.tuple #[.string n',.string k']) ?_ rfl ⟨rfl,H3.out,G3.out⟩
 simp[results,Tryz.results166,go_sem]
set_option maxRecDepth 100000 in
set_option maxHeartbeats 2000000 in
theorem pair_ {b G:Nat} {st s1:RS} {r:PPair} {W:World} (h:PI b G st W) (hn:pairP st=(r,s1)):
  Calls Tryz.prog 158 #[.pointer (some ⟨b,0,none⟩)] W fun e W'=>e=.returned (.agg #[.string r.key,.int .i64 r.val])∧PI b G s1 W'∧W.grownBy W' (some b):=by
 have H0:=Lib.hid (PX.start h #[.string ⟨#[]⟩,.int .i64 0] 91)
 obtain⟨n',a1,ha⟩:∃n' a1,nameP st=(n',a1):=⟨_,_,rfl⟩
 obtain⟨v',a2,hk⟩:∃v' a2,numberP (-1000000000) 1000000000 (expectP mColon a1)=(v',a2):=⟨_,_,rfl⟩
 have e:((⟨n',v'⟩:PPair),a2)=(r,s1):=by rw[←hn];unfold pairP;simp only[ha,hk]
 injection e with e1 e3
 subst e1;subst e3
 have HA:=Lib.hid ha
 have HK:=Lib.hid hk
 clear h hn ha hk
 go_enter Tryz.func158,Tryz.ntmps158
 go_wp2_with fail
 obtain⟨X,hX⟩:∃X,X=W.heap.size:=⟨_,rfl⟩
 rw[←hX] at H0⊢
 clear hX
 generalize W.alloc (.cells #[.string ⟨#[]⟩,.int .i64 0] 91)=W1 at H0⊢
 refine(name_ H0.out.p HA.out).mono ?_
 rintro e W2 ⟨rfl,h2,g2⟩
 have H2:=Lib.hid (H0.out.call h2 g2)
 clear h2 g2 H0
 go_wp2_with fail
 refine(expect_ H2.out.p mColon).mono ?_
 rintro e W3 ⟨rfl,h3,g3⟩
 have H3:=Lib.hid (H2.out.call h3 g3)
 clear h3 g3 H2
 go_wp2_with fail
 refine(number_ H3.out.p HK.out).mono ?_
 rintro e W4 ⟨rfl,h4,g4⟩
 have H4:=Lib.hid (H3.out.call h4 g4)
 clear h4 g4 H3
 have c0:=H4.out.lx.at_ 0 (.string ⟨#[]⟩) rfl
 have f0:W4.frozen? ⟨X,0,none⟩=false:=H4.out.lx.free 0
 have c1:=H4.out.lx.at_ 1 (.int .i64 0) rfl
 have f1:W4.frozen? ⟨X,1,none⟩=false:=H4.out.lx.free 1
 go_wp2_with fail
 have hF:=((H4.out.set 0 (.string n')).set 1 (.int .i64 v'))
 generalize ((W4.setCell ⟨X,0,none⟩ (.string n')).setCell ⟨X,1,none⟩ (.int .i64 v'))=WF at hF⊢
 refine bodyPost_ret (v:=.agg #[.string n',.int .i64 v']) ?_ rfl ⟨rfl,hF.p,hF.grown⟩
 have r0:=hF.lx.cell 0
 have r1:=hF.lx.cell 1
 simp at r0 r1
 simp[results,Tryz.results158,go_sem,r0,r1]
set_option maxRecDepth 100000 in
set_option maxHeartbeats 2000000 in
theorem term_ {b G:Nat} {st s1:RS} {r:PTerm} {W:World} (h:PI b G st W) (hn:termP st=(r,s1)):
  Calls Tryz.prog 163 #[.pointer (some ⟨b,0,none⟩)] W fun e W'=>e=.returned (.agg #[.string r.name,.string r.key,.int .i64 r.val])∧PI b G s1 W'∧W.grownBy W' (some b):=by
 have H0:=Lib.hid (PX.start h #[.string ⟨#[]⟩,.string ⟨#[]⟩,.int .i64 0] 26)
 cases hm:seesP 4 st with
 | true=>
  obtain⟨v',a2,hk⟩:∃v' a2,numberP (-1000000000) 1000000000 st=(v',a2):=⟨_,_,rfl⟩
  have e:((⟨⟨#[]⟩,⟨#[]⟩,v'⟩:PTerm),a2)=(r,s1):=by rw[←hn];unfold termP;rw[hm];simp only[hk];rfl
  injection e with e1 e3
  subst e1;subst e3
  have HM:=Lib.hid hm
  have HK:=Lib.hid hk
  clear h hn hm hk
  go_enter Tryz.func163,Tryz.ntmps163
  go_wp2_with fail
  obtain⟨X,hX⟩:∃X,X=W.heap.size:=⟨_,rfl⟩
  rw[←hX] at H0⊢
  clear hX
  generalize W.alloc (.cells #[.string ⟨#[]⟩,.string ⟨#[]⟩,.int .i64 0] 26)=W1 at H0⊢
  refine(sees_ H0.out.p 4 true HM.out).mono ?_
  rintro e W2 ⟨rfl,h2,g2⟩
  have H2:=Lib.hid (H0.out.call h2 g2)
  clear h2 g2 H0
  go_wp2_with fail
  refine(number_ H2.out.p HK.out).mono ?_
  rintro e W4 ⟨rfl,h4,g4⟩
  have H4:=Lib.hid (H2.out.call h4 g4)
  clear h4 g4 H2
  have c0:=H4.out.lx.at_ 0 (.string ⟨#[]⟩) rfl
  have f0:W4.frozen? ⟨X,0,none⟩=false:=H4.out.lx.free 0
  have c1:=H4.out.lx.at_ 1 (.string ⟨#[]⟩) rfl
  have f1:W4.frozen? ⟨X,1,none⟩=false:=H4.out.lx.free 1
  have c2:=H4.out.lx.at_ 2 (.int .i64 0) rfl
  have f2:W4.frozen? ⟨X,2,none⟩=false:=H4.out.lx.free 2
  go_wp2_with fail
  have hF:=(((H4.out.set 0 (.string ⟨#[]⟩)).set 1 (.string ⟨#[]⟩)).set 2 (.int .i64 v'))
  generalize (((W4.setCell ⟨X,0,none⟩ (.string ⟨#[]⟩)).setCell ⟨X,1,none⟩ (.string ⟨#[]⟩)).setCell ⟨X,2,none⟩ (.int .i64 v'))=WF at hF⊢
  refine bodyPost_ret (v:=.agg #[.string ⟨#[]⟩,.string ⟨#[]⟩,.int .i64 v']) ?_ rfl ⟨rfl,hF.p,hF.grown⟩
  have r0:=hF.lx.cell 0
  have r1:=hF.lx.cell 1
  have r2:=hF.lx.cell 2
  simp at r0 r1 r2
  simp[results,Tryz.results163,go_sem,r0,r1,r2]
 | false=>
  obtain⟨n',k',a2,hk⟩:∃n' k' a2,propP st=((n',k'),a2):=⟨_,_,_,rfl⟩
  have e:((⟨n',k',0⟩:PTerm),a2)=(r,s1):=by rw[←hn];unfold termP;rw[hm];simp only[hk];rfl
  injection e with e1 e3
  subst e1;subst e3
  have HM:=Lib.hid hm
  have HK:=Lib.hid hk
  clear h hn hm hk
  go_enter Tryz.func163,Tryz.ntmps163
  go_wp2_with fail
  obtain⟨X,hX⟩:∃X,X=W.heap.size:=⟨_,rfl⟩
  rw[←hX] at H0⊢
  clear hX
  generalize W.alloc (.cells #[.string ⟨#[]⟩,.string ⟨#[]⟩,.int .i64 0] 26)=W1 at H0⊢
  refine(sees_ H0.out.p 4 false HM.out).mono ?_
  rintro e W2 ⟨rfl,h2,g2⟩
  have H2:=Lib.hid (H0.out.call h2 g2)
  clear h2 g2 H0
  go_wp2_with fail
  refine(property_ H2.out.p HK.out).mono ?_
  rintro e W4 ⟨rfl,h4,g4⟩
  have H4:=Lib.hid (H2.out.call h4 g4)
  clear h4 g4 H2
  have c0:=H4.out.lx.at_ 0 (.string ⟨#[]⟩) rfl
  have f0:W4.frozen? ⟨X,0,none⟩=false:=H4.out.lx.free 0
  have c1:=H4.out.lx.at_ 1 (.string ⟨#[]⟩) rfl
  have f1:W4.frozen? ⟨X,1,none⟩=false:=H4.out.lx.free 1
  have c2:=H4.out.lx.at_ 2 (.int .i64 0) rfl
  have f2:W4.frozen? ⟨X,2,none⟩=false:=H4.out.lx.free 2
  go_wp2_with fail
  have hF:=(((H4.out.set 0 (.string n')).set 1 (.string k')).set 2 (.int .i64 0))
  generalize (((W4.setCell ⟨X,0,none⟩ (.string n')).setCell ⟨X,1,none⟩ (.string k')).setCell ⟨X,2,none⟩ (.int .i64 0))=WF at hF⊢
  refine bodyPost_ret (v:=.agg #[.string n',.string k',.int .i64 0]) ?_ rfl ⟨rfl,hF.p,hF.grown⟩
  have r0:=hF.lx.cell 0
  have r1:=hF.lx.cell 1
  have r2:=hF.lx.cell 2
  simp at r0 r1 r2
  simp[results,Tryz.results163,go_sem,r0,r1,r2]
end Go.Proofs.YtobgbmfpicmpcaaGreatDoor

/- The program's parser: items, spots, steps. -/
namespace Go.Proofs.YtobgbmfpicmpcaaGreatDoor
open Go.RowKit
structure PXY (W0:World) (b G:Nat) (st:RS) (x:Nat) (cx:Array Value) (T:TypeId) (y:Nat) (cy:Array Value) (T':TypeId) (w:World):Prop where
 q:PX W0 b G st x cx T w
 ly:Loc w y cy T'
 ny:W0.heap.size≤y
 yb:y≠b
 yg:y≠G
 yx:y≠x
theorem PX.more {W0 w:World} {b G x:Nat} {st:RS} {cx:Array Value} {T:TypeId} (h:PX W0 b G st x cx T w) (cy:Array Value) (T':TypeId):PXY W0 b G st x cx T w.heap.size cy T' (w.alloc (.cells cy T')):=by
 have g:=grown_alloc w (.cells cy T') none
 have hs:=h.grown.size
 have hx:=h.lx.lt
 have hn:=h.p.ne (Nat.le_refl w.heap.size)
 exact⟨⟨h.p.quiet g,h.lx.grown g (by simp),h.nx,h.xb,h.xg,grown_trans h.grown (grown_alloc w _ _)⟩,Loc.new w cy T',hs,fun e=>hn.1 e.symm,fun e=>hn.2 e.symm,by omega⟩
section
variable {W0 w w':World} {b G x y:Nat} {st st':RS} {cx cy:Array Value} {T T':TypeId}
theorem PXY.call (h:PXY W0 b G st x cx T y cy T' w) (h1:PI b G st' w') (g1:w.grownBy w' (some b)):PXY W0 b G st' x cx T y cy T' w':=
 ⟨h.q.call h1 g1,h.ly.grown g1 (by intro e;injection e with e;exact h.yb e),h.ny,h.yb,h.yg,h.yx⟩
theorem PXY.setY (h:PXY W0 b G st x cx T y cy T' w) (j:Nat) (u:Value):PXY W0 b G st x cx T y (cy.setIfInBounds j u) T' (w.setCell ⟨y,j,none⟩ u):=
 ⟨⟨h.q.p.kept (grown_set w y j u) (by intro e;injection e with e;exact h.yb e.symm) (by intro e;injection e with e;exact h.yg e.symm),h.q.lx.setOther (fun e=>h.yx e.symm) j u,h.q.nx,h.q.xb,h.q.xg,grown_own h.q.grown h.ny j u⟩,h.ly.set j u,h.ny,h.yb,h.yg,h.yx⟩
theorem PXY.setX (h:PXY W0 b G st x cx T y cy T' w) (j:Nat) (u:Value):PXY W0 b G st x (cx.setIfInBounds j u) T y cy T' (w.setCell ⟨x,j,none⟩ u):=
 ⟨h.q.set j u,h.ly.setOther h.yx j u,h.ny,h.yb,h.yg,h.yx⟩
end
set_option maxRecDepth 100000 in
set_option maxHeartbeats 2000000 in
theorem item_ {b G:Nat} {st s1:RS} {r:PItem} {W:World} (h:PI b G st W) (hn:itemP st=(r,s1)):
  Calls Tryz.prog 221 #[.pointer (some ⟨b,0,none⟩)] W fun e W'=>e=.returned (.agg #[.string r.name,.string r.key])∧PI b G s1 W'∧W.grownBy W' (some b):=by
 have H0:=Lib.hid (PX.start h #[.string ⟨#[]⟩,.string ⟨#[]⟩] 89)
 cases hm:peekP kCOUNT st with
 | true=>
  have e:((⟨⟨#[]⟩,⟨#[]⟩⟩:PItem),acceptP kCOUNT st)=(r,s1):=by rw[←hn];unfold itemP;rw[hm];rfl
  injection e with e1 e3
  subst e1;subst e3
  have HM:=Lib.hid hm
  clear h hn hm
  go_enter Tryz.func221,Tryz.ntmps221
  go_wp2_with fail
  obtain⟨X,hX⟩:∃X,X=W.heap.size:=⟨_,rfl⟩
  rw[←hX] at H0⊢
  clear hX
  generalize W.alloc (.cells #[.string ⟨#[]⟩,.string ⟨#[]⟩] 89)=W0' at H0⊢
  refine(accept_ H0.out.p kCOUNT true HM.out).mono ?_
  rintro e W1 ⟨rfl,h,g⟩
  have H1:=Lib.hid (H0.out.call h g)
  clear h g H0
  have x0:=H1.out.lx.at_ 0 (.string ⟨#[]⟩) rfl
  have g0:W1.frozen? ⟨X,0,none⟩=false:=H1.out.lx.free 0
  have x1:=H1.out.lx.at_ 1 (.string ⟨#[]⟩) rfl
  have g1:W1.frozen? ⟨X,1,none⟩=false:=H1.out.lx.free 1
  go_wp2_with fail
  have hF:=((H1.out.set 0 (.string ⟨#[]⟩)).set 1 (.string ⟨#[]⟩))
  generalize ((W1.setCell ⟨X,0,none⟩ (.string ⟨#[]⟩)).setCell ⟨X,1,none⟩ (.string ⟨#[]⟩))=WF at hF⊢
  refine bodyPost_ret (v:=.agg #[.string ⟨#[]⟩,.string ⟨#[]⟩]) ?_ rfl ⟨rfl,hF.p,hF.grown⟩
  have r0:=hF.lx.cell 0
  have r1:=hF.lx.cell 1
  simp at r0 r1
  simp[results,Tryz.results221,go_sem,r0,r1]
 | false=>
  obtain⟨n',a1,ha⟩:∃n' a1,nameP st=(n',a1):=⟨_,_,rfl⟩
  have HM:=Lib.hid hm
  have HA:=Lib.hid ha
  have hst:acceptP kCOUNT st=st:=by unfold acceptP;rw[hm];rfl
  have HST:=Lib.hid hst
  clear hst
  cases hd:peekP mDot a1 with
  | false=>
   have e:((⟨n',⟨#[]⟩⟩:PItem),a1)=(r,s1):=by rw[←hn];unfold itemP;rw[hm];simp only[ha,hd];rfl
   injection e with e1 e3
   subst e1;subst e3
   have HD:=Lib.hid hd
   clear h hn hm ha hd
   go_enter Tryz.func221,Tryz.ntmps221
   go_wp2_with fail
   obtain⟨X,hX⟩:∃X,X=W.heap.size:=⟨_,rfl⟩
   rw[←hX] at H0⊢
   clear hX
   generalize W.alloc (.cells #[.string ⟨#[]⟩,.string ⟨#[]⟩] 89)=W0' at H0⊢
   refine(accept_ H0.out.p kCOUNT false HM.out).mono ?_
   rintro e W1 ⟨rfl,h,g⟩
   have H1:=Lib.hid (H0.out.call h g)
   clear h g H0
   rw[HST.out] at H1
   go_wp2_with fail
   refine(name_ H1.out.p HA.out).mono ?_
   rintro e W2 ⟨rfl,h,g⟩
   have H2:=Lib.hid (H1.out.call h g)
   clear h g H1
   have H3:=Lib.hid (H2.out.more #[.string n',.string ⟨#[]⟩] 89)
   clear H2
   go_wp2_with fail
   obtain⟨Y,hY⟩:∃Y,Y=W2.heap.size:=⟨_,rfl⟩;rw[←hY] at H3⊢;clear hY;generalize W2.alloc (.cells #[.string n',.string ⟨#[]⟩] 89)=W3 at H3⊢
   refine(accept_ H3.out.q.p mDot false HD.out).mono ?_
   rintro e W4 ⟨rfl,h,g⟩
   have H4:=Lib.hid (H3.out.call h g)
   clear h g H3
   rw[show acceptP mDot a1=a1 by unfold acceptP;rw[HD.out];rfl] at H4
   have x0:=H4.out.q.lx.at_ 0 (.string ⟨#[]⟩) rfl
   have g0:W4.frozen? ⟨X,0,none⟩=false:=H4.out.q.lx.free 0
   have x1:=H4.out.q.lx.at_ 1 (.string ⟨#[]⟩) rfl
   have g1:W4.frozen? ⟨X,1,none⟩=false:=H4.out.q.lx.free 1
   have y0:=H4.out.ly.at_ 0 (.string n') rfl
   have y1:=H4.out.ly.at_ 1 (.string ⟨#[]⟩) rfl
   go_wp2_with fail
   have hF:=((H4.out.setX 0 (.string n')).setX 1 (.string ⟨#[]⟩)).q
   generalize ((W4.setCell ⟨X,0,none⟩ (.string n')).setCell ⟨X,1,none⟩ (.string ⟨#[]⟩))=WF at hF⊢
   refine bodyPost_ret (v:=.agg #[.string n',.string ⟨#[]⟩]) ?_ rfl ⟨rfl,hF.p,hF.grown⟩
   have r0:=hF.lx.cell 0
   have r1:=hF.lx.cell 1
   simp at r0 r1
   simp[results,Tryz.results221,go_sem,r0,r1]
  | true=>
   obtain⟨k',a2,hk⟩:∃k' a2,nameP (acceptP mDot a1)=(k',a2):=⟨_,_,rfl⟩
   have e:((⟨n',k'⟩:PItem),a2)=(r,s1):=by rw[←hn];unfold itemP;rw[hm];simp only[ha,hd,hk];rfl
   injection e with e1 e3
   subst e1;subst e3
   have HD:=Lib.hid hd
   have HK:=Lib.hid hk
   clear h hn hm ha hd hk
   go_enter Tryz.func221,Tryz.ntmps221
   go_wp2_with fail
   obtain⟨X,hX⟩:∃X,X=W.heap.size:=⟨_,rfl⟩
   rw[←hX] at H0⊢
   clear hX
   generalize W.alloc (.cells #[.string ⟨#[]⟩,.string ⟨#[]⟩] 89)=W0' at H0⊢
   refine(accept_ H0.out.p kCOUNT false HM.out).mono ?_
   rintro e W1 ⟨rfl,h,g⟩
   have H1:=Lib.hid (H0.out.call h g)
   clear h g H0
   rw[HST.out] at H1
   go_wp2_with fail
   refine(name_ H1.out.p HA.out).mono ?_
   rintro e W2 ⟨rfl,h,g⟩
   have H2:=Lib.hid (H1.out.call h g)
   clear h g H1
   have H3:=Lib.hid (H2.out.more #[.string n',.string ⟨#[]⟩] 89)
   clear H2
   go_wp2_with fail
   obtain⟨Y,hY⟩:∃Y,Y=W2.heap.size:=⟨_,rfl⟩;rw[←hY] at H3⊢;clear hY;generalize W2.alloc (.cells #[.string n',.string ⟨#[]⟩] 89)=W3 at H3⊢
   refine(accept_ H3.out.q.p mDot true HD.out).mono ?_
   rintro e W4 ⟨rfl,h,g⟩
   have H4:=Lib.hid (H3.out.call h g)
   clear h g H3
   go_wp2_with fail
   refine(name_ H4.out.q.p HK.out).mono ?_
   rintro e W5 ⟨rfl,h,g⟩
   have H5:=Lib.hid (H4.out.call h g)
   clear h g H4
   have c1:=H5.out.ly.at_ 1 (.string ⟨#[]⟩) rfl
   have f1:W5.frozen? ⟨Y,1,none⟩=false:=H5.out.ly.free 1
   have H6:=Lib.hid (H5.out.setY 1 (.string k'))
   clear H5
   go_upto_region 6 with fail
   generalize (W5.setCell ⟨Y,1,none⟩ (.string k'))=W6 at H6⊢;clear c1 f1
   have x0:=H6.out.q.lx.at_ 0 (.string ⟨#[]⟩) rfl
   have g0:W6.frozen? ⟨X,0,none⟩=false:=H6.out.q.lx.free 0
   have x1:=H6.out.q.lx.at_ 1 (.string ⟨#[]⟩) rfl
   have g1:W6.frozen? ⟨X,1,none⟩=false:=H6.out.q.lx.free 1
   have y0:=H6.out.ly.at_ 0 (.string n') rfl
   have y1:=H6.out.ly.at_ 1 (.string k') rfl
   go_wp2_with fail
   have hF:=((H6.out.setX 0 (.string n')).setX 1 (.string k')).q
   generalize ((W6.setCell ⟨X,0,none⟩ (.string n')).setCell ⟨X,1,none⟩ (.string k'))=WF at hF⊢
   refine bodyPost_ret (v:=.agg #[.string n',.string k']) ?_ rfl ⟨rfl,hF.p,hF.grown⟩
   have r0:=hF.lx.cell 0
   have r1:=hF.lx.cell 1
   simp at r0 r1
   simp[results,Tryz.results221,go_sem,r0,r1]
set_option maxRecDepth 100000 in
set_option maxHeartbeats 2000000 in
theorem step_ {b G:Nat} {st s1:RS} {r:PSpot} {W:World} (h:PI b G st W) (hn:stepP st=(r,s1)):
  Calls Tryz.prog 162 #[.pointer (some ⟨b,0,none⟩)] W fun e W'=>e=.returned (.agg #[.string r.name,.string r.label,.string r.type,.int .i64 r.least,.int .i64 r.most])∧PI b G s1 W'∧W.grownBy W' (some b):=by
 have H0:=Lib.hid (PX.start h #[.string ⟨#[]⟩,.string ⟨#[]⟩,.string ⟨#[]⟩,.int .i64 0,.int .i64 0] 85)
 obtain⟨t',a1,ha⟩:∃n' a1,titleP st=(n',a1):=⟨_,_,rfl⟩
 have HA:=Lib.hid ha
 cases hm:peekP mStar a1 with
 | false=>
  have e:((⟨⟨#[]⟩,⟨#[]⟩,t',1,1⟩:PSpot),expectP mArrow a1)=(r,s1):=by rw[←hn];unfold stepP starP;simp only[ha,hm];rfl
  injection e with e1 e3
  subst e1;subst e3
  have HM:=Lib.hid hm
  clear h hn hm ha
  go_enter Tryz.func162,Tryz.ntmps162
  go_wp2_with fail
  obtain⟨X,hX⟩:∃X,X=W.heap.size:=⟨_,rfl⟩
  rw[←hX] at H0⊢
  clear hX
  generalize W.alloc (.cells #[.string ⟨#[]⟩,.string ⟨#[]⟩,.string ⟨#[]⟩,.int .i64 0,.int .i64 0] 85)=W0' at H0⊢
  refine(title_ H0.out.p HA.out).mono ?_
  rintro e W1 ⟨rfl,h,g⟩
  have H1:=Lib.hid (H0.out.call h g)
  clear h g H0
  have H2:=Lib.hid (H1.out.more #[.string ⟨#[]⟩,.string ⟨#[]⟩,.string t',.int .i64 1,.int .i64 1] 85)
  clear H1
  go_wp2_with fail
  obtain⟨Y,hY⟩:∃Y,Y=W1.heap.size:=⟨_,rfl⟩;rw[←hY] at H2⊢;clear hY;generalize W1.alloc (.cells #[.string ⟨#[]⟩,.string ⟨#[]⟩,.string t',.int .i64 1,.int .i64 1] 85)=W2 at H2⊢
  refine(accept_ H2.out.q.p mStar false HM.out).mono ?_
  rintro e W3 ⟨rfl,h,g⟩
  have H3:=Lib.hid (H2.out.call h g)
  clear h g H2
  rw[show acceptP mStar a1=a1 by unfold acceptP;rw[HM.out];rfl] at H3
  go_wp2_with fail
  refine(expect_ H3.out.q.p mArrow).mono ?_
  rintro e W4 ⟨rfl,h,g⟩
  have H4:=Lib.hid (H3.out.call h g)
  clear h g H3
  have x0:=H4.out.q.lx.at_ 0 (.string ⟨#[]⟩) rfl
  have g0:W4.frozen? ⟨X,0,none⟩=false:=H4.out.q.lx.free 0
  have x1:=H4.out.q.lx.at_ 1 (.string ⟨#[]⟩) rfl
  have g1:W4.frozen? ⟨X,1,none⟩=false:=H4.out.q.lx.free 1
  have x2:=H4.out.q.lx.at_ 2 (.string ⟨#[]⟩) rfl
  have g2:W4.frozen? ⟨X,2,none⟩=false:=H4.out.q.lx.free 2
  have x3:=H4.out.q.lx.at_ 3 (.int .i64 0) rfl
  have g3:W4.frozen? ⟨X,3,none⟩=false:=H4.out.q.lx.free 3
  have x4:=H4.out.q.lx.at_ 4 (.int .i64 0) rfl
  have g4:W4.frozen? ⟨X,4,none⟩=false:=H4.out.q.lx.free 4
  have y0:=H4.out.ly.at_ 0 (.string ⟨#[]⟩) rfl
  have y1:=H4.out.ly.at_ 1 (.string ⟨#[]⟩) rfl
  have y2:=H4.out.ly.at_ 2 (.string t') rfl
  have y3:=H4.out.ly.at_ 3 (.int .i64 1) rfl
  have y4:=H4.out.ly.at_ 4 (.int .i64 1) rfl
  go_wp2_with fail
  have hF:=(((((H4.out.setX 0 (.string ⟨#[]⟩)).setX 1 (.string ⟨#[]⟩)).setX 2 (.string t')).setX 3 (.int .i64 1)).setX 4 (.int .i64 1)).q
  generalize (((((W4.setCell ⟨X,0,none⟩ (.string ⟨#[]⟩)).setCell ⟨X,1,none⟩ (.string ⟨#[]⟩)).setCell ⟨X,2,none⟩ (.string t')).setCell ⟨X,3,none⟩ (.int .i64 1)).setCell ⟨X,4,none⟩ (.int .i64 1))=WF at hF⊢
  refine bodyPost_ret (v:=.agg #[.string ⟨#[]⟩,.string ⟨#[]⟩,.string t',.int .i64 1,.int .i64 1]) ?_ rfl ⟨rfl,hF.p,hF.grown⟩
  have r0:=hF.lx.cell 0
  have r1:=hF.lx.cell 1
  have r2:=hF.lx.cell 2
  have r3:=hF.lx.cell 3
  have r4:=hF.lx.cell 4
  simp at r0 r1 r2 r3 r4
  simp[results,Tryz.results162,go_sem,r0,r1,r2,r3,r4]
 | true=>
  obtain⟨lo,a2,hk⟩:∃k' a2,numberP 0 4 (acceptP mStar a1)=(k',a2):=⟨_,_,rfl⟩
  obtain⟨hi,a3,hh⟩:∃k' az,numberP lo 4 (expectP mDots a2)=(k',az):=⟨_,_,rfl⟩
  have e:((⟨⟨#[]⟩,⟨#[]⟩,t',lo,hi⟩:PSpot),expectP mArrow a3)=(r,s1):=by rw[←hn];unfold stepP starP;simp only[ha,hm,hk,hh];rfl
  injection e with e1 e3
  subst e1;subst e3
  have HM:=Lib.hid hm
  have HK:=Lib.hid hk
  have HI:=Lib.hid hh
  clear h hn hm ha hk hh
  go_enter Tryz.func162,Tryz.ntmps162
  go_wp2_with fail
  obtain⟨X,hX⟩:∃X,X=W.heap.size:=⟨_,rfl⟩
  rw[←hX] at H0⊢
  clear hX
  generalize W.alloc (.cells #[.string ⟨#[]⟩,.string ⟨#[]⟩,.string ⟨#[]⟩,.int .i64 0,.int .i64 0] 85)=W0' at H0⊢
  refine(title_ H0.out.p HA.out).mono ?_
  rintro e W1 ⟨rfl,h,g⟩
  have H1:=Lib.hid (H0.out.call h g)
  clear h g H0
  have H2:=Lib.hid (H1.out.more #[.string ⟨#[]⟩,.string ⟨#[]⟩,.string t',.int .i64 1,.int .i64 1] 85)
  clear H1
  go_wp2_with fail
  obtain⟨Y,hY⟩:∃Y,Y=W1.heap.size:=⟨_,rfl⟩;rw[←hY] at H2⊢;clear hY;generalize W1.alloc (.cells #[.string ⟨#[]⟩,.string ⟨#[]⟩,.string t',.int .i64 1,.int .i64 1] 85)=W2 at H2⊢
  refine(accept_ H2.out.q.p mStar true HM.out).mono ?_
  rintro e W3 ⟨rfl,h,g⟩
  have H3:=Lib.hid (H2.out.call h g)
  clear h g H2
  go_wp2_with fail
  refine(number_ H3.out.q.p HK.out).mono ?_
  rintro e W4 ⟨rfl,h,g⟩
  have H4:=Lib.hid (H3.out.call h g)
  clear h g H3
  have c3:=H4.out.ly.at_ 3 (.int .i64 1) rfl
  have f3:W4.frozen? ⟨Y,3,none⟩=false:=H4.out.ly.free 3
  have H5:=Lib.hid (H4.out.setY 3 (.int .i64 lo))
  clear H4
  go_wp2_with fail
  generalize (W4.setCell ⟨Y,3,none⟩ (.int .i64 lo))=W5 at H5⊢;clear c3 f3
  refine(expect_ H5.out.q.p mDots).mono ?_
  rintro e W6 ⟨rfl,h,g⟩
  have H6:=Lib.hid (H5.out.call h g)
  clear h g H5
  have y3:=H6.out.ly.at_ 3 (.int .i64 lo) rfl
  go_wp2_with fail
  refine(number_ H6.out.q.p HI.out).mono ?_
  rintro e W7 ⟨rfl,h,g⟩
  have H7:=Lib.hid (H6.out.call h g)
  clear h g H6
  clear y3
  have c4:=H7.out.ly.at_ 4 (.int .i64 1) rfl
  have f4:W7.frozen? ⟨Y,4,none⟩=false:=H7.out.ly.free 4
  have H8:=Lib.hid (H7.out.setY 4 (.int .i64 hi))
  clear H7
  go_wp2_with fail
  generalize (W7.setCell ⟨Y,4,none⟩ (.int .i64 hi))=W8 at H8⊢;clear c4 f4
  refine(expect_ H8.out.q.p mArrow).mono ?_
  rintro e W9 ⟨rfl,h,g⟩
  have H9:=Lib.hid (H8.out.call h g)
  clear h g H8
  have x0:=H9.out.q.lx.at_ 0 (.string ⟨#[]⟩) rfl
  have g0:W9.frozen? ⟨X,0,none⟩=false:=H9.out.q.lx.free 0
  have x1:=H9.out.q.lx.at_ 1 (.string ⟨#[]⟩) rfl
  have g1:W9.frozen? ⟨X,1,none⟩=false:=H9.out.q.lx.free 1
  have x2:=H9.out.q.lx.at_ 2 (.string ⟨#[]⟩) rfl
  have g2:W9.frozen? ⟨X,2,none⟩=false:=H9.out.q.lx.free 2
  have x3:=H9.out.q.lx.at_ 3 (.int .i64 0) rfl
  have g3:W9.frozen? ⟨X,3,none⟩=false:=H9.out.q.lx.free 3
  have x4:=H9.out.q.lx.at_ 4 (.int .i64 0) rfl
  have g4:W9.frozen? ⟨X,4,none⟩=false:=H9.out.q.lx.free 4
  have y0:=H9.out.ly.at_ 0 (.string ⟨#[]⟩) rfl
  have y1:=H9.out.ly.at_ 1 (.string ⟨#[]⟩) rfl
  have y2:=H9.out.ly.at_ 2 (.string t') rfl
  have y3:=H9.out.ly.at_ 3 (.int .i64 lo) rfl
  have y4:=H9.out.ly.at_ 4 (.int .i64 hi) rfl
  go_wp2_with fail
  have hF:=(((((H9.out.setX 0 (.string ⟨#[]⟩)).setX 1 (.string ⟨#[]⟩)).setX 2 (.string t')).setX 3 (.int .i64 lo)).setX 4 (.int .i64 hi)).q
  generalize (((((W9.setCell ⟨X,0,none⟩ (.string ⟨#[]⟩)).setCell ⟨X,1,none⟩ (.string ⟨#[]⟩)).setCell ⟨X,2,none⟩ (.string t')).setCell ⟨X,3,none⟩ (.int .i64 lo)).setCell ⟨X,4,none⟩ (.int .i64 hi))=WF at hF⊢
  refine bodyPost_ret (v:=.agg #[.string ⟨#[]⟩,.string ⟨#[]⟩,.string t',.int .i64 lo,.int .i64 hi]) ?_ rfl ⟨rfl,hF.p,hF.grown⟩
  have r0:=hF.lx.cell 0
  have r1:=hF.lx.cell 1
  have r2:=hF.lx.cell 2
  have r3:=hF.lx.cell 3
  have r4:=hF.lx.cell 4
  simp at r0 r1 r2 r3 r4
  simp[results,Tryz.results162,go_sem,r0,r1,r2,r3,r4]
end Go.Proofs.YtobgbmfpicmpcaaGreatDoor

