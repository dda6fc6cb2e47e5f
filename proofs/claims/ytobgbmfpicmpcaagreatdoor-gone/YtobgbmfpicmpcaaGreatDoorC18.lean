/- The program's small steps over the text: 'goesOn' with each class of bytes, and 'takes': each answers whether the next byte is of the class, and goes one place on if so. -/
import Derived.Test.YtobgbmfpicmpcaaGreatDoorC08
import Derived.Deep.QuietTactic
import Derived.BigQuiet
import Derived.Test.YtobgbmfpicmpcaaGreatDoorC09
import Derived.Lib.Hide
import Derived.Test.YtobgbmfpicmpcaaGreatDoorC01
import Derived.Scope
set_option maxRecDepth 100000
set_option maxHeartbeats 8000000
namespace Go.Proofs.YtobgbmfpicmpcaaGreatDoor
open Go.Lib (hid)
section
open Go.RowKit
theorem Be (c d:Int) (p:Nat) (w:World) (hp:w.cell? ⟨p,0,none⟩=some (.int .u8 d)):Calls Tryz.prog 212 #[.int .u8 c,.pointer (some ⟨p,0,none⟩)] w fun e w'=>e=.returned (.bool (c==d))∧w'=w:=by
 go_enter Tryz.func212,Tryz.ntmps212
 go_wp2
 go_ret
 exact⟨rfl,rfl⟩
theorem gF {p:Int→Bool} {s:ByteArray} {a:Nat} (hp:p (bt s a)=true) (hno:p (-1)=false):a<s.size:=by
 by_cases h:a<s.size
 ·exact h
 ·rw[AF h,hno] at hp;cases hp
theorem xt:eQ (-1)=false:=ef (by omega)
theorem pQ:cH (-1)=false:=jZ (by omega)
theorem ur {w0 W:World} {b:Nat} {s:ByteArray} {f:Int} {a:Nat} {acc:List Tok} (hinv:Inv w0 b s f (a:Nat) acc W) (hs:s.size≤2000) (hp:eQ (bt s a)=true):
  Calls Tryz.prog 211 #[.pointer (some ⟨b,0,none⟩),.func (.func 204) #[] #[]] W fun e W'=>e=.returned (.bool true)∧Inv w0 b s f ((a+1:Nat):Int) acc W':=by
 have hlt:a<s.size:=gF hp xt
 rw[←gl hlt] at hp
 have HI:Hid (Inv w0 b s f (a:Nat) acc W):=hinv
 obtain⟨lv,hx,ho⟩:=hinv.cut
 obtain⟨c0,c1,c2,c3⟩:=hx.cells
 have f2:=hx.free 2
 clear hinv hx ho c1 c3
 have hne:((a:Int)==(s.size:Int))=false:=by simp;omega
 go_enter Tryz.func211,Tryz.ntmps211
 go_wp2
 go_quiet ((go_at_call 204;exact Calls.quiet_of_same (fG _ _)))
 go_wp2
 go_ret
 exact⟨rfl,(HI.out.drew nq).setAt _⟩
theorem mE {w0 W:World} {b:Nat} {s:ByteArray} {f:Int} {a:Nat} {acc:List Tok} (hinv:Inv w0 b s f (a:Nat) acc W) (ha:a≤s.size) (hp:eQ (bt s a)=false):
  Calls Tryz.prog 211 #[.pointer (some ⟨b,0,none⟩),.func (.func 204) #[] #[]] W fun e W'=>e=.returned (.bool false)∧Inv w0 b s f (a:Nat) acc W':=by
 have HI:Hid (Inv w0 b s f (a:Nat) acc W):=hinv
 obtain⟨lv,hx,ho⟩:=hinv.cut
 obtain⟨c0,c1,c2,c3⟩:=hx.cells
 clear hinv hx ho c1 c3
 by_cases hlt:a<s.size
 ·rw[←gl hlt] at hp
  have hne:((a:Int)==(s.size:Int))=false:=by simp;omega
  go_enter Tryz.func211,Tryz.ntmps211
  go_wp2
  go_quiet ((go_at_call 204;exact Calls.quiet_of_same (fG _ _)))
  go_wp2
  go_ret
  exact⟨rfl,HI.out.drew nq⟩
 ·clear hp
  have hne:((a:Int)==(s.size:Int))=true:=by simp;omega
  go_enter Tryz.func211,Tryz.ntmps211
  go_wp2
  go_quiet ((go_at_call 204;exact Calls.quiet_of_same (fG _ _)))
  go_wp2
  go_ret
  exact⟨rfl,HI.out.drew nq⟩
theorem mz {w0 W:World} {b:Nat} {s:ByteArray} {f:Int} {a:Nat} {acc:List Tok} (hinv:Inv w0 b s f (a:Nat) acc W) (hs:s.size≤2000) (hp:cH (bt s a)=true):
  Calls Tryz.prog 211 #[.pointer (some ⟨b,0,none⟩),.func (.func 205) #[] #[]] W fun e W'=>e=.returned (.bool true)∧Inv w0 b s f ((a+1:Nat):Int) acc W':=by
 have hlt:a<s.size:=gF hp pQ
 rw[←gl hlt] at hp
 have HI:Hid (Inv w0 b s f (a:Nat) acc W):=hinv
 obtain⟨lv,hx,ho⟩:=hinv.cut
 obtain⟨c0,c1,c2,c3⟩:=hx.cells
 have f2:=hx.free 2
 clear hinv hx ho c1 c3
 have hne:((a:Int)==(s.size:Int))=false:=by simp;omega
 go_enter Tryz.func211,Tryz.ntmps211
 go_wp2
 go_quiet ((go_at_call 205;exact Calls.quiet_of_same (isDigit _ _)))
 go_wp2
 go_ret
 exact⟨rfl,(HI.out.drew nq).setAt _⟩
theorem jD {w0 W:World} {b:Nat} {s:ByteArray} {f:Int} {a:Nat} {acc:List Tok} (hinv:Inv w0 b s f (a:Nat) acc W) (ha:a≤s.size) (hp:cH (bt s a)=false):
  Calls Tryz.prog 211 #[.pointer (some ⟨b,0,none⟩),.func (.func 205) #[] #[]] W fun e W'=>e=.returned (.bool false)∧Inv w0 b s f (a:Nat) acc W':=by
 have HI:Hid (Inv w0 b s f (a:Nat) acc W):=hinv
 obtain⟨lv,hx,ho⟩:=hinv.cut
 obtain⟨c0,c1,c2,c3⟩:=hx.cells
 clear hinv hx ho c1 c3
 by_cases hlt:a<s.size
 ·rw[←gl hlt] at hp
  have hne:((a:Int)==(s.size:Int))=false:=by simp;omega
  go_enter Tryz.func211,Tryz.ntmps211
  go_wp2
  go_quiet ((go_at_call 205;exact Calls.quiet_of_same (isDigit _ _)))
  go_wp2
  go_ret
  exact⟨rfl,HI.out.drew nq⟩
 ·clear hp
  have hne:((a:Int)==(s.size:Int))=true:=by simp;omega
  go_enter Tryz.func211,Tryz.ntmps211
  go_wp2
  go_quiet ((go_at_call 205;exact Calls.quiet_of_same (isDigit _ _)))
  go_wp2
  go_ret
  exact⟨rfl,HI.out.drew nq⟩
theorem xr {w0 W:World} {b:Nat} {s:ByteArray} {f:Int} {a:Nat} {acc:List Tok} {d:Int} {q:Nat} (hd:0≤d) (hq:W.cell? ⟨q,0,none⟩=some (.int .u8 d)) (hinv:Inv w0 b s f (a:Nat) acc W) (hs:s.size≤2000) (hp:((bt s a)==d)=true):
  Calls Tryz.prog 211 #[.pointer (some ⟨b,0,none⟩),.func (.func 212) #[] #[.pointer (some ⟨q,0,none⟩)]] W fun e W'=>e=.returned (.bool true)∧Inv w0 b s f ((a+1:Nat):Int) acc W':=by
 have hlt:a<s.size:=gF (p:=fun x=>x==d) hp (by simp;omega)
 rw[←gl hlt] at hp
 have HI:Hid (Inv w0 b s f (a:Nat) acc W):=hinv
 obtain⟨lv,hx,ho⟩:=hinv.cut
 obtain⟨c0,c1,c2,c3⟩:=hx.cells
 have f2:=hx.free 2
 clear hinv hx ho c1 c3
 have hne:((a:Int)==(s.size:Int))=false:=by simp;omega
 go_enter Tryz.func211,Tryz.ntmps211
 go_wp2
 go_quiet ((go_at_call 212;exact Calls.quiet_of_same (Be _ _ _ _ hq)))
 go_wp2
 go_ret
 exact⟨rfl,(HI.out.drew nq).setAt _⟩
theorem Bg {w0 W:World} {b:Nat} {s:ByteArray} {f:Int} {a:Nat} {acc:List Tok} {d:Int} {q:Nat} (hq:W.cell? ⟨q,0,none⟩=some (.int .u8 d)) (hinv:Inv w0 b s f (a:Nat) acc W) (ha:a≤s.size) (hp:((bt s a)==d)=false):
  Calls Tryz.prog 211 #[.pointer (some ⟨b,0,none⟩),.func (.func 212) #[] #[.pointer (some ⟨q,0,none⟩)]] W fun e W'=>e=.returned (.bool false)∧Inv w0 b s f (a:Nat) acc W':=by
 have HI:Hid (Inv w0 b s f (a:Nat) acc W):=hinv
 obtain⟨lv,hx,ho⟩:=hinv.cut
 obtain⟨c0,c1,c2,c3⟩:=hx.cells
 clear hinv hx ho c1 c3
 by_cases hlt:a<s.size
 ·rw[←gl hlt] at hp
  have hne:((a:Int)==(s.size:Int))=false:=by simp;omega
  go_enter Tryz.func211,Tryz.ntmps211
  go_wp2
  go_quiet ((go_at_call 212;exact Calls.quiet_of_same (Be _ _ _ _ hq)))
  go_wp2
  go_ret
  exact⟨rfl,HI.out.drew nq⟩
 ·clear hp
  have hne:((a:Int)==(s.size:Int))=true:=by simp;omega
  go_enter Tryz.func211,Tryz.ntmps211
  go_wp2
  go_quiet ((go_at_call 212;exact Calls.quiet_of_same (Be _ _ _ _ hq)))
  go_wp2
  go_ret
  exact⟨rfl,HI.out.drew nq⟩
theorem jK {w0 W:World} {b:Nat} {s:ByteArray} {f:Int} {a:Nat} {acc:List Tok} {d:Int} (hd:0≤d) (hinv:Inv w0 b s f (a:Nat) acc W) (hs:s.size≤2000) (hp:(bt s a==d)=true):
  Calls Tryz.prog 153 #[.pointer (some ⟨b,0,none⟩),.int .u8 d] W fun e W'=>e=.returned (.bool true)∧Inv w0 b s f ((a+1:Nat):Int) acc W':=by
 have HI:Hid (Inv w0 b s f (a:Nat) acc W):=hinv
 have HP:Hid ((bt s a==d)=true):=hp
 clear hinv hp
 go_enter Tryz.func153,Tryz.ntmps153
 go_wp2_with (go_at_call 211;refine(xr hd (by simp) (HI.out.alloc _) hs HP.out).mono ?_;rintro e W' ⟨rfl,h1⟩)
 go_ret
 exact⟨rfl,h1⟩
theorem jY {w0 W:World} {b:Nat} {s:ByteArray} {f:Int} {a:Nat} {acc:List Tok} {d:Int} (hinv:Inv w0 b s f (a:Nat) acc W) (ha:a≤s.size) (hp:(bt s a==d)=false):
  Calls Tryz.prog 153 #[.pointer (some ⟨b,0,none⟩),.int .u8 d] W fun e W'=>e=.returned (.bool false)∧Inv w0 b s f (a:Nat) acc W':=by
 have HI:Hid (Inv w0 b s f (a:Nat) acc W):=hinv
 have HP:Hid ((bt s a==d)=false):=hp
 clear hinv hp
 go_enter Tryz.func153,Tryz.ntmps153
 go_wp2_with (go_at_call 211;refine(Bg (by simp) (HI.out.alloc _) ha HP.out).mono ?_;rintro e W' ⟨rfl,h1⟩)
 go_ret
 exact⟨rfl,h1⟩
end
section
open Go.RowKit
theorem CM {w0 W:World} {b:Nat} {s:ByteArray} {f a:Nat} {acc:List Tok} (hinv:Inv w0 b s (f:Nat) (a:Nat) acc W) (hs:s.size≤2000) (hfa:f≤a) (ha:a≤s.size) (h8:8<a - f):
  Calls Tryz.prog 214 #[.pointer (some ⟨b,0,none⟩)] W fun e W'=>e=.returned (.bool false)∧Inv w0 b s (f:Nat) (a:Nat) acc W':=by
 have HI:Hid (Inv w0 b s (f:Nat) (a:Nat) acc W):=hinv
 obtain⟨lv,hx,ho⟩:=hinv.cut
 obtain⟨c0,c1,c2,c3⟩:=hx.cells
 clear hinv hx ho c0 c3
 go_enter Tryz.func214,Tryz.ntmps214
 go_wp2
 go_quiet (fail)
 go_wp2
 go_ret
 exact⟨rfl,HI.out.drew nq⟩
theorem AW {w0 W:World} {b:Nat} {s:ByteArray} {f a:Nat} {acc:List Tok} (hinv:Inv w0 b s (f:Nat) (a:Nat) acc W) (hs:s.size≤2000) (hfa:f≤a) (ha:a≤s.size) (hal:acc.length≤2000) (h8:a - f≤8):
  Calls Tryz.prog 214 #[.pointer (some ⟨b,0,none⟩)] W fun e W'=>e=.returned (.bool true)∧Inv w0 b s (f:Nat) (a:Nat) (acc++[⟨1,s.extract f a,0⟩]) W':=by
 have HI:Hid (Inv w0 b s (f:Nat) (a:Nat) acc W):=hinv
 obtain⟨lv,hx,ho⟩:=hinv.cut
 obtain⟨c0,c1,c2,c3⟩:=hx.cells
 clear hinv hx ho c0 c3
 go_enter Tryz.func214,Tryz.ntmps214
 go_wp2
 go_quiet (fail)
 go_wp2_with (go_at_call 216;refine(add 1 0 (HI.out.drew nq) hs hfa ha hal).mono ?_;rintro e W' ⟨rfl,h1⟩)
 go_ret
 exact⟨rfl,h1⟩
theorem BP {w0 W:World} {b:Nat} {s:ByteArray} {f a:Nat} {acc:List Tok} {t:ByteArray} {u:ByteArray} (hinv:Inv w0 b s (f:Nat) (a:Nat) acc W) (hfa:f≤a) (ha:a≤s.size) (ht:s.extract f a=t)
  (hT:∀W,Calls Tryz.prog 273 #[.string t,.string ⟨#[45]⟩] W fun e w'=>e=.returned (.string u)∧w'=W) (hu:0<u.size) (hne:(t.toList==[48])=false) (hu0:(((u[0]'hu).toNat:Int)==48)=true):
  Calls Tryz.prog 215 #[.pointer (some ⟨b,0,none⟩)] W fun e W'=>e=.returned (.bool false)∧Inv w0 b s (f:Nat) (a:Nat) acc W':=by
 have HI:Hid (Inv w0 b s (f:Nat) (a:Nat) acc W):=hinv
 obtain⟨lv,hx,ho⟩:=hinv.cut
 obtain⟨c0,c1,c2,c3⟩:=hx.cells
 have HT:Hid (∀W,Calls Tryz.prog 273 #[.string t,.string ⟨#[45]⟩] W fun e w'=>e=.returned (.string u)∧w'=W):=hT
 clear hT
 clear hinv hx ho c3
 go_enter Tryz.func215,Tryz.ntmps215
 go_wp2
 go_quiet (fail)
 go_wp2_with (first|(go_at_call 273;refine(HT.out _).mono ?_;rintro e W' ⟨rfl,rfl⟩))
 go_ret
 exact⟨rfl,HI.out.drew nq⟩
theorem Io {w0 W:World} {b:Nat} {s:ByteArray} {f a:Nat} {acc:List Tok} {t:ByteArray} {v:Int} (hinv:Inv w0 b s (f:Nat) (a:Nat) acc W) (hs:s.size≤2000) (hfa:f≤a) (ha:a≤s.size) (hal:acc.length≤2000) (ht:s.extract f a=t)
  (heq:(t.toList==[48])=true) (hA:∀W,Calls Tryz.prog 274 #[.string t] W fun e w'=>e=.returned (.tuple #[.int .i64 v,.nilIface])∧Below W.heap.size W w') (hv1:-1000000000≤v) (hv2:v≤1000000000):
  Calls Tryz.prog 215 #[.pointer (some ⟨b,0,none⟩)] W fun e W'=>e=.returned (.bool true)∧Inv w0 b s (f:Nat) (a:Nat) (acc++[⟨2,s.extract f a,v⟩]) W':=by
 have HI:Hid (Inv w0 b s (f:Nat) (a:Nat) acc W):=hinv
 obtain⟨lv,hx,ho⟩:=hinv.cut
 obtain⟨c0,c1,c2,c3⟩:=hx.cells
 have HA:Hid (∀W,Calls Tryz.prog 274 #[.string t] W fun e w'=>e=.returned (.tuple #[.int .i64 v,.nilIface])∧Below W.heap.size W w'):=hA
 clear hA
 clear hinv hx ho c3
 go_enter Tryz.func215,Tryz.ntmps215
 go_wp2
 go_quiet (fail)
 go_wp2_with (first|(go_at_call 274;refine(HA.out _).mono ?_;rintro e W2 ⟨rfl,hb2⟩;have hI2:=hid ((HI.out.drew nq).old hb2);clear hb2)|(go_at_call 216;refine(add 2 v hI2.out hs hfa ha hal).mono ?_;rintro e W3 ⟨rfl,h3⟩))
 go_ret
 exact⟨rfl,h3⟩
theorem B3 {w0 W:World} {b:Nat} {s:ByteArray} {f a:Nat} {acc:List Tok} {t:ByteArray} {u:ByteArray} (hinv:Inv w0 b s (f:Nat) (a:Nat) acc W) (hfa:f≤a) (ha:a≤s.size) (ht:s.extract f a=t)
  (hT:∀W,Calls Tryz.prog 273 #[.string t,.string ⟨#[45]⟩] W fun e w'=>e=.returned (.string u)∧w'=W) (hu:0<u.size) (hne:(t.toList==[48])=false) (hu0:(((u[0]'hu).toNat:Int)==48)=false) (hA:∀W,Below w0.heap.size w0 W→Calls Tryz.prog 274 #[.string t] W fun e w'=>∃N x,e=.returned (.tuple #[.int .i64 x,.iface 412 (.pointer (some ⟨N,0,none⟩))])∧Below W.heap.size W w'):
  Calls Tryz.prog 215 #[.pointer (some ⟨b,0,none⟩)] W fun e W'=>e=.returned (.bool false)∧Inv w0 b s (f:Nat) (a:Nat) acc W':=by
 have HI:Hid (Inv w0 b s (f:Nat) (a:Nat) acc W):=hinv
 obtain⟨lv,hx,ho⟩:=hinv.cut
 obtain⟨c0,c1,c2,c3⟩:=hx.cells
 have HT:Hid (∀W,Calls Tryz.prog 273 #[.string t,.string ⟨#[45]⟩] W fun e w'=>e=.returned (.string u)∧w'=W):=hT
 clear hT
 have HA:Hid (∀W,Below w0.heap.size w0 W→Calls Tryz.prog 274 #[.string t] W fun e w'=>∃N x,e=.returned (.tuple #[.int .i64 x,.iface 412 (.pointer (some ⟨N,0,none⟩))])∧Below W.heap.size W w'):=hA
 clear hA
 clear hinv hx ho c3
 go_enter Tryz.func215,Tryz.ntmps215
 go_wp2
 go_quiet (fail)
 go_wp2_with (first|(go_at_call 273;refine(HT.out _).mono ?_;rintro e W' ⟨rfl,rfl⟩)|(go_at_call 274;refine(HA.out _ (HI.out.drew nq).below).mono ?_;rintro e W2 ⟨N,x,rfl,hb2⟩;have hI2:=hid ((HI.out.drew nq).old hb2);clear hb2))
 go_ret
 exact⟨rfl,hI2.out⟩
theorem EH {w0 W:World} {b:Nat} {s:ByteArray} {f a:Nat} {acc:List Tok} {t:ByteArray} {u:ByteArray} {v:Int} (hinv:Inv w0 b s (f:Nat) (a:Nat) acc W) (hfa:f≤a) (ha:a≤s.size) (ht:s.extract f a=t)
  (hT:∀W,Calls Tryz.prog 273 #[.string t,.string ⟨#[45]⟩] W fun e w'=>e=.returned (.string u)∧w'=W) (hu:0<u.size) (hne:(t.toList==[48])=false) (hu0:(((u[0]'hu).toNat:Int)==48)=false) (hA:∀W,Calls Tryz.prog 274 #[.string t] W fun e w'=>e=.returned (.tuple #[.int .i64 v,.nilIface])∧Below W.heap.size W w') (hv:v < -1000000000):
  Calls Tryz.prog 215 #[.pointer (some ⟨b,0,none⟩)] W fun e W'=>e=.returned (.bool false)∧Inv w0 b s (f:Nat) (a:Nat) acc W':=by
 have HI:Hid (Inv w0 b s (f:Nat) (a:Nat) acc W):=hinv
 obtain⟨lv,hx,ho⟩:=hinv.cut
 obtain⟨c0,c1,c2,c3⟩:=hx.cells
 have HT:Hid (∀W,Calls Tryz.prog 273 #[.string t,.string ⟨#[45]⟩] W fun e w'=>e=.returned (.string u)∧w'=W):=hT
 clear hT
 have HA:Hid (∀W,Calls Tryz.prog 274 #[.string t] W fun e w'=>e=.returned (.tuple #[.int .i64 v,.nilIface])∧Below W.heap.size W w'):=hA
 clear hA
 clear hinv hx ho c3
 go_enter Tryz.func215,Tryz.ntmps215
 go_wp2
 go_quiet (fail)
 go_wp2_with (first|(go_at_call 273;refine(HT.out _).mono ?_;rintro e W' ⟨rfl,rfl⟩)|(go_at_call 274;refine(HA.out _).mono ?_;rintro e W2 ⟨rfl,hb2⟩;have hI2:=hid ((HI.out.drew nq).old hb2);clear hb2))
 go_ret
 exact⟨rfl,hI2.out⟩
theorem Gi {w0 W:World} {b:Nat} {s:ByteArray} {f a:Nat} {acc:List Tok} {t:ByteArray} {u:ByteArray} {v:Int} (hinv:Inv w0 b s (f:Nat) (a:Nat) acc W) (hfa:f≤a) (ha:a≤s.size) (ht:s.extract f a=t)
  (hT:∀W,Calls Tryz.prog 273 #[.string t,.string ⟨#[45]⟩] W fun e w'=>e=.returned (.string u)∧w'=W) (hu:0<u.size) (hne:(t.toList==[48])=false) (hu0:(((u[0]'hu).toNat:Int)==48)=false) (hA:∀W,Calls Tryz.prog 274 #[.string t] W fun e w'=>e=.returned (.tuple #[.int .i64 v,.nilIface])∧Below W.heap.size W w') (hv:1000000000<v):
  Calls Tryz.prog 215 #[.pointer (some ⟨b,0,none⟩)] W fun e W'=>e=.returned (.bool false)∧Inv w0 b s (f:Nat) (a:Nat) acc W':=by
 have HI:Hid (Inv w0 b s (f:Nat) (a:Nat) acc W):=hinv
 obtain⟨lv,hx,ho⟩:=hinv.cut
 obtain⟨c0,c1,c2,c3⟩:=hx.cells
 have HT:Hid (∀W,Calls Tryz.prog 273 #[.string t,.string ⟨#[45]⟩] W fun e w'=>e=.returned (.string u)∧w'=W):=hT
 clear hT
 have HA:Hid (∀W,Calls Tryz.prog 274 #[.string t] W fun e w'=>e=.returned (.tuple #[.int .i64 v,.nilIface])∧Below W.heap.size W w'):=hA
 clear hA
 clear hinv hx ho c3
 go_enter Tryz.func215,Tryz.ntmps215
 go_wp2
 go_quiet (fail)
 go_wp2_with (first|(go_at_call 273;refine(HT.out _).mono ?_;rintro e W' ⟨rfl,rfl⟩)|(go_at_call 274;refine(HA.out _).mono ?_;rintro e W2 ⟨rfl,hb2⟩;have hI2:=hid ((HI.out.drew nq).old hb2);clear hb2))
 go_ret
 exact⟨rfl,hI2.out⟩
theorem Ck {w0 W:World} {b:Nat} {s:ByteArray} {f a:Nat} {acc:List Tok} {t:ByteArray} {u:ByteArray} {v:Int} (hinv:Inv w0 b s (f:Nat) (a:Nat) acc W) (hs:s.size≤2000) (hfa:f≤a) (ha:a≤s.size) (hal:acc.length≤2000) (ht:s.extract f a=t)
  (hT:∀W,Calls Tryz.prog 273 #[.string t,.string ⟨#[45]⟩] W fun e w'=>e=.returned (.string u)∧w'=W) (hu:0<u.size) (hne:(t.toList==[48])=false) (hu0:(((u[0]'hu).toNat:Int)==48)=false) (hA:∀W,Calls Tryz.prog 274 #[.string t] W fun e w'=>e=.returned (.tuple #[.int .i64 v,.nilIface])∧Below W.heap.size W w') (hv1:-1000000000≤v) (hv2:v≤1000000000):
  Calls Tryz.prog 215 #[.pointer (some ⟨b,0,none⟩)] W fun e W'=>e=.returned (.bool true)∧Inv w0 b s (f:Nat) (a:Nat) (acc++[⟨2,s.extract f a,v⟩]) W':=by
 have HI:Hid (Inv w0 b s (f:Nat) (a:Nat) acc W):=hinv
 obtain⟨lv,hx,ho⟩:=hinv.cut
 obtain⟨c0,c1,c2,c3⟩:=hx.cells
 have HT:Hid (∀W,Calls Tryz.prog 273 #[.string t,.string ⟨#[45]⟩] W fun e w'=>e=.returned (.string u)∧w'=W):=hT
 clear hT
 have HA:Hid (∀W,Calls Tryz.prog 274 #[.string t] W fun e w'=>e=.returned (.tuple #[.int .i64 v,.nilIface])∧Below W.heap.size W w'):=hA
 clear hA
 clear hinv hx ho c3
 go_enter Tryz.func215,Tryz.ntmps215
 go_wp2
 go_quiet (fail)
 go_wp2_with (first|(go_at_call 273;refine(HT.out _).mono ?_;rintro e W' ⟨rfl,rfl⟩)|(go_at_call 274;refine(HA.out _).mono ?_;rintro e W2 ⟨rfl,hb2⟩;have hI2:=hid ((HI.out.drew nq).old hb2);clear hb2)|(go_at_call 216;refine(add 2 v hI2.out hs hfa ha hal).mono ?_;rintro e W3 ⟨rfl,h3⟩))
 go_ret
 exact⟨rfl,h3⟩
theorem oj (t:ByteArray) (h0:0<t.size) (h:bt t 0≠45) (w:World):Calls Tryz.prog 273 #[.string t,.string ⟨#[45]⟩] w fun e w'=>e=.returned (.string t)∧w'=w:=by
 have:=Tryz.strings_TrimPrefix t ⟨#[45]⟩ w
 have e:(⟨(Lib.trimPrefix t.data.toList (⟨#[45]⟩:ByteArray).data.toList).toArray⟩:ByteArray)=t:=by
  obtain⟨c,r,hc,hb,-,-⟩:=j0 h0
  have hn:Lib.trimPrefix t.data.toList [45]=t.data.toList:=by
   unfold Lib.trimPrefix
   rw[if_neg]
   rw[hc]
   unfold Lib.hasPrefix
   intro hp
   simp[List.isPrefixOf] at hp
   subst hp
   apply h;rw[←hb];rfl
  show (⟨(Lib.trimPrefix t.data.toList [45]).toArray⟩:ByteArray)=t
  rw[hn]
 rw[e] at this;exact this
def lh (t:ByteArray):ByteArray:=⟨(t.data.toList.drop 1).toArray⟩
theorem qz (t:ByteArray):(lh t).size=t.size - 1:=by
 have:(lh t).data.toList.length=(lh t).size:=aZ _
 rw[←this]
 show ((t.data.toList.drop 1).toArray).toList.length=_
 rw[List.toList_toArray,List.length_drop,aZ]
theorem rI (t:ByteArray) (h:1<t.size):bt (lh t) 0=bt t 1:=by
 have h1:0<(lh t).data.toList.length:=by rw[aZ,qz];omega
 rw[iO h1,iO (s:=t) (k:=1) (by rw[aZ];exact h)]
 have:(lh t).data.toList=t.data.toList.drop 1:=by
  show ((t.data.toList.drop 1).toArray).toList=_
  rw[List.toList_toArray]
 simp only[this,List.getElem_drop]
theorem pK (t:ByteArray) (h0:0<t.size) (h:bt t 0=45) (w:World):Calls Tryz.prog 273 #[.string t,.string ⟨#[45]⟩] w fun e w'=>e=.returned (.string (lh t))∧w'=w:=by
 have:=Tryz.strings_TrimPrefix t ⟨#[45]⟩ w
 have e:(⟨(Lib.trimPrefix t.data.toList (⟨#[45]⟩:ByteArray).data.toList).toArray⟩:ByteArray)=lh t:=by
  obtain⟨c,r,hc,hb,-,-⟩:=j0 h0
  have hc45:c=45:=UInt8.toNat_inj.1 (by show c.toNat=45;omega)
  have hn:Lib.trimPrefix t.data.toList [45]=t.data.toList.drop 1:=by
   unfold Lib.trimPrefix
   rw[if_pos]
   ·rfl
   ·rw[hc,hc45]
    unfold Lib.hasPrefix
    simp[List.isPrefixOf]
  show (⟨(Lib.trimPrefix t.data.toList [45]).toArray⟩:ByteArray)=_
  rw[hn];rfl
 rw[e] at this;exact this
theorem tF (t:ByteArray) (v:Int) (hz:t.size≤2000) (h:Lib.atoiAll t.data.toList=.ok v) (W:World):Calls Tryz.prog 274 #[.string t] W fun e w'=>e=.returned (.tuple #[.int .i64 v,.nilIface])∧Below W.heap.size W w':=by
 refine(Tryz.strconv_Atoi_ok t (by omega) v h W).mono ?_
 rintro e w' ⟨he,hw|⟨x,hw⟩⟩
 ·subst hw;exact⟨he,Below.refl _ _⟩
 ·subst hw;exact⟨he,Lib.bytesWorld_below _ _ _⟩
theorem vh {w0:World} {ev:Value} (hv:w0.cell? ⟨5,0,none⟩=some ev) (hev:ev=.nilIface∨∃te pe,ev=.iface te pe) (t:ByteArray) (hz:t.size≤2000) (h:Lib.atoiAll t.data.toList=.range) (W:World) (hB:Below w0.heap.size w0 W):
  Calls Tryz.prog 274 #[.string t] W fun e w'=>∃N x,e=.returned (.tuple #[.int .i64 x,.iface 412 (.pointer (some ⟨N,0,none⟩))])∧Below W.heap.size W w':=by
 have hlt:=Lib.lt_of_cell hv
 refine(Tryz.strconv_Atoi_range t (by omega) h ev W ((hB.cell hlt).trans hv) hev).mono ?_
 rintro e w' ⟨N,he,-,-,hb⟩
 exact⟨N,_,he,hb⟩
theorem xP (t:ByteArray):(t.toList==[48])=true↔t.size=1∧bt t 0=48:=by
 rw[ByteArray.toList_eq]
 constructor
 ·intro h
  have h:t.data.toList=[48]:=by simpa using h
  have hl:=aZ t
  have hb:=iO (s:=t) (k:=0) (by rw[h];simp)
  simp only[h] at hb
  rw[h] at hl
  exact⟨by simpa using hl.symm,by rw[hb];rfl⟩
 ·rintro ⟨h1,h2⟩
  obtain⟨c,r,hc,hb,-,hr⟩:=j0 (s:=t) (by omega)
  have hr0:r=[]:=List.eq_nil_of_length_eq_zero (by omega)
  have hc48:c=48:=UInt8.toNat_inj.1 (by show c.toNat=48;omega)
  rw[hc,hr0,hc48];rfl
theorem kU {t:ByteArray} (h:¬(t.size=1∧bt t 0=48)):(t.toList==[48])=false:=by
 cases hx:(t.toList==[48]) with
 | true=>exact absurd ((xP t).1 hx) h
 | false=>rfl
theorem yv {u:ByteArray} (hu:0<u.size) (h:bt u 0=48):(((u[0]'hu).toNat:Int)==48)=true:=by rw[gl hu,h];rfl
theorem j7 {u:ByteArray} (hu:0<u.size) (h:bt u 0≠48):(((u[0]'hu).toNat:Int)==48)=false:=by rw[gl hu];simpa using h
theorem uo {w0 W:World} {b:Nat} {s:ByteArray} {f a:Nat} {acc:List Tok} {t:ByteArray} {v:Int} (hinv:Inv w0 b s (f:Nat) (a:Nat) acc W) (hs:s.size≤2000) (hfa:f≤a) (ha:a≤s.size) (hal:acc.length≤2000) (ht:s.extract f a=t)
  (hn:rA t) (hv:j9 t.data.toList=some v):
  Calls Tryz.prog 215 #[.pointer (some ⟨b,0,none⟩)] W fun e W'=>e=.returned (.bool true)∧Inv w0 b s (f:Nat) (a:Nat) (acc++[⟨2,s.extract f a,v⟩]) W':=by
 have hz:t.size≤2000:=by rw[←ht,ij _ _ _ ha];omega
 rcases hn with ⟨h0,hd⟩|⟨h1,h45,hd⟩
 ·have hb:=hd 0 h0
  by_cases hbad:(bt t 0=48∧1<t.size)∨1000000000<(fz 0 t.data.toList:Nat)
  ·rw[sC h0 (by omega) hbad] at hv;cases hv
  ·have hok:=oH h0 (by omega) (by omega) (by omega)
   rw[hok] at hv
   injection hv with hv
   have hat:Lib.atoiAll t.data.toList=.ok v:=by
    rcases sh h0 hd with h|⟨_,h⟩
    ·rw[h,hv]
    ·omega
   by_cases hzr:t.size=1∧bt t 0=48
   ·exact Io hinv hs hfa ha hal ht ((xP t).2 hzr) (tF t v hz hat) (by omega) (by omega)
   ·exact Ck hinv hs hfa ha hal ht (oj t h0 (by omega)) h0 (kU hzr) (j7 h0 (by omega)) (tF t v hz hat) (by omega) (by omega)
 ·by_cases hbad:bt t 1=48∨1000000000<(fz 0 (t.data.toList.drop 1):Nat)
  ·rw[uA h1 h45 hbad] at hv;cases hv
  ·have hok:=pu h1 h45 (by omega) (by omega)
   rw[hok] at hv
   injection hv with hv
   have hat:Lib.atoiAll t.data.toList=.ok v:=by
    rcases uE h1 h45 hd with h|⟨_,h⟩
    ·rw[h,hv]
    ·omega
   have hu:0<(lh t).size:=by rw[qz];omega
   exact Ck hinv hs hfa ha hal ht (pK t (by omega) h45) hu (kU (by omega)) (j7 hu (by rw[rI t h1];omega)) (tF t v hz hat) (by omega) (by omega)
theorem uf {w0 W:World} {ev:Value} (hg:w0.cell? ⟨5,0,none⟩=some ev) (hev:ev=.nilIface∨∃te pe,ev=.iface te pe) {b:Nat} {s:ByteArray} {f a:Nat} {acc:List Tok} {t:ByteArray} (hinv:Inv w0 b s (f:Nat) (a:Nat) acc W) (hs:s.size≤2000) (hfa:f≤a) (ha:a≤s.size) (ht:s.extract f a=t)
  (hn:rA t) (hv:j9 t.data.toList=none):
  Calls Tryz.prog 215 #[.pointer (some ⟨b,0,none⟩)] W fun e W'=>e=.returned (.bool false)∧Inv w0 b s (f:Nat) (a:Nat) acc W':=by
 have hz:t.size≤2000:=by rw[←ht,ij _ _ _ ha];omega
 rcases hn with ⟨h0,hd⟩|⟨h1,h45,hd⟩
 ·have hb:=hd 0 h0
  by_cases hzr:bt t 0=48∧1<t.size
  ·exact BP hinv hfa ha ht (oj t h0 (by omega)) h0 (kU (by omega)) (yv h0 hzr.1)
  ·have hbig:1000000000<(fz 0 t.data.toList:Nat):=by
    by_cases h:1000000000<(fz 0 t.data.toList:Nat)
    ·exact h
    ·rw[oH h0 (by omega) hzr (by omega)] at hv;cases hv
   have hn0:¬(t.size=1∧bt t 0=48):=by
    rintro ⟨ha1,hb1⟩
    have h2:=Gv t 0 (fun j _=>hd j) (by omega)
    rw[ha1,List.drop_zero] at h2
    have h3:dn t 0 1=10*0+(bt t (0+0) - 48):=by simp only[dn]
    rw[Nat.add_zero,hb1] at h3
    have:dn t 0 (1 - 0)=dn t 0 1:=by rfl
    omega
   have h48:bt t 0≠48:=by intro h;omega
   rcases sh h0 hd with h|⟨h,_⟩
   ·exact Gi hinv hfa ha ht (oj t h0 (by omega)) h0 (kU hn0) (j7 h0 h48) (tF t _ hz h) (by omega)
   ·exact B3 hinv hfa ha ht (oj t h0 (by omega)) h0 (kU hn0) (j7 h0 h48) (fun W hB=>vh hg hev t hz h W hB)
 ·have hu:0<(lh t).size:=by rw[qz];omega
  by_cases h48:bt t 1=48
  ·exact BP hinv hfa ha ht (pK t (by omega) h45) hu (kU (by omega)) (yv hu (by rw[rI t h1];exact h48))
  ·have hbig:1000000000<(fz 0 (t.data.toList.drop 1):Nat):=by
    by_cases h:1000000000<(fz 0 (t.data.toList.drop 1):Nat)
    ·exact h
    ·rw[pu h1 h45 h48 (by omega)] at hv;cases hv
   rcases uE h1 h45 hd with h|⟨h,_⟩
   ·exact EH hinv hfa ha ht (pK t (by omega) h45) hu (kU (by omega)) (j7 hu (by rw[rI t h1];exact h48)) (tF t _ hz h) (by omega)
   ·exact B3 hinv hfa ha ht (pK t (by omega) h45) hu (kU (by omega)) (j7 hu (by rw[rI t h1];exact h48)) (fun W hB=>vh hg hev t hz h W hB)
end
section
open Go.RowKit
def jE (c:Int):Int:=
 if c=45 then 3 else if c=93 then 4 else if c=46 then 5 else if c=60 then 6 else if c=62 then 7
 else if c=40∨c=41∨c=58∨c=44∨c=61∨c=42∨c=123∨c=125 then 8
 else if eQ c then 1 else if cH c then 2 else 0
theorem Hy (c:Int) (w:World):Calls Tryz.prog 213 #[.int .u8 c] w fun e w'=>e=.returned (.int .i64 (jE c))∧w'=w:=by
 by_cases hs:c=45∨c=93∨c=46∨c=60∨c=62∨c=40∨c=41∨c=58∨c=44∨c=61∨c=42∨c=123∨c=125
 ·rcases hs with rfl|rfl|rfl|rfl|rfl|rfl|rfl|rfl|rfl|rfl|rfl|rfl|rfl
  all_goals
   go_enter Tryz.func213,Tryz.ntmps213
   go_wp2
   go_ret
   exact⟨rfl,rfl⟩
 ·have ho:jE c=if eQ c then 1 else if cH c then 2 else 0:=by
   unfold jE
   rw[if_neg (by omega),if_neg (by omega),if_neg (by omega),if_neg (by omega),if_neg (by omega),if_neg (by omega)]
  have h1:(c==45)=false:=by simp;omega
  have h2:(c==93)=false:=by simp;omega
  have h3:(c==46)=false:=by simp;omega
  have h4:(c==60)=false:=by simp;omega
  have h5:(c==62)=false:=by simp;omega
  have h6:(c==40)=false:=by simp;omega
  have h7:(c==41)=false:=by simp;omega
  have h8:(c==58)=false:=by simp;omega
  have h9:(c==44)=false:=by simp;omega
  have h10:(c==61)=false:=by simp;omega
  have h11:(c==42)=false:=by simp;omega
  have h12:(c==123)=false:=by simp;omega
  have h13:(c==125)=false:=by simp;omega
  clear hs
  cases hl:eQ c with
  | true=>
   rw[hl] at ho
   rw[ho]
   clear ho
   go_enter Tryz.func213,Tryz.ntmps213
   go_wp2_with (first|(go_at_call 204;refine(fG _ _).mono ?_;rintro e w' ⟨rfl,rfl⟩)|(go_at_call 205;refine(isDigit _ _).mono ?_;rintro e w' ⟨rfl,rfl⟩))
   go_ret
   exact⟨rfl,rfl⟩
  | false=>
   rw[hl] at ho
   cases hd:cH c with
   | true=>
    rw[hd] at ho
    rw[ho]
    clear ho
    go_enter Tryz.func213,Tryz.ntmps213
    go_wp2_with (first|(go_at_call 204;refine(fG _ _).mono ?_;rintro e w' ⟨rfl,rfl⟩)|(go_at_call 205;refine(isDigit _ _).mono ?_;rintro e w' ⟨rfl,rfl⟩))
    go_ret
    exact⟨rfl,rfl⟩
   | false=>
    rw[hd] at ho
    rw[ho]
    clear ho
    go_enter Tryz.func213,Tryz.ntmps213
    go_wp2_with (first|(go_at_call 204;refine(fG _ _).mono ?_;rintro e w' ⟨rfl,rfl⟩)|(go_at_call 205;refine(isDigit _ _).mono ?_;rintro e w' ⟨rfl,rfl⟩))
    go_ret
    exact⟨rfl,rfl⟩
end
section
open Go
def fE (J:Nat→Act→World→Prop) (Q:Exit→Act→World→Prop):Exit→Act→World→Prop
 | .goto l,a,w=>J l a w
 | e,a,w=>Q e a w
section
variable {P:Program} {a:Act} {w:World} {Q:Exit→Act→World→Prop}
theorem rr {c:Code} (J:Nat→Nat→Act→World→Prop)
  (first:c.wp P (fE (fun l a' w'=>∃n,J l n a' w') Q) a w)
  (pass:∀n l a w,J l n a w→∃rest,findLabel c l=some rest∧rest.wp P (fE (fun l' a' w'=>∃n',n'<n∧J l' n' a' w') Q) a w):(Code.scope c).wp P Q a w:=by
 intro b k cs
 have key:∀n l a w,J l n a w→∃rest e a' w',findLabel c l=some rest∧Q e a' w'∧Arrives P (lone (b.at a (.code rest::.inScope c::k)) cs w) b k cs e a' w':=by
  intro n
  induction n using Nat.strongRecOn with
  | _ n ih=>
   intro l a w hJ
   obtain⟨rest,hf,hrest⟩:=pass n l a w hJ
   obtain⟨e,a₁,w₁,hq,harr⟩:=hrest b (.inScope c::k) cs
   refine⟨rest,?_⟩
   cases e with
   | normal=>exact⟨.normal,a₁,w₁,hf,hq,Steps.trans harr (.one step_inScope)⟩
   | exit id=>exact⟨.exit id,a₁,w₁,hf,hq,fun k' hk=>harr k' (by simp[exitTo,hk])⟩
   | goto l'=>
    obtain⟨n',hlt,hJ'⟩:=hq
    obtain⟨rest',e₂,a₂,w₂,hf',hq₂,harr₂⟩:=ih n' hlt l' a₁ w₁ hJ'
    have hg:gotoIn l' (.inScope c::k)=some (.code rest'::.inScope c::k):=by simp[gotoIn,hf']
    exact⟨e₂,a₂,w₂,hf,hq₂,.of_steps (harr _ hg) harr₂⟩
   | ret=>exact⟨_,a₁,w₁,hf,hq,harr⟩
   | panic ch=>exact⟨_,a₁,w₁,hf,hq,harr⟩
   | outgrown=>exact⟨_,a₁,w₁,hf,hq,harr⟩
 obtain⟨e,a₁,w₁,hq,harr⟩:=first b (.inScope c::k) cs
 cases e with
 | normal=>exact⟨.normal,a₁,w₁,hq,.head step_scope (Steps.trans harr (.one step_inScope))⟩
 | exit id=>exact⟨.exit id,a₁,w₁,hq,fun k' hk=>.head step_scope (harr k' (by simp[exitTo,hk]))⟩
 | goto l'=>
  obtain⟨n',hJ'⟩:=hq
  obtain⟨rest',e₂,a₂,w₂,hf',hq₂,harr₂⟩:=key n' l' a₁ w₁ hJ'
  have hg:gotoIn l' (.inScope c::k)=some (.code rest'::.inScope c::k):=by simp[gotoIn,hf']
  exact⟨e₂,a₂,w₂,hq₂,.of_steps (.head step_scope (harr _ hg)) harr₂⟩
 | ret=>exact⟨_,a₁,w₁,hq,.of_steps (.one step_scope) harr⟩
 | panic ch=>exact⟨_,a₁,w₁,hq,.of_steps (.one step_scope) harr⟩
 | outgrown=>exact⟨_,a₁,w₁,hq,.of_steps (.one step_scope) harr⟩
end
end
end Go.Proofs.YtobgbmfpicmpcaaGreatDoor
