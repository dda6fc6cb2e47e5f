/- Mine. -/
import Derived.Test.YtbfmmmjkjhjleaaGreatDoorC00
import Derived.Test.YtbfmmmjkjhjleaaGreatDoorProg
import Derived.WalkSpells
import Derived.WalkLawsBesides
import Derived.Lib.QuietBelow
import Derived.Lib.SmallJoins
import Derived.Deep.CutBlock
import Derived.Deep.DeepCutAuto
import Derived.Shelf.Small.Wraps
import Derived.Shelf.Strings.OnBuilder
import Derived.Shelf.Strconv.Itoa3
import Derived.Shelf.Strings.Cut
import Derived.Shelf.Strings.Split
import Derived.Shelf.Strconv.AtoiAll
import Derived.Shelf.SlIter.Nil
import Derived.Shelf.SortM.Plain
import Derived.Shelf.SortM.SortNone
import Derived.DeepKeys5
import Derived.Deep.AppendLies
import Derived.Shelf.SlSortCmp.WholeK
set_option maxRecDepth 100000
set_option maxHeartbeats 0
namespace Go.Proofs.YtbfmmmjkjhjleaaGreatDoor
variable {w:World} {s:ByteArray} {c:UInt8} {i:Nat}
section
open Go Go.RowKit
theorem CW{B a:Nat}{e:TypeId}{size:Nat}{v:Value}{n:Nat}{xs:List Value}(h:w.ownsRow B e size v n xs)(f:a<=B):w.ownsRow a e size v n xs:=by
 refine⟨h.1,?_⟩;rcases h.2 with c|⟨g,cap,b,d,i,rest⟩
 ·exact .inl c
 ·exact .inr ⟨g,cap,b,d,by omega,rest⟩
theorem vd{a:World}(h:w.grownBy a none)(r:Option Nat):w.grownBy a r:=⟨h.os,h.tape,h.output,h.size,fun k hk _=>h.block k hk (by simp)⟩
theorem Ai{B:Nat}{e:TypeId}{size g n m cap:Nat}{xs ys:List Value}(h:w.ownsRow B e size (.slice (some ⟨g,0,none⟩) m cap) m (xs++ys))(f:xs.length=n*size)(q:n<=m):
  w.ownsRow B e size (.slice (some ⟨g,0,none⟩) n cap) n xs:=by
 refine⟨f,.inr ?_⟩;rcases h.2 with ⟨i,_⟩|⟨t,d,a,s,l,o,p,b,c,r⟩
 ·cases i
 ·injection s with h1 u j
  injection h1 with h1
  injection h1 with h1
  subst h1;subst j;refine⟨g,cap,a,rfl,l,o,by omega,b,c,?_⟩;have k:(a.toList.take (m*size)).take (n*size)=a.toList.take (n*size):=by
   rw[List.take_take,Nat.min_eq_left (Nat.mul_le_mul_right _ q)]
  rw[<-k,r,<-f,List.take_left]
end
section
open Go.RowKit
def cA(s:ByteArray)(c:UInt8):ByteArray:=⟨(Lib.cut s.data.toList [c]).1.toArray⟩
def cZ(s:ByteArray)(c:UInt8):ByteArray:=⟨(Lib.cut s.data.toList [c]).2.1.toArray⟩
def cB(s:ByteArray)(c:UInt8):Bool:=(Lib.cut s.data.toList [c]).2.2
theorem BG(hi:i<s.size):Lib.occAt s.data.toList [c] i=(c==s[i]):=by
 unfold Lib.occAt;rw[xi (by simpa using hi)];simp[List.isPrefixOf]
 rfl
theorem P8(hi:s.size<=i):Lib.occAt s.data.toList [c] i=false:=by
 unfold Lib.occAt;rw[BS (by simpa using hi)]
 rfl
theorem Il(hi:i<s.size)(a:s[i]=c)(b:∀j (h:j<s.size),j<i->s[j]≠c):cA s c=s.extract 0 i/\cZ s c=s.extract (i+1) s.size/\cB s c=true:=by
 refine Lib.cutB_hit s ⟨#[c]⟩ i (Lib.index_first (by simpa using Nat.le_of_lt hi) (by rw[BG hi,a];simp) fun j hj=>?_);rw[BG (by omega)];have:=b j (by omega) hj
 simpa using fun e=>this e.symm
theorem MS(a:∀j (h:j<s.size),s[j]≠c):cA s c=s/\cZ s c=⟨#[]⟩/\cB s c=false:=by
 refine Lib.cutB_miss s ⟨#[c]⟩ (Lib.index_none fun j _=>?_);rcases ua j s.size with h|h
 ·rw[BG h];have:=a j h
  simpa using fun e=>this e.symm
 ·exact P8 h
theorem MF(s:ByteArray)(c:UInt8)(W:World)(x:s.size<=maxLen):
  Calls Tryz.prog 14 #[.string s,.int .u8 (c.toNat:Int)] W fun e W'=>e=.returned (.tuple #[.string (cA s c),.string (cZ s c),.bool (cB s c)])/\Below W.heap.size W W':=by
 unfold maxLen at x;have u:0<=(c.toNat:Int):=by omega
 have v:(c.toNat:Int)<=255:=by have:=c.toNat_lt;omega
 go_enter Tryz.func14,Tryz.ntmps14
 go_wp2_with fail;go_loopg [7] s.size (fun g iv w=>∃k:Nat,iv=.int .i64 (k:Int)/\k+g=s.size/\(∀j (h:j<s.size),j<k->s[j]≠c)/\w=W)
 case atStart=>exact⟨0,rfl,by omega,fun _ _ h=>absurd h (by omega),rfl⟩
 case round=>
  obtain⟨k,rfl,hk,r,rfl⟩:=hrel;have n:=p9 r;clear r;by_cases a:k<s.size
  ·have q:(k:Int)<(s.size:Int):=by omega
   by_cases he:s[k]=c
   ·have p:(((s[k]'a).toNat:Int)==(c.toNat:Int))=true:=by rw[he];simp
    obtain⟨b,d,f⟩:=Il a he n.o;have i:=p9 b;have l:=p9 d;have m:=p9 f;clear he b d f;go_upto_region 5 with fail;go_quiet (fail)
    go_wp2_with fail
    go_ret3
    exact⟨by rw[i.o,l.o,m.o];rfl,Joins.below_draws _ wr nq⟩
   ·have p:(((s[k]'a).toNat:Int)==(c.toNat:Int))=false:=by
     have:(s[k]'a).toNat≠c.toNat:=fun e=>he (UInt8.toNat_inj.1 e)
     simpa using fun e=>this (by omega)
    have t:=p9 he;clear he;go_wp2_with fail;go_roundg (gk - 1)
    case rel=>
     refine⟨k+1,by simp,by omega,fun j h hj=>?_,rfl⟩;rcases ua j k with h1|h1
     ·exact n.o j h h1
     ·obtain rfl:j=k:=by omega
      exact t.o
    case measure=>omega
  ·have q:¬(k:Int)<(s.size:Int):=by omega
   obtain⟨b,d,f⟩:=MS (s:=s) (c:=c) fun j h=>n.o j h (by omega);have i:=p9 b;have l:=p9 d;have m:=p9 f;clear b d f;go_wp2_with fail
   go_ret3
   exact⟨by rw[i.o,l.o,m.o];rfl,r5 _ _⟩
end
end Go.Proofs.YtbfmmmjkjhjleaaGreatDoor
namespace Go.Proofs
open Go.Shelf
def Tryz.Eo:Go.Shelf.Ren:=⟨fun|122=>190|215=>234|n=>n,fun|3=>3|4=>4|n=>n,fun|n=>n⟩
theorem Tryz.Oq:Go.Proofs.Lays.n122 Tryz.prog Tryz.Eo:=by repeat' first|kernel_rfl|decide|(intro)|constructor
open Go.RowKit in
theorem Tryz.cmp_Compare_int(x y:Int)(w:World) :
    Calls Tryz.prog 190 #[.int .i64 x,.int .i64 y] w fun e w'=>e=.returned (.int .i64 (Lib.compareInt x y))/\w'=w:=Any.cmp_Compare_int Tryz.Oq x y w
end Go.Proofs
namespace Go.Proofs.YtbfmmmjkjhjleaaGreatDoor
variable {w:World} {s:ByteArray} {c:UInt8} {i:Nat}
end Go.Proofs.YtbfmmmjkjhjleaaGreatDoor
namespace Go.Proofs
open Go.Shelf
def Tryz.wB:Go.Shelf.Ren:=⟨fun|156=>114|165=>155|166=>156|169=>157|240=>214|241=>215|276=>266|277=>267|n=>n,fun|31=>34|9=>9|3=>3|4=>4|0=>0|20=>20|72=>252|76=>255|70=>250|37=>101|75=>254|127=>243|164=>347|5=>5|80=>94|n=>n,fun|n=>n⟩
theorem Tryz.OZ:Go.Proofs.Lays.n156 Tryz.prog Tryz.wB:=by repeat' first|kernel_rfl|decide|(intro)|constructor
theorem Tryz.uz:Builder.Extra Tryz.prog Tryz.wB:=by repeat' first|kernel_rfl|decide|(intro)|constructor
open Go.RowKit in
theorem Tryz.strings_Join(d o c:Nat)(xs:List ByteArray)(sep:ByteArray)(w:World)(a:∀ (j:Nat) x,xs[j]?=some x->w.cell? ⟨d,o + j,none⟩=some (.string x))(f:d < w.heap.size)(g:xs.length<=140737488355328)(b:xs.length<=c)(hlen:(Lib.join (xs.map (·.data.toList)) sep.data.toList).length<=140737488355328) :
    Calls Tryz.prog 114 #[.slice (some ⟨d,o,none⟩) xs.length c,.string sep] w fun e w'=>e=.returned (.string ⟨(Lib.join (xs.map (·.data.toList)) sep.data.toList).toArray⟩)/\Below w.heap.size w w':=Any.strings_Join Tryz.OZ Tryz.uz d o c xs sep w a f g b hlen
def Tryz.CA:Go.Shelf.Ren:=⟨fun|171=>93|243=>142|246=>203|283=>249|284=>250|285=>251|286=>252|129=>189|317=>283|318=>284|319=>285|320=>286|337=>304|338=>305|n=>n,fun|3=>3|9=>9|2=>2|4=>4|171=>335|0=>0|53=>277|37=>101|5=>5|173=>337|212=>364|51=>275|20=>20|213=>365|46=>100|232=>397|233=>398|n=>n,fun|17=>0|18=>4|19=>5|n=>n⟩
theorem Tryz.Nw:Go.Proofs.LaysM.n171 Tryz.prog Tryz.CA:=by repeat' first|kernel_rfl|decide|(intro)|constructor
open Go.RowKit Go.Sort Go.Lib in
theorem Tryz.strconv_Itoa(n:Int)(b:-9223372036854775808<=n)(h1:n<=9223372036854775807)(w:World)(a:Lib.TabIs Tryz.prog w "internal/strconv.uint64pow10" .u64 Lib.pow10Tab) :
    Calls Tryz.prog 93 #[.int .i64 n] w fun e w'=>e=.returned (.string ⟨(Lib.itoa n).toArray⟩)/\∃ k os,w'=grow (w.drewN k) os:=Any.strconv_Itoa Tryz.Nw n b h1 w a
end Go.Proofs
namespace Go.Proofs.YtbfmmmjkjhjleaaGreatDoor
variable {w:World} {s:ByteArray} {c:UInt8} {i:Nat}
end Go.Proofs.YtbfmmmjkjhjleaaGreatDoor
namespace Go.Proofs
open Go.Shelf
def Tryz.DD:Go.Shelf.Ren:=⟨fun|103=>97|210=>145|206=>208|n=>n,fun|9=>9|4=>4|24=>185|3=>3|n=>n,fun|n=>n⟩
theorem Tryz.On:Go.Proofs.Lays.n103 Tryz.prog Tryz.DD:=by repeat' first|kernel_rfl|decide|(intro)|constructor
open Go.RowKit in
theorem Tryz.strings_CutPrefix(s p:ByteArray)(w:World) :
    Calls Tryz.prog 97 #[.string s,.string p] w fun e w'=>e=.returned (.tuple #[.string ⟨(Lib.trimPrefix s.data.toList p.data.toList).toArray⟩,.bool (Lib.hasPrefix s.data.toList p.data.toList)])/\w'=w:=Any.strings_CutPrefix Tryz.On s p w
def Tryz.Dm:Go.Shelf.Ren:=⟨fun|145=>146|220=>209|219=>256|217=>288|225=>289|224=>290|267=>291|266=>306|314=>307|n=>n,fun|9=>9|4=>4|59=>75|3=>3|5=>5|46=>100|146=>377|51=>275|n=>n,fun|1=>1|n=>n⟩
theorem Tryz.Pt:Go.Proofs.Lays.n145 Tryz.prog Tryz.Dm:=by repeat' first|kernel_rfl|decide|(intro)|constructor
open Go.RowKit Go.Lib in
theorem Tryz.strings_Cut(s sep:ByteArray)(m:Int)(w:World)(a:s.size < 4294967281)(hm:w.cell? ⟨1,0,none⟩=some (.int .i64 m)) :
    Calls Tryz.prog 146 #[.string s,.string sep] w fun e w'=>e=.returned (.tuple #[.string ⟨(Lib.cut s.data.toList sep.data.toList).1.toArray⟩,.string ⟨(Lib.cut s.data.toList sep.data.toList).2.1.toArray⟩,.bool (Lib.cut s.data.toList sep.data.toList).2.2])/\∃ n,w'=w.drewN n:=Any.strings_Cut Tryz.Pt s sep m w a hm
def Tryz.Ec:Go.Shelf.Ren:=⟨fun|102=>95|209=>144|207=>207|n=>n,fun|9=>9|4=>4|3=>3|n=>n,fun|n=>n⟩
theorem Tryz.Pz:Go.Proofs.Lays.n102 Tryz.prog Tryz.Ec:=by repeat' first|kernel_rfl|decide|(intro)|constructor
open Go.RowKit Go.Lib in
theorem Tryz.strings_TrimSuffix(s p:ByteArray)(w:World)(a:s.size<=9223372036854775807) :
    Calls Tryz.prog 95 #[.string s,.string p] w fun e w'=>e=.returned (.string ⟨(Lib.trimSuffix s.data.toList p.data.toList).toArray⟩)/\w'=w:=Any.strings_TrimSuffix Tryz.Pz s p w a
def Tryz.DR:Go.Shelf.Ren:=⟨fun|146=>94|221=>143|268=>204|138=>205|143=>206|195=>253|197=>254|218=>255|219=>256|260=>287|217=>288|225=>289|224=>290|267=>291|266=>306|314=>307|n=>n,fun|9=>9|31=>34|3=>3|4=>4|0=>0|105=>339|21=>21|5=>5|46=>100|119=>373|139=>376|138=>375|146=>377|51=>275|n=>n,fun|1=>1|3=>2|4=>3|n=>n⟩
theorem Tryz.Po:Go.Proofs.Lays.n146 Tryz.prog Tryz.DR:=by repeat' first|kernel_rfl|decide|(intro)|constructor
open Go.RowKit Go.Lib in
theorem Tryz.strings_Split(s sep:ByteArray)(m:Int)(w:World)(a:s.size < 4294967281)(hm:w.cell? ⟨1,0,none⟩=some (.int .i64 m))(h1:1<=sep.size) :
    Calls Tryz.prog 94 #[.string s,.string sep] w fun e w' =>
      e=.returned (.slice (some ⟨w.heap.size,0,none⟩) (Lib.countB s sep + 1) (Lib.countB s sep + 1))/\w'=w.alloc (.cells ((Lib.splitB sep 0 (Lib.countB s sep) s).map Value.string).toArray 9):=Any.strings_Split Tryz.Po (by kernel_rfl) s sep m w a hm h1
end Go.Proofs
namespace Go.Proofs.YtbfmmmjkjhjleaaGreatDoor
variable {w:World} {s:ByteArray} {c:UInt8} {i:Nat}
section
open Go.RowKit
def fH(s:ByteArray):Int:=
 if s.toList==[115,101,101] then 1 else if s.toList==[119,97,108,107] then 2 else if s.toList==[114,101,97,100] then 3
 else if s.toList==[109,97,107,101] then 4 else if s.toList==[115,101,116] then 5 else if s.toList==[100,114,111,112] then 6
 else if s.toList==[108,105,110,107] then 7 else if s.toList==[99,117,116] then 8 else if s.toList==[99,97,108,108] then 9 else 0
theorem O7(s:ByteArray)(W:World):
  Calls Tryz.prog 147 #[.string s] W fun e W'=>e=.returned (.int .i64 (fH s))/\W'=W:=by
 go_enter Tryz.func147,Tryz.ntmps147
 go_wp2_with fail
 all_goals (go_ret;exact⟨by simp[fH, *],rfl⟩)
end
section
section
variable {P:Program} {md:Region.Mode} {ops:Array Oper} {Q:Exit->Act->World->Prop} {S:World->Prop} {w:World} {fuel i:Nat} {l:List Nat} {listed:Array Bool} {a:Act} {oi:Oper} {v:Value}
def eH(P:Program)(md:Region.Mode)(ops:Array Oper)(Q:Exit->Act->World->Prop)(S:World->Prop)(w:World)(fuel:Nat):List Nat->Array Bool->Act->Prop
 | [],listed,a=>wpAnyH P md ops Q S fuel listed a w
 | i::l,listed,a=>∃oi v,ops[i]?=some oi/\YieldsIf P ops S oi v a/\eH P md ops Q S w fuel l (listed.setIfInBounds i true) (a.put oi.dst v)
def wN(md:Region.Mode)(ops:Array Oper):List Nat->Array Bool->Bool
 | [],_=>true
 | i::l,listed=>Region.free md ops listed i&&(Region.ready md ops listed).contains i&&wN md ops l (listed.setIfInBounds i true)
theorem eH.done:∀(l:List Nat) (f:Nat) (listed:Array Bool) (a:Act),l.length<=f->Region.noSelect ops=true->wN md ops l listed=true->S w->eH P md ops (NoPanic Q) S w (f - l.length) l listed a->wpAnyH P md ops (NoPanic Q) S f listed a w
 | [],_,_,_,_,_,_,_,h=>h
 | i::l,0,_,_,hl,_,_,_,_=>by simp at hl
 | i::l,f+1,listed,a,hl,hs,hc,hS,h=>by
  obtain⟨oi,v,hi,hy,h⟩:=h;unfold wN at hc;simp only[wa] at hc;have e:f+1 - (i::l).length=f - l.length:=by simp
  rw[e] at h;exact wpAnyH_take hi hs hc.1.1 hc.1.2 (fun _ _ _ h=>h) hy hS (eH.done l f _ _ (by simpa using hl) hs hc.2 hS h)
theorem mB(l:List Nat)(b:(decide (l.length<=fuel)&&Region.noSelect ops&&wN md ops l listed)=true)(c:S w)(h:eH P md ops (NoPanic Q) S w (fuel - l.length) l listed a):wpAnyH P md ops (NoPanic Q) S fuel listed a w:=by
 simp only[wa,decide_eq_true_eq] at b;exact eH.done l fuel listed a b.1.1 b.1.2 b.2 c h
theorem eH.one(hi:ops[i]?=some oi)(hw:Region.wanted oi (yielded ops a.tmps)=true)(b:∀w,S w->(execOp a.eval oi).run P w=.ok (.value v) w)(h:eH P md ops Q S w fuel l (listed.setIfInBounds i true) (a.put oi.dst v)):eH P md ops Q S w fuel (i::l) listed a:=⟨oi,v,hi,ad ⟨hw,b⟩,h⟩
theorem eH.skip(hi:ops[i]?=some oi)(hw:Region.wanted oi (yielded ops a.tmps)=false)(h:eH P md ops Q S w fuel l (listed.setIfInBounds i true) (a.put oi.dst undef)):eH P md ops Q S w fuel (i::l) listed a:=⟨oi,undef,hi,a6 ⟨hw,rfl⟩,h⟩
theorem eH.by(hi:ops[i]?=some oi)(b:YieldsIf P ops S oi v a)(h:eH P md ops Q S w fuel l (listed.setIfInBounds i true) (a.put oi.dst v)):eH P md ops Q S w fuel (i::l) listed a:=⟨oi,v,hi,b,h⟩
end
end
end Go.Proofs.YtbfmmmjkjhjleaaGreatDoor
namespace Go.Proofs
open Go.Shelf
def Tryz.B8:Go.Shelf.Ren:=⟨fun|316=>96|n=>n,fun|9=>9|3=>3|4=>4|37=>101|0=>0|127=>243|5=>5|n=>n,fun|n=>n⟩
theorem Tryz.LM:Go.Proofs.LaysM.n316 Tryz.prog Tryz.B8:=by repeat' first|kernel_rfl|decide|(intro)|constructor
open Go.RowKit in
theorem Tryz.stringslite_Clone(s:ByteArray)(w:World)(a:s.size<=281474976710656) :
    Calls Tryz.prog 96 #[.string s] w fun e w'=>e=.returned (.string s)/\Below w.heap.size w w':=Any.stringslite_Clone Tryz.LM s w a
def Tryz.CO:Go.Shelf.Ren:=⟨fun|172=>269|244=>297|245=>298|247=>309|279=>310|280=>311|281=>312|282=>313|287=>331|316=>96|171=>93|205=>332|321=>339|322=>340|243=>142|246=>203|283=>249|284=>250|285=>251|286=>252|129=>189|317=>283|318=>284|319=>285|320=>286|337=>304|338=>305|n=>n,fun|9=>9|3=>3|75=>254|76=>255|4=>4|5=>5|167=>380|37=>101|0=>0|85=>381|2=>2|168=>383|53=>277|175=>399|46=>100|210=>402|127=>243|145=>411|143=>409|21=>21|171=>335|173=>337|212=>364|51=>275|20=>20|213=>365|232=>397|233=>398|80=>94|n=>n,fun|15=>6|16=>7|17=>0|18=>4|19=>5|n=>n⟩
theorem Tryz.Et:Go.Proofs.LaysC.n172 Tryz.prog Tryz.CO:=by repeat' first|kernel_rfl|decide|(intro)|constructor
open Go.RowKit in
theorem Tryz.strconv_Atoi_ok(s:ByteArray)(a:s.size<=9223372036854775806)(v:Int)(h:Lib.atoiAll s.data.toList=.ok v)(w:World) :
    Calls Tryz.prog 269 #[.string s] w fun e w'=>e=.returned (.tuple #[.int .i64 v,.nilIface])/\(w'=w\/∃ t,w'=Lib.bytesWorld w 5 t):=Any.strconv_Atoi_ok Tryz.Et s a v h w
open Go.RowKit in
theorem Tryz.strconv_Atoi_range(s:ByteArray)(a:s.size<=281474976710656)(h:Lib.atoiAll s.data.toList=.range)(ev:Value)(w:World)(c:w.cell? ⟨7,0,none⟩=some ev)(b:ev=.nilIface\/∃ te pe,ev=.iface te pe) :
    Calls Tryz.prog 269 #[.string s] w fun e w'=>∃ N,e=.returned (.tuple #[.int .i64 (Lib.atoiSat s.data.toList),.iface 383 (.pointer (some ⟨N,0,none⟩))])/\w.heap.size<=N/\w'.heap[N]?=some (.cells #[.string ⟨#[65,116,111,105]⟩,.string s,ev] 402 (0,0))/\Below w.heap.size w w':=Any.strconv_Atoi_range Tryz.Et s a h ev w c b
def Tryz.Dw:Go.Shelf.Ren:=⟨fun|101=>268|208=>296|206=>208|n=>n,fun|9=>9|4=>4|3=>3|n=>n,fun|n=>n⟩
theorem Tryz.O1:Go.Proofs.Lays.n101 Tryz.prog Tryz.Dw:=by repeat' first|kernel_rfl|decide|(intro)|constructor
open Go.RowKit Go.Lib in
theorem Tryz.strings_TrimPrefix(s p:ByteArray)(w:World) :
    Calls Tryz.prog 268 #[.string s,.string p] w fun e w'=>e=.returned (.string ⟨(Lib.trimPrefix s.data.toList p.data.toList).toArray⟩)/\w'=w:=Any.strings_TrimPrefix Tryz.O1 s p w
end Go.Proofs
namespace Go.Proofs.YtbfmmmjkjhjleaaGreatDoor
variable {w:World} {s:ByteArray} {c:UInt8} {i:Nat}
section
open Go
def iA(J:Nat->Act->World->Prop)(Q:Exit->Act->World->Prop):Exit->Act->World->Prop
 | .goto l,a,w=>J l a w
 | e,a,w=>Q e a w
section
variable {P:Program} {a:Act} {w:World} {Q:Exit->Act->World->Prop}
theorem wD{c:Code}(J:Nat->Nat->Act->World->Prop)
  (first:c.wp P (iA (fun l a' w'=>∃n,J l n a' w') Q) a w)
  (pass:∀n l a w,J l n a w->∃rest,findLabel c l=some rest/\rest.wp P (iA (fun l' a' w'=>∃n',n'<n/\J l' n' a' w') Q) a w):(Code.scope c).wp P Q a w:=by
 intro b k cs;have key:∀n l a w,J l n a w->∃rest e a' w',findLabel c l=some rest/\Q e a' w'/\Arrives P (lone (b.at a (.code rest::.inScope c::k)) cs w) b k cs e a' w':=by
  intro n
  induction n using Nat.strongRecOn with
  | _ n ih=>
   intro l a w y;obtain⟨rest,r,q⟩:=pass n l a w y;obtain⟨e,h,j,i,d⟩:=q b (.inScope c::k) cs;refine⟨rest,?_⟩;cases e with
   | normal=>exact⟨.normal,h,j,r,i,Steps.trans d (.one step_inScope)⟩
   | exit id=>exact⟨.exit id,h,j,r,i,fun k' hk=>d k' (by simp[exitTo,hk])⟩
   | goto l'=>
    obtain⟨n',v,m⟩:=i;obtain⟨g,t,s,x,o,p,f⟩:=ih n' v l' h j m;have u:gotoIn l' (.inScope c::k)=some (.code g::.inScope c::k):=by simp[gotoIn,o]
    exact⟨t,s,x,r,p,.of_steps (d _ u) f⟩
   | ret=>exact⟨_,h,j,r,i,d⟩
   | panic ch=>exact⟨_,h,j,r,i,d⟩
   | outgrown=>exact⟨_,h,j,r,i,d⟩
 obtain⟨e,h,j,i,d⟩:=first b (.inScope c::k) cs;cases e with
 | normal=>exact⟨.normal,h,j,i,.head step_scope (Steps.trans d (.one step_inScope))⟩
 | exit id=>exact⟨.exit id,h,j,i,fun k' hk=>.head step_scope (d k' (by simp[exitTo,hk]))⟩
 | goto l'=>
  obtain⟨n',m⟩:=i;obtain⟨g,t,s,x,o,p,f⟩:=key n' l' h j m;have u:gotoIn l' (.inScope c::k)=some (.code g::.inScope c::k):=by simp[gotoIn,o]
  exact⟨t,s,x,p,.of_steps (.head step_scope (d _ u)) f⟩
 | ret=>exact⟨_,h,j,i,.of_steps (.one step_scope) d⟩
 | panic ch=>exact⟨_,h,j,i,.of_steps (.one step_scope) d⟩
 | outgrown=>exact⟨_,h,j,i,.of_steps (.one step_scope) d⟩
end
end
end Go.Proofs.YtbfmmmjkjhjleaaGreatDoor
namespace Go.Proofs
open Go.Shelf
open Tryz
theorem Tryz.zV{P:Program}{f:FuncId}{B F:Func}(h:P.funcs[f]?=some F)(a:(F.name == "runtime.NumGoroutine")=false)(e:F={ B with name:=F.name }):Bears P f B:=⟨F.name,a,h.trans (congrArg some e)⟩
def Tryz.AB:Go.Shelf.Ren:=⟨fun|7=>113|10=>154|n=>n,fun|23=>136|26=>9|3=>3|28=>215|0=>0|27=>214|33=>77|4=>4|n=>n,fun|n=>n⟩
theorem Tryz.Qj:Go.Proofs.SlLaysZ.n7 Tryz.prog Tryz.AB:=by
  constructor;kernel_rfl;exact Tryz.zV func113 (by decide) (by kernel_rfl);exact Tryz.zV func154 (by decide) (by kernel_rfl);all_goals repeat' first|kernel_rfl|decide|(intro)|constructor
def Tryz.vY:Go.Shelf.Ren:=⟨fun|6=>112|8=>152|9=>153|11=>212|13=>133|12=>213|23=>188|24=>189|14=>257|15=>258|16=>259|17=>260|18=>261|19=>262|20=>263|21=>264|22=>265|25=>292|26=>230|27=>231|28=>293|29=>294|30=>295|31=>308|n=>n,fun|26=>9|28=>215|24=>34|0=>0|3=>3|37=>100|48=>275|50=>277|4=>4|40=>269|39=>268|45=>116|5=>5|9=>9|51=>313|55=>317|57=>352|58=>353|33=>77|n=>n,fun|n=>n⟩
theorem Tryz.P5:Go.Proofs.SlLaysZ.n6 Tryz.prog Tryz.vY:=by
  constructor;kernel_rfl;exact Tryz.zV func112 (by decide) (by kernel_rfl);exact Tryz.zV func152 (by decide) (by kernel_rfl);exact Tryz.zV func212 (by decide) (by kernel_rfl);all_goals repeat' first|kernel_rfl|decide|(intro)|constructor
def Tryz.J9:Go.Shelf.Ren:=⟨fun|6=>153|8=>133|9=>213|19=>188|20=>189|21=>257|22=>258|23=>259|24=>260|25=>261|26=>262|27=>263|28=>264|29=>265|36=>292|31=>230|32=>231|37=>293|38=>294|39=>295|41=>308|n=>n,fun|27=>34|29=>9|3=>3|32=>100|26=>34|0=>0|44=>275|46=>277|4=>4|36=>269|35=>268|41=>116|5=>5|9=>9|53=>313|57=>317|63=>352|64=>353|n=>n,fun|n=>n⟩
theorem Tryz.Qo:Go.Proofs.SlLaysM.n6 Tryz.prog Tryz.J9:=by
  constructor;kernel_rfl;exact Tryz.zV func153 (by decide) (by kernel_rfl);kernel_rfl;exact Tryz.zV func213 (by decide) (by kernel_rfl);kernel_rfl;kernel_rfl;exact Tryz.zV func257 (by decide) (by kernel_rfl);exact Tryz.zV func258 (by decide) (by kernel_rfl);exact Tryz.zV func259 (by decide) (by kernel_rfl);exact Tryz.zV func260 (by decide) (by kernel_rfl);exact Tryz.zV func261 (by decide) (by kernel_rfl);exact Tryz.zV func262 (by decide) (by kernel_rfl);exact Tryz.zV func263 (by decide) (by kernel_rfl);exact Tryz.zV func264 (by decide) (by kernel_rfl);exact Tryz.zV func265 (by decide) (by kernel_rfl);kernel_rfl;kernel_rfl;exact Tryz.zV func292 (by decide) (by kernel_rfl);exact Tryz.zV func293 (by decide) (by kernel_rfl);exact Tryz.zV func294 (by decide) (by kernel_rfl);exact Tryz.zV func295 (by decide) (by kernel_rfl);exact Tryz.zV func308 (by decide) (by kernel_rfl);all_goals repeat' first|kernel_rfl|decide|(intro)|constructor
end Go.Proofs
namespace Go.Proofs.YtbfmmmjkjhjleaaGreatDoor
variable {w:World} {s:ByteArray} {c:UInt8} {i:Nat}
section
open Go.RowKit Go.Maps Go.Sort Go.Shelf
theorem Tryz.QL(m:Nat):AnyZ.SortsIn Tryz.prog Tryz.vY Fence.wide m:=
 ⟨fun bJ off cap ss W hH hblk hsz=>callsIn_wide.2 (AnyM.slices_Sort_string Tryz.Qo bJ off cap ss W hH hblk hsz),fun p cap W=>callsIn_wide.2 (AnyM.slices_Sort_string_none Tryz.Qo p cap W)⟩
theorem Rx(a:Option Nat)(W:World):Calls Tryz.prog 113 #[.map a] W fun e w'=>e=.returned (.func (.func 154) #[] #[.pointer (some ⟨W.heap.size,0,none⟩)])/\w'=W.alloc (.cells #[.map a] 136):=
 (callsIn_wide (n:=5)).1 (AnyZ.keys_in Tryz.Qj Fence.wide 5 trivial rfl a W)
theorem NT{H:Type}{b M h:Nat}{c:DataW H}{R:Value->Option (DataW H × List MemPlace)}(a:w.ownsMap Tryz.prog 9 R M h c)(g:b<w.heap.size)(hm:w.cell? ⟨b,0,none⟩=some (.map (some M)))(m:h<=1000000):
  Calls Tryz.prog 112 #[.func (.func 154) #[] #[.pointer (some ⟨b,0,none⟩)]] w fun e w'=>∃(v:Value) (ss:List (List UInt8)),e=.returned v/\ss.Perm (strKeys c)/\w'.ownsRow w.heap.size 9 1 v ss.length ((ss.mergeSort (fun x y=>decide (x<=y))).map encStr)/\Below w.heap.size w w':=by
 refine(callsIn_wide (n:=6)).1 ?_;have l:=a.size_le;have f:SeqGives Fence.wide 3 Tryz.prog 154 #[.pointer (some ⟨b,0,none⟩)] encStr (fun ss=>ss.Perm (strKeys c)) (Maps.size c) w:=
  AnyZ.keys_gives (ρ:=Tryz.AB) {Tryz.Qj with} Fence.wide _ trivial rfl (by omega) b M h c _ g hm a
 have i:=AnyZ.sorted_in Tryz.P5 Fence.wide 6 trivial trivial trivial trivial rfl (by omega) (Tryz.QL _) (enters_of Tryz.func153 (by kernel_rfl) rfl) 154 #[.pointer (some ⟨b,0,none⟩)] trivial (enters_of Tryz.func154 (by kernel_rfl) rfl) _ _ (by unfold maxLen;omega) (by omega) _ f;change CallsIn _ _ Tryz.prog 112 _ _ _ at i;refine i.mono ?_;rintro e w' ⟨v,ss,rfl,k,d,j,g⟩;exact⟨v,ss,rfl,k,d,g⟩
end
end Go.Proofs.YtbfmmmjkjhjleaaGreatDoor
namespace Go.Proofs
open Go.Shelf
open Tryz
theorem Tryz.IB{P:Program}{f:FuncId}{B F:Func}(h:P.funcs[f]?=some F)(a:(F.name == "runtime.NumGoroutine")=false)(e:F={ B with name:=F.name }):Bears P f B:=⟨F.name,a,h.trans (congrArg some e)⟩
def Tryz.BA:Go.Shelf.Ren:=⟨fun|6=>84|15=>133|14=>132|28=>188|29=>189|20=>180|21=>181|22=>182|23=>183|24=>184|25=>185|26=>186|27=>187|46=>229|47=>230|48=>231|49=>232|50=>233|57=>272|n=>n,fun|22=>158|24=>163|25=>171|3=>3|39=>100|0=>0|53=>275|55=>277|4=>4|46=>269|45=>268|50=>116|5=>5|9=>9|66=>313|70=>317|76=>352|77=>353|n=>n,fun|n=>n⟩
theorem Tryz.C7:Go.Proofs.SlLaysF0.n6 Tryz.prog Tryz.BA:=by
  constructor;kernel_rfl;exact Tryz.IB func84 (by decide) (by kernel_rfl);exact Tryz.IB func132 (by decide) (by kernel_rfl);kernel_rfl;exact Tryz.IB func180 (by decide) (by kernel_rfl);exact Tryz.IB func181 (by decide) (by kernel_rfl);exact Tryz.IB func182 (by decide) (by kernel_rfl);exact Tryz.IB func183 (by decide) (by kernel_rfl);exact Tryz.IB func184 (by decide) (by kernel_rfl);exact Tryz.IB func185 (by decide) (by kernel_rfl);exact Tryz.IB func186 (by decide) (by kernel_rfl);exact Tryz.IB func187 (by decide) (by kernel_rfl);kernel_rfl;kernel_rfl;exact Tryz.IB func229 (by decide) (by kernel_rfl);kernel_rfl;kernel_rfl;exact Tryz.IB func232 (by decide) (by kernel_rfl);exact Tryz.IB func233 (by decide) (by kernel_rfl);exact Tryz.IB func272 (by decide) (by kernel_rfl);all_goals repeat' first|kernel_rfl|decide|(intro)|constructor
end Go.Proofs
namespace Go.Proofs.YtbfmmmjkjhjleaaGreatDoor
variable {w:World} {s:ByteArray} {c:UInt8} {i:Nat}
end Go.Proofs.YtbfmmmjkjhjleaaGreatDoor
