/- Mine. -/
import Derived.Test.YtbfmmmjkjhjleaaGreatDoorC44
set_option maxRecDepth 100000
set_option maxHeartbeats 0
namespace Go.Proofs.YtbfmmmjkjhjleaaGreatDoor
open Go.Proofs.Tryz
section
open Go.RowKit Go.Maps
theorem asks{W0:World}{one two:ByteArray}{l:List TK}{ao:Option Addr}{cp:Nat}{m:Int}{ev:Value}(g:dj W0 6 (.slice ao l.length cp) l.length (l.flatMap TM))(k:l.length<=1999990)(f:∀x∈l,nY x.kind/\nY x.budget/\x.text.size<=maxLen)(h1:one.size<=maxLen)(c:two.size<=maxLen)(hm:W0.cell? ⟨1,0,none⟩=some (.int .i64 m))(h:Fa W0)(b:W0.cell? ⟨7,0,none⟩=some ev)(a:ev=.nilIface\/∃te pe,ev=.iface te pe):
  Calls prog 3 #[.string one,.string two,.slice ao l.length cp] W0 fun e W'=>e=.returned (.bool true)/\Below W0.heap.size W0 W':=by
 have j:=p9 (Tq g k f h1 c hm h b a);clear g f h1 c hm h b a;go_enter func3,ntmps3
 go_wp2_with fail;refine j.o.mono ?_;rintro e n ⟨rfl,d⟩;have i:=p9 d;clear d;go_wp2_with fail;go_ret;exact⟨rfl,i.o⟩
end
end Go.Proofs.YtbfmmmjkjhjleaaGreatDoor
