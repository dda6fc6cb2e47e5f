/- Mine. -/
import Derived.Test.YtbfmmmjkjhjleaaGreatDoorC44
set_option maxRecDepth 100000
set_option maxHeartbeats 0
namespace Go.Proofs.YtbfmmmjkjhjleaaGreatDoor
open Go.Proofs.Tryz
section
open Go Go.RowKit
section
variable {H:Type} {enc:TypeId × Value->H} {w:World} {base:Nat} {spare:Nat->Bool} {held:Bool}
theorem Tryz.lu:prog.cellsOf 41=6:=by kernel_rfl
theorem ni{n:Nat}{cs:List Value}{y:DataW H × List MemPlace}(h:DataW.trod enc prog w base spare held n 41 cs=some y):∃t:TK,cs=TM t/\(Rows.uptoBulk y.1<=1048576->nY t.kind/\nY t.budget/\t.text.size<=maxLen):=by
 obtain⟨xs,m,rfl,rfl,j,a,b⟩:=DataW.trod_struct underlying41 h;rw[Tryz.lu] at j;obtain⟨x,g0⟩:=Tw a (show 0<_ by decide);obtain⟨z,g1⟩:=Tw a (show 1<_ by decide);obtain⟨A,g2⟩:=Tw a (show 2<_ by decide);obtain⟨B,g3⟩:=Tw a (show 3<_ by decide);obtain⟨C,g4⟩:=Tw a (show 4<_ by decide);obtain⟨D,g5⟩:=Tw a (show 5<_ by decide);obtain⟨s0,e0,k⟩:=Tr (o:=0) ((b 0 _ rfl).trans g0);obtain⟨s1,c⟩:=Tf (o:=1) ((b 1 _ rfl).trans g1);obtain⟨s2,d,s⟩:=TA (o:=2) ((b 2 _ rfl).trans g2);obtain⟨p,f,u⟩:=TA (o:=3) ((b 3 _ rfl).trans g3);obtain⟨q,g,v⟩:=TA (o:=4) ((b 4 _ rfl).trans g4);obtain⟨r,i,l⟩:=Tr (o:=5) ((b 5 _ rfl).trans g5)
 match cs,j with
 | [c0,c1,c2,c3,c4,c5],_=>
  simp at e0 c d f g i;subst e0 c d f g i;refine⟨⟨s0,s1,s2,p,q,r⟩,rfl,fun hb=>⟨k,l,?_⟩⟩;have:=Tj g4 hb;unfold maxLen;simp only;omega
end
end
end Go.Proofs.YtbfmmmjkjhjleaaGreatDoor
