/- Mine. -/
import Derived.Test.YtbfmmmjkjhjleaaGreatDoorC00
import Derived.Test.YtbfmmmjkjhjleaaGreatDoorCards
import Derived.JoinedOf
set_option maxRecDepth 100000
set_option maxHeartbeats 0
namespace Go.Proofs.YtbfmmmjkjhjleaaGreatDoor
open Go.Proofs.Tryz
theorem js:(Rows.asksUptoRow.wf (OpenSpec.ofChange Rows.asksSpec))=true:=by kernel_rfl
theorem aT:(laidOutB prog)=true:=by kernel_rfl
theorem lp:(mapsRowed prog)=true:=by kernel_rfl
theorem jA:(Tryz.f3.params.all (prog.readableRec ·))=true:=by kernel_rfl
theorem jc:(namedTie prog Rows.asksUptoRow.named Rows.asksSpec.vars)=true:=by kernel_rfl
theorem jn:((Rows.asksUptoRow.stops==[]))=true:=by kernel_rfl
theorem ji:((prog.stops==[]))=true:=by kernel_rfl
theorem kA:((Rows.asksUptoRow.knobs==[]))=true:=by kernel_rfl
theorem ll:((prog.stopKnobs==[]))=true:=by kernel_rfl
theorem cN:((Rows.asksUptoRow.inPlace==prog.inPlace 3))=true:=by kernel_rfl
theorem dp:((Rows.asksUptoRow.unfollowed==prog.unfollowed 3))=true:=by kernel_rfl
theorem fY:((Rows.asksUptoRow.recurses==prog.recurses 3))=true:=by kernel_rfl
theorem gf:((Rows.asksUptoRow.named==prog.varsNamed 3))=true:=by kernel_rfl
theorem fP:((Rows.asksUptoRow.maps==(Tryz.f3.params.toList++Rows.asksSpec.plain.varTypes prog).any (prog.mapsRec ·)))=true:=by kernel_rfl
theorem cM:((Rows.asksUptoRow.ifaces==(Tryz.f3.params.toList++Rows.asksSpec.plain.varTypes prog).any (prog.ifacesRec ·)))=true:=by kernel_rfl
theorem b9:((Rows.asksUptoRow.mapsOut==prog.mapsAmong Tryz.f3.resultTypes.toList))=true:=by kernel_rfl
theorem cz:((Rows.asksUptoRow.loops==(Tryz.f3.params.toList++Rows.asksSpec.plain.varTypes prog).any (prog.loopsFrom ·)))=true:=by kernel_rfl
theorem cr:((Rows.asksUptoRow.wideKeys==(Tryz.f3.params.toList++Rows.asksSpec.plain.varTypes prog++Tryz.f3.resultTypes.toList).any (prog.wideKeysFrom ·)))=true:=by kernel_rfl
theorem fe:(Rows.asksSpec.vars.all (prog.varReadable ·))=true:=by kernel_rfl
theorem ep:(Tryz.f3.resultTypes.all (fun t=>prog.readableRec t&&decide (t<prog.types.size)))=true:=by kernel_rfl
theorem gu:((Rows.asksUptoRow.ifacesOut==Tryz.f3.resultTypes.toList.any (prog.ifacesRec ·)))=true:=by kernel_rfl
theorem dc:((Rows.asksUptoRow.loopsOut==Tryz.f3.resultTypes.toList.any (prog.loopsFrom ·)))=true:=by kernel_rfl
theorem cT:((Rows.asksUptoRow.plainKeys==prog.plainKeys))=true:=by kernel_rfl
theorem cX:(Rows.asksUptoRow.shortTexts.isNone)=true:=by kernel_rfl
theorem cR:(prog.stopsHeard)=true:=by kernel_rfl
theorem di:(prog.mayEnter)=true:=by kernel_rfl
theorem gr:((Rows.asksUptoRow.lifted==prog.liftsFinal))=true:=by kernel_rfl
theorem iB:((prog.make==some Rows.asksUptoRow.make))=true:=by kernel_rfl
theorem fy:((Rows.asksUptoRow.kinds==(if Rows.asksUptoRow.domain.isEmpty then [] else Tryz.f3.params.toList.map fun t=>match prog.underlying t with|some (.int k)=>some k|_=>none)))=true:=by kernel_rfl
theorem gi:((Rows.asksUptoRow.pinned==Rows.asksUptoRow.pinnedBy))=true:=by kernel_rfl
theorem ei:((Rows.asksUptoRow.veiled==(Tryz.f3.params.toList++Rows.asksSpec.plain.varTypes prog++Tryz.f3.resultTypes.toList).any (prog.veiledRec ·)))=true:=by kernel_rfl
theorem cY:(Rows.asksUptoRow.veiledFits prog Tryz.f3.params.toList (Tryz.f3.params.toList++Rows.asksSpec.plain.varTypes prog++Tryz.f3.resultTypes.toList))=true:=by kernel_rfl
theorem ab:prog.funcNamed Rows.asksUptoRow.func=some 3:=by kernel_rfl
theorem bc:Tryz.f3.isInstance prog Rows.asksUptoRow.origin Rows.asksUptoRow.targs:=of_decide_eq_true (by kernel_rfl)
theorem b7:Tryz.f3.isWrapper prog Rows.asksUptoRow.wrapper Rows.asksUptoRow.mainSum:=of_decide_eq_true (by kernel_rfl)
theorem ka:Rows.asksUptoRow.wfByText (Rows.OpenSpec.upto Rows.asksSpec)=true:=by kernel_rfl
theorem b6 : prog.mainIs = some (true, ("a2df120106079dd1fe052ac2e50e21ff4e503d25b43374a951c4f1b240ff3663" : String).toList) := by kernel_rfl
theorem bb:true=prog.looks []:=by kernel_rfl
theorem b8:false=Rows.asksUptoRow.goesBy prog:=by kernel_rfl
end Go.Proofs.YtbfmmmjkjhjleaaGreatDoor
