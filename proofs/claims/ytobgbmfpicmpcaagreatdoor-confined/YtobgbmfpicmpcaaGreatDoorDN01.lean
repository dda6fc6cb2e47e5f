/- The closed facts of the row and the card of Confined, each by the kernel, one theorem each. -/
import Derived.Test.YtobgbmfpicmpcaaGreatDoorCards
import Derived.JoinedOf
import Derived.KernelRfl
set_option maxRecDepth 100000
set_option maxHeartbeats 8000000
namespace Go.Proofs.YtobgbmfpicmpcaaGreatDoor
theorem sT:(Rows.confinedRow.wf (OpenSpec.ofChange Rows.confinedSpec))=true:=by kernel_rfl
theorem bo:(laidOutB Tryz.prog)=true:=by kernel_rfl
theorem qb:(mapsRowed Tryz.prog)=true:=by kernel_rfl
theorem sv:(Tryz.f9.params.all (Tryz.prog.readableRec ·))=true:=by kernel_rfl
theorem s8:(namedTie Tryz.prog Rows.confinedRow.named Rows.confinedSpec.vars)=true:=by kernel_rfl
theorem oi:((Rows.confinedRow.stops==[]))=true:=by kernel_rfl
theorem p8:((Tryz.prog.stops==[]))=true:=by kernel_rfl
theorem sb:((Rows.confinedRow.knobs==[]))=true:=by kernel_rfl
theorem s6:((Tryz.prog.stopKnobs==[]))=true:=by kernel_rfl
theorem lz:((Rows.confinedRow.inPlace==Tryz.prog.inPlace 9))=true:=by kernel_rfl
theorem j4:((Rows.confinedRow.unfollowed==Tryz.prog.unfollowed 9))=true:=by kernel_rfl
theorem j2:((Rows.confinedRow.recurses==Tryz.prog.recurses 9))=true:=by kernel_rfl
theorem mc:((Rows.confinedRow.named==Tryz.prog.varsNamed 9))=true:=by kernel_rfl
theorem mo:((Rows.confinedRow.maps==(Tryz.f9.params.toList++Rows.confinedSpec.plain.varTypes Tryz.prog).any (Tryz.prog.mapsRec ·)))=true:=by kernel_rfl
theorem mi:((Rows.confinedRow.ifaces==(Tryz.f9.params.toList++Rows.confinedSpec.plain.varTypes Tryz.prog).any (Tryz.prog.ifacesRec ·)))=true:=by kernel_rfl
theorem lp:((Rows.confinedRow.mapsOut==Tryz.prog.mapsAmong Tryz.f9.resultTypes.toList))=true:=by kernel_rfl
theorem kB:((Rows.confinedRow.loops==(Tryz.f9.params.toList++Rows.confinedSpec.plain.varTypes Tryz.prog).any (Tryz.prog.loopsFrom ·)))=true:=by kernel_rfl
theorem mC:((Rows.confinedRow.wideKeys==(Tryz.f9.params.toList++Rows.confinedSpec.plain.varTypes Tryz.prog++Tryz.f9.resultTypes.toList).any (Tryz.prog.wideKeysFrom ·)))=true:=by kernel_rfl
theorem lg:(Rows.confinedSpec.vars.all (Tryz.prog.varReadable ·))=true:=by kernel_rfl
theorem ob:(Tryz.f9.resultTypes.all (fun t=>Tryz.prog.readableRec t&&decide (t<Tryz.prog.types.size)))=true:=by kernel_rfl
theorem j3:((Rows.confinedRow.ifacesOut==Tryz.f9.resultTypes.toList.any (Tryz.prog.ifacesRec ·)))=true:=by kernel_rfl
theorem ni:((Rows.confinedRow.loopsOut==Tryz.f9.resultTypes.toList.any (Tryz.prog.loopsFrom ·)))=true:=by kernel_rfl
theorem kc:((Rows.confinedRow.plainKeys==Tryz.prog.plainKeys))=true:=by kernel_rfl
theorem lu:(Rows.confinedRow.shortTexts.isNone)=true:=by kernel_rfl
theorem kp:(Tryz.prog.stopsHeard)=true:=by kernel_rfl
theorem np:(Tryz.prog.mayEnter)=true:=by kernel_rfl
theorem lS:((Rows.confinedRow.lifted==Tryz.prog.liftsFinal))=true:=by kernel_rfl
theorem j1:((Tryz.prog.make==some Rows.confinedRow.make))=true:=by kernel_rfl
theorem oc:((Rows.confinedRow.kinds==(if Rows.confinedRow.domain.isEmpty then [] else Tryz.f9.params.toList.map fun t=>match Tryz.prog.underlying t with|some (.int k)=>some k|_=>none)))=true:=by kernel_rfl
theorem lP:((Rows.confinedRow.pinned==Rows.confinedRow.pinnedBy))=true:=by kernel_rfl
theorem ms:((Rows.confinedRow.veiled==(Tryz.f9.params.toList++Rows.confinedSpec.plain.varTypes Tryz.prog++Tryz.f9.resultTypes.toList).any (Tryz.prog.veiledRec ·)))=true:=by kernel_rfl
theorem lC:(Rows.confinedRow.veiledFits Tryz.prog Tryz.f9.params.toList (Tryz.f9.params.toList++Rows.confinedSpec.plain.varTypes Tryz.prog++Tryz.f9.resultTypes.toList))=true:=by kernel_rfl
theorem b7:Tryz.prog.funcNamed Rows.confinedRow.func=some 9:=by kernel_rfl
theorem js:Tryz.f9.isInstance Tryz.prog Rows.confinedRow.origin Rows.confinedRow.targs:=of_decide_eq_true (by kernel_rfl)
theorem jn:Tryz.f9.isWrapper Tryz.prog Rows.confinedRow.wrapper Rows.confinedRow.mainSum:=of_decide_eq_true (by kernel_rfl)
theorem ra:Rows.confinedRow.wfByText (OpenSpec.ofChange Rows.confinedSpec)=true:=by kernel_rfl
theorem jB : Tryz.prog.mainIs = some (true, ("688554a4e8ee496442038ba4f4df914fac4bc704e873b26b6050a7898a9f0fee" : String).toList) := by kernel_rfl
theorem fY:true=Tryz.prog.looks []:=by kernel_rfl
theorem ji:false=Rows.confinedRow.goesBy Tryz.prog:=by kernel_rfl
end Go.Proofs.YtobgbmfpicmpcaaGreatDoor
