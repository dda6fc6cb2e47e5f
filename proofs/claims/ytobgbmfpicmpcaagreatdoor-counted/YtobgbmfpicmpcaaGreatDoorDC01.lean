/- The closed facts of the row and the card of Counted, each by the kernel, one theorem each. -/
import Derived.Test.YtobgbmfpicmpcaaGreatDoorCards
import Derived.JoinedOf
import Derived.KernelRfl
set_option maxRecDepth 100000
set_option maxHeartbeats 8000000
namespace Go.Proofs.YtobgbmfpicmpcaaGreatDoor
theorem countedF1:(Rows.countedRow.wf (OpenSpec.ofChange Rows.countedSpec))=true:=by kernel_rfl
theorem countedF2:(laidOutB Tryz.prog)=true:=by kernel_rfl
theorem countedF3:(mapsRowed Tryz.prog)=true:=by kernel_rfl
theorem countedF4:(Tryz.f11.params.all (Tryz.prog.readableRec ·))=true:=by kernel_rfl
theorem countedF5:(namedTie Tryz.prog Rows.countedRow.named Rows.countedSpec.vars)=true:=by kernel_rfl
theorem countedF6:((Rows.countedRow.stops==[]))=true:=by kernel_rfl
theorem countedF7:((Tryz.prog.stops==[]))=true:=by kernel_rfl
theorem countedF8:((Rows.countedRow.knobs==[]))=true:=by kernel_rfl
theorem countedF9:((Tryz.prog.stopKnobs==[]))=true:=by kernel_rfl
theorem countedF10:((Rows.countedRow.inPlace==Tryz.prog.inPlace 11))=true:=by kernel_rfl
theorem countedF11:((Rows.countedRow.unfollowed==Tryz.prog.unfollowed 11))=true:=by kernel_rfl
theorem countedF12:((Rows.countedRow.recurses==Tryz.prog.recurses 11))=true:=by kernel_rfl
theorem countedF13:((Rows.countedRow.named==Tryz.prog.varsNamed 11))=true:=by kernel_rfl
theorem countedF14:((Rows.countedRow.maps==(Tryz.f11.params.toList++Rows.countedSpec.plain.varTypes Tryz.prog).any (Tryz.prog.mapsRec ·)))=true:=by kernel_rfl
theorem countedF15:((Rows.countedRow.ifaces==(Tryz.f11.params.toList++Rows.countedSpec.plain.varTypes Tryz.prog).any (Tryz.prog.ifacesRec ·)))=true:=by kernel_rfl
theorem countedF16:((Rows.countedRow.mapsOut==Tryz.prog.mapsAmong Tryz.f11.resultTypes.toList))=true:=by kernel_rfl
theorem countedF17:((Rows.countedRow.loops==(Tryz.f11.params.toList++Rows.countedSpec.plain.varTypes Tryz.prog).any (Tryz.prog.loopsFrom ·)))=true:=by kernel_rfl
theorem countedF18:((Rows.countedRow.wideKeys==(Tryz.f11.params.toList++Rows.countedSpec.plain.varTypes Tryz.prog++Tryz.f11.resultTypes.toList).any (Tryz.prog.wideKeysFrom ·)))=true:=by kernel_rfl
theorem countedF19:(Rows.countedSpec.vars.all (Tryz.prog.varReadable ·))=true:=by kernel_rfl
theorem countedF20:(Tryz.f11.resultTypes.all (fun t=>Tryz.prog.readableRec t&&decide (t<Tryz.prog.types.size)))=true:=by kernel_rfl
theorem countedF21:((Rows.countedRow.ifacesOut==Tryz.f11.resultTypes.toList.any (Tryz.prog.ifacesRec ·)))=true:=by kernel_rfl
theorem countedF22:((Rows.countedRow.loopsOut==Tryz.f11.resultTypes.toList.any (Tryz.prog.loopsFrom ·)))=true:=by kernel_rfl
theorem countedF23:((Rows.countedRow.plainKeys==Tryz.prog.plainKeys))=true:=by kernel_rfl
theorem countedF24:(Rows.countedRow.shortTexts.isNone)=true:=by kernel_rfl
theorem countedF25:(Tryz.prog.stopsHeard)=true:=by kernel_rfl
theorem countedF26:(Tryz.prog.mayEnter)=true:=by kernel_rfl
theorem countedF27:((Rows.countedRow.lifted==Tryz.prog.liftsFinal))=true:=by kernel_rfl
theorem countedF28:((Tryz.prog.make==some Rows.countedRow.make))=true:=by kernel_rfl
theorem countedF29:((Rows.countedRow.kinds==(if Rows.countedRow.domain.isEmpty then [] else Tryz.f11.params.toList.map fun t=>match Tryz.prog.underlying t with|some (.int k)=>some k|_=>none)))=true:=by kernel_rfl
theorem countedF30:((Rows.countedRow.pinned==Rows.countedRow.pinnedBy))=true:=by kernel_rfl
theorem countedF31:((Rows.countedRow.veiled==(Tryz.f11.params.toList++Rows.countedSpec.plain.varTypes Tryz.prog++Tryz.f11.resultTypes.toList).any (Tryz.prog.veiledRec ·)))=true:=by kernel_rfl
theorem countedF32:(Rows.countedRow.veiledFits Tryz.prog Tryz.f11.params.toList (Tryz.f11.params.toList++Rows.countedSpec.plain.varTypes Tryz.prog++Tryz.f11.resultTypes.toList))=true:=by kernel_rfl
theorem countedNamed:Tryz.prog.funcNamed Rows.countedRow.func=some 11:=by kernel_rfl
theorem countedInst:Tryz.f11.isInstance Tryz.prog Rows.countedRow.origin Rows.countedRow.targs:=of_decide_eq_true (by kernel_rfl)
theorem countedWrap:Tryz.f11.isWrapper Tryz.prog Rows.countedRow.wrapper Rows.countedRow.mainSum:=of_decide_eq_true (by kernel_rfl)
theorem countedWf:Rows.countedRow.wfByText (OpenSpec.ofChange Rows.countedSpec)=true:=by kernel_rfl
theorem countedMain : Tryz.prog.mainIs = some (true, ("688554a4e8ee496442038ba4f4df914fac4bc704e873b26b6050a7898a9f0fee" : String).toList) := by kernel_rfl
theorem countedLooks:true=Tryz.prog.looks []:=by kernel_rfl
theorem countedGoes:false=Rows.countedRow.goesBy Tryz.prog:=by kernel_rfl
end Go.Proofs.YtobgbmfpicmpcaaGreatDoor
