/- The closed facts of the row and the card of Paid, each by the kernel, one theorem each. -/
import Derived.Test.YtobgbmfpicmpcaaGreatDoorCards
import Derived.JoinedOf
import Derived.KernelRfl
set_option maxRecDepth 100000
set_option maxHeartbeats 8000000
namespace Go.Proofs.YtobgbmfpicmpcaaGreatDoor
theorem paidF1:(Rows.paidRow.wf (OpenSpec.ofChange Rows.paidSpec))=true:=by kernel_rfl
theorem paidF2:(laidOutB Tryz.prog)=true:=by kernel_rfl
theorem paidF3:(mapsRowed Tryz.prog)=true:=by kernel_rfl
theorem paidF4:(Tryz.f12.params.all (Tryz.prog.readableRec ·))=true:=by kernel_rfl
theorem paidF5:(namedTie Tryz.prog Rows.paidRow.named Rows.paidSpec.vars)=true:=by kernel_rfl
theorem paidF6:((Rows.paidRow.stops==[]))=true:=by kernel_rfl
theorem paidF7:((Tryz.prog.stops==[]))=true:=by kernel_rfl
theorem paidF8:((Rows.paidRow.knobs==[]))=true:=by kernel_rfl
theorem paidF9:((Tryz.prog.stopKnobs==[]))=true:=by kernel_rfl
theorem paidF10:((Rows.paidRow.inPlace==Tryz.prog.inPlace 12))=true:=by kernel_rfl
theorem paidF11:((Rows.paidRow.unfollowed==Tryz.prog.unfollowed 12))=true:=by kernel_rfl
theorem paidF12:((Rows.paidRow.recurses==Tryz.prog.recurses 12))=true:=by kernel_rfl
theorem paidF13:((Rows.paidRow.named==Tryz.prog.varsNamed 12))=true:=by kernel_rfl
theorem paidF14:((Rows.paidRow.maps==(Tryz.f12.params.toList++Rows.paidSpec.plain.varTypes Tryz.prog).any (Tryz.prog.mapsRec ·)))=true:=by kernel_rfl
theorem paidF15:((Rows.paidRow.ifaces==(Tryz.f12.params.toList++Rows.paidSpec.plain.varTypes Tryz.prog).any (Tryz.prog.ifacesRec ·)))=true:=by kernel_rfl
theorem paidF16:((Rows.paidRow.mapsOut==Tryz.prog.mapsAmong Tryz.f12.resultTypes.toList))=true:=by kernel_rfl
theorem paidF17:((Rows.paidRow.loops==(Tryz.f12.params.toList++Rows.paidSpec.plain.varTypes Tryz.prog).any (Tryz.prog.loopsFrom ·)))=true:=by kernel_rfl
theorem paidF18:((Rows.paidRow.wideKeys==(Tryz.f12.params.toList++Rows.paidSpec.plain.varTypes Tryz.prog++Tryz.f12.resultTypes.toList).any (Tryz.prog.wideKeysFrom ·)))=true:=by kernel_rfl
theorem paidF19:(Rows.paidSpec.vars.all (Tryz.prog.varReadable ·))=true:=by kernel_rfl
theorem paidF20:(Tryz.f12.resultTypes.all (fun t=>Tryz.prog.readableRec t&&decide (t<Tryz.prog.types.size)))=true:=by kernel_rfl
theorem paidF21:((Rows.paidRow.ifacesOut==Tryz.f12.resultTypes.toList.any (Tryz.prog.ifacesRec ·)))=true:=by kernel_rfl
theorem paidF22:((Rows.paidRow.loopsOut==Tryz.f12.resultTypes.toList.any (Tryz.prog.loopsFrom ·)))=true:=by kernel_rfl
theorem paidF23:((Rows.paidRow.plainKeys==Tryz.prog.plainKeys))=true:=by kernel_rfl
theorem paidF24:(Rows.paidRow.shortTexts.isNone)=true:=by kernel_rfl
theorem paidF25:(Tryz.prog.stopsHeard)=true:=by kernel_rfl
theorem paidF26:(Tryz.prog.mayEnter)=true:=by kernel_rfl
theorem paidF27:((Rows.paidRow.lifted==Tryz.prog.liftsFinal))=true:=by kernel_rfl
theorem paidF28:((Tryz.prog.make==some Rows.paidRow.make))=true:=by kernel_rfl
theorem paidF29:((Rows.paidRow.kinds==(if Rows.paidRow.domain.isEmpty then [] else Tryz.f12.params.toList.map fun t=>match Tryz.prog.underlying t with|some (.int k)=>some k|_=>none)))=true:=by kernel_rfl
theorem paidF30:((Rows.paidRow.pinned==Rows.paidRow.pinnedBy))=true:=by kernel_rfl
theorem paidF31:((Rows.paidRow.veiled==(Tryz.f12.params.toList++Rows.paidSpec.plain.varTypes Tryz.prog++Tryz.f12.resultTypes.toList).any (Tryz.prog.veiledRec ·)))=true:=by kernel_rfl
theorem paidF32:(Rows.paidRow.veiledFits Tryz.prog Tryz.f12.params.toList (Tryz.f12.params.toList++Rows.paidSpec.plain.varTypes Tryz.prog++Tryz.f12.resultTypes.toList))=true:=by kernel_rfl
theorem paidNamed:Tryz.prog.funcNamed Rows.paidRow.func=some 12:=by kernel_rfl
theorem paidInst:Tryz.f12.isInstance Tryz.prog Rows.paidRow.origin Rows.paidRow.targs:=of_decide_eq_true (by kernel_rfl)
theorem paidWrap:Tryz.f12.isWrapper Tryz.prog Rows.paidRow.wrapper Rows.paidRow.mainSum:=of_decide_eq_true (by kernel_rfl)
theorem paidWf:Rows.paidRow.wfByText (OpenSpec.ofChange Rows.paidSpec)=true:=by kernel_rfl
theorem paidMain : Tryz.prog.mainIs = some (true, ("688554a4e8ee496442038ba4f4df914fac4bc704e873b26b6050a7898a9f0fee" : String).toList) := by kernel_rfl
theorem paidLooks:true=Tryz.prog.looks []:=by kernel_rfl
theorem paidGoes:false=Rows.paidRow.goesBy Tryz.prog:=by kernel_rfl
end Go.Proofs.YtobgbmfpicmpcaaGreatDoor
