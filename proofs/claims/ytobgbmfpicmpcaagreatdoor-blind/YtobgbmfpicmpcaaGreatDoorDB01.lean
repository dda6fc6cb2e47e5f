/- The closed facts of the row and the card of Blind, each by the kernel, one theorem each. -/
import Derived.Test.YtobgbmfpicmpcaaGreatDoorCards
import Derived.JoinedOf
import Derived.KernelRfl
set_option maxRecDepth 100000
set_option maxHeartbeats 8000000
namespace Go.Proofs.YtobgbmfpicmpcaaGreatDoor
theorem blindF1:(Rows.blindRow.wf (OpenSpec.ofChange Rows.blindSpec))=true:=by kernel_rfl
theorem blindF2:(laidOutB Tryz.prog)=true:=by kernel_rfl
theorem blindF3:(mapsRowed Tryz.prog)=true:=by kernel_rfl
theorem blindF4:(Tryz.f8.params.all (Tryz.prog.readableRec ·))=true:=by kernel_rfl
theorem blindF5:(namedTie Tryz.prog Rows.blindRow.named Rows.blindSpec.vars)=true:=by kernel_rfl
theorem blindF6:((Rows.blindRow.stops==[]))=true:=by kernel_rfl
theorem blindF7:((Tryz.prog.stops==[]))=true:=by kernel_rfl
theorem blindF8:((Rows.blindRow.knobs==[]))=true:=by kernel_rfl
theorem blindF9:((Tryz.prog.stopKnobs==[]))=true:=by kernel_rfl
theorem blindF10:((Rows.blindRow.inPlace==Tryz.prog.inPlace 8))=true:=by kernel_rfl
theorem blindF11:((Rows.blindRow.unfollowed==Tryz.prog.unfollowed 8))=true:=by kernel_rfl
theorem blindF12:((Rows.blindRow.recurses==Tryz.prog.recurses 8))=true:=by kernel_rfl
theorem blindF13:((Rows.blindRow.named==Tryz.prog.varsNamed 8))=true:=by kernel_rfl
theorem blindF14:((Rows.blindRow.maps==(Tryz.f8.params.toList++Rows.blindSpec.plain.varTypes Tryz.prog).any (Tryz.prog.mapsRec ·)))=true:=by kernel_rfl
theorem blindF15:((Rows.blindRow.ifaces==(Tryz.f8.params.toList++Rows.blindSpec.plain.varTypes Tryz.prog).any (Tryz.prog.ifacesRec ·)))=true:=by kernel_rfl
theorem blindF16:((Rows.blindRow.mapsOut==Tryz.prog.mapsAmong Tryz.f8.resultTypes.toList))=true:=by kernel_rfl
theorem blindF17:((Rows.blindRow.loops==(Tryz.f8.params.toList++Rows.blindSpec.plain.varTypes Tryz.prog).any (Tryz.prog.loopsFrom ·)))=true:=by kernel_rfl
theorem blindF18:((Rows.blindRow.wideKeys==(Tryz.f8.params.toList++Rows.blindSpec.plain.varTypes Tryz.prog++Tryz.f8.resultTypes.toList).any (Tryz.prog.wideKeysFrom ·)))=true:=by kernel_rfl
theorem blindF19:(Rows.blindSpec.vars.all (Tryz.prog.varReadable ·))=true:=by kernel_rfl
theorem blindF20:(Tryz.f8.resultTypes.all (fun t=>Tryz.prog.readableRec t&&decide (t<Tryz.prog.types.size)))=true:=by kernel_rfl
theorem blindF21:((Rows.blindRow.ifacesOut==Tryz.f8.resultTypes.toList.any (Tryz.prog.ifacesRec ·)))=true:=by kernel_rfl
theorem blindF22:((Rows.blindRow.loopsOut==Tryz.f8.resultTypes.toList.any (Tryz.prog.loopsFrom ·)))=true:=by kernel_rfl
theorem blindF23:((Rows.blindRow.plainKeys==Tryz.prog.plainKeys))=true:=by kernel_rfl
theorem blindF24:(Rows.blindRow.shortTexts.isNone)=true:=by kernel_rfl
theorem blindF25:(Tryz.prog.stopsHeard)=true:=by kernel_rfl
theorem blindF26:(Tryz.prog.mayEnter)=true:=by kernel_rfl
theorem blindF27:((Rows.blindRow.lifted==Tryz.prog.liftsFinal))=true:=by kernel_rfl
theorem blindF28:((Tryz.prog.make==some Rows.blindRow.make))=true:=by kernel_rfl
theorem blindF29:((Rows.blindRow.kinds==(if Rows.blindRow.domain.isEmpty then [] else Tryz.f8.params.toList.map fun t=>match Tryz.prog.underlying t with|some (.int k)=>some k|_=>none)))=true:=by kernel_rfl
theorem blindF30:((Rows.blindRow.pinned==Rows.blindRow.pinnedBy))=true:=by kernel_rfl
theorem blindF31:((Rows.blindRow.veiled==(Tryz.f8.params.toList++Rows.blindSpec.plain.varTypes Tryz.prog++Tryz.f8.resultTypes.toList).any (Tryz.prog.veiledRec ·)))=true:=by kernel_rfl
theorem blindF32:(Rows.blindRow.veiledFits Tryz.prog Tryz.f8.params.toList (Tryz.f8.params.toList++Rows.blindSpec.plain.varTypes Tryz.prog++Tryz.f8.resultTypes.toList))=true:=by kernel_rfl
theorem blindNamed:Tryz.prog.funcNamed Rows.blindRow.func=some 8:=by kernel_rfl
theorem blindInst:Tryz.f8.isInstance Tryz.prog Rows.blindRow.origin Rows.blindRow.targs:=of_decide_eq_true (by kernel_rfl)
theorem blindWrap:Tryz.f8.isWrapper Tryz.prog Rows.blindRow.wrapper Rows.blindRow.mainSum:=of_decide_eq_true (by kernel_rfl)
theorem blindWf:Rows.blindRow.wfByText (OpenSpec.ofChange Rows.blindSpec)=true:=by kernel_rfl
theorem blindMain : Tryz.prog.mainIs = some (true, ("688554a4e8ee496442038ba4f4df914fac4bc704e873b26b6050a7898a9f0fee" : String).toList) := by kernel_rfl
theorem blindLooks:true=Tryz.prog.looks []:=by kernel_rfl
theorem blindGoes:false=Rows.blindRow.goesBy Tryz.prog:=by kernel_rfl
end Go.Proofs.YtobgbmfpicmpcaaGreatDoor
