/- The closed facts of the row and the card of FormatsUpto, each by the kernel, one theorem each. -/
import Derived.Test.YtobgbmfpicmpcaaGreatDoorCards
import Derived.JoinedOf
import Derived.KernelRfl
namespace Go.Proofs.YtobgbmfpicmpcaaGreatDoor
theorem formatsUptoF1:(Rows.formatsUptoRow.wf (OpenSpec.ofChange Rows.formatsSpec))=true:=by kernel_rfl
theorem formatsUptoF2:(laidOutB Tryz.prog)=true:=by kernel_rfl
theorem formatsUptoF3:(mapsRowed Tryz.prog)=true:=by kernel_rfl
theorem formatsUptoF4:(Tryz.f4.params.all (Tryz.prog.readableRec ·))=true:=by kernel_rfl
theorem formatsUptoF5:(namedTie Tryz.prog Rows.formatsUptoRow.named Rows.formatsSpec.vars)=true:=by kernel_rfl
theorem formatsUptoF6:((Rows.formatsUptoRow.stops==[]))=true:=by kernel_rfl
theorem formatsUptoF7:((Tryz.prog.stops==[]))=true:=by kernel_rfl
theorem formatsUptoF8:((Rows.formatsUptoRow.knobs==[]))=true:=by kernel_rfl
theorem formatsUptoF9:((Tryz.prog.stopKnobs==[]))=true:=by kernel_rfl
theorem formatsUptoF10:((Rows.formatsUptoRow.inPlace==Tryz.prog.inPlace 4))=true:=by kernel_rfl
theorem formatsUptoF11:((Rows.formatsUptoRow.unfollowed==Tryz.prog.unfollowed 4))=true:=by kernel_rfl
theorem formatsUptoF12:((Rows.formatsUptoRow.recurses==Tryz.prog.recurses 4))=true:=by kernel_rfl
theorem formatsUptoF13:((Rows.formatsUptoRow.named==Tryz.prog.varsNamed 4))=true:=by kernel_rfl
theorem formatsUptoF14:((Rows.formatsUptoRow.maps==(Tryz.f4.params.toList++Rows.formatsSpec.plain.varTypes Tryz.prog).any (Tryz.prog.mapsRec ·)))=true:=by kernel_rfl
theorem formatsUptoF15:((Rows.formatsUptoRow.ifaces==(Tryz.f4.params.toList++Rows.formatsSpec.plain.varTypes Tryz.prog).any (Tryz.prog.ifacesRec ·)))=true:=by kernel_rfl
theorem formatsUptoF16:((Rows.formatsUptoRow.mapsOut==Tryz.prog.mapsAmong Tryz.f4.resultTypes.toList))=true:=by kernel_rfl
theorem formatsUptoF17:((Rows.formatsUptoRow.loops==(Tryz.f4.params.toList++Rows.formatsSpec.plain.varTypes Tryz.prog).any (Tryz.prog.loopsFrom ·)))=true:=by kernel_rfl
theorem formatsUptoF18:((Rows.formatsUptoRow.wideKeys==(Tryz.f4.params.toList++Rows.formatsSpec.plain.varTypes Tryz.prog++Tryz.f4.resultTypes.toList).any (Tryz.prog.wideKeysFrom ·)))=true:=by kernel_rfl
theorem formatsUptoF19:(Rows.formatsSpec.vars.all (Tryz.prog.varReadable ·))=true:=by kernel_rfl
theorem formatsUptoF20:(Tryz.f4.resultTypes.all (fun t=>Tryz.prog.readableRec t&&decide (t<Tryz.prog.types.size)))=true:=by kernel_rfl
theorem formatsUptoF21:((Rows.formatsUptoRow.ifacesOut==Tryz.f4.resultTypes.toList.any (Tryz.prog.ifacesRec ·)))=true:=by kernel_rfl
theorem formatsUptoF22:((Rows.formatsUptoRow.loopsOut==Tryz.f4.resultTypes.toList.any (Tryz.prog.loopsFrom ·)))=true:=by kernel_rfl
theorem formatsUptoF23:((Rows.formatsUptoRow.plainKeys==Tryz.prog.plainKeys))=true:=by kernel_rfl
theorem formatsUptoF24:(Rows.formatsUptoRow.shortTexts.isNone)=true:=by kernel_rfl
theorem formatsUptoF25:(Tryz.prog.stopsHeard)=true:=by kernel_rfl
theorem formatsUptoF26:(Tryz.prog.mayEnter)=true:=by kernel_rfl
theorem formatsUptoF27:((Rows.formatsUptoRow.lifted==Tryz.prog.liftsFinal))=true:=by kernel_rfl
theorem formatsUptoF28:((Tryz.prog.make==some Rows.formatsUptoRow.make))=true:=by kernel_rfl
theorem formatsUptoF29:((Rows.formatsUptoRow.kinds==(if Rows.formatsUptoRow.domain.isEmpty then [] else Tryz.f4.params.toList.map fun t=>match Tryz.prog.underlying t with|some (.int k)=>some k|_=>none)))=true:=by kernel_rfl
theorem formatsUptoF30:((Rows.formatsUptoRow.pinned==Rows.formatsUptoRow.pinnedBy))=true:=by kernel_rfl
theorem formatsUptoF31:((Rows.formatsUptoRow.veiled==(Tryz.f4.params.toList++Rows.formatsSpec.plain.varTypes Tryz.prog++Tryz.f4.resultTypes.toList).any (Tryz.prog.veiledRec ·)))=true:=by kernel_rfl
theorem formatsUptoF32:(Rows.formatsUptoRow.veiledFits Tryz.prog Tryz.f4.params.toList (Tryz.f4.params.toList++Rows.formatsSpec.plain.varTypes Tryz.prog++Tryz.f4.resultTypes.toList))=true:=by kernel_rfl
theorem formatsUptoNamed:Tryz.prog.funcNamed Rows.formatsUptoRow.func=some 4:=by kernel_rfl
theorem formatsUptoInst:Tryz.f4.isInstance Tryz.prog Rows.formatsUptoRow.origin Rows.formatsUptoRow.targs:=of_decide_eq_true (by kernel_rfl)
theorem formatsUptoWrap:Tryz.f4.isWrapper Tryz.prog Rows.formatsUptoRow.wrapper Rows.formatsUptoRow.mainSum:=of_decide_eq_true (by kernel_rfl)
theorem formatsUptoWf:Rows.formatsUptoRow.wfByText (Rows.OpenSpec.upto Rows.formatsSpec)=true:=by kernel_rfl
theorem formatsUptoMain : Tryz.prog.mainIs = some (true, ("688554a4e8ee496442038ba4f4df914fac4bc704e873b26b6050a7898a9f0fee" : String).toList) := by kernel_rfl
theorem formatsUptoLooks:true=Tryz.prog.looks []:=by kernel_rfl
theorem formatsUptoGoes:false=Rows.formatsUptoRow.goesBy Tryz.prog:=by kernel_rfl
end Go.Proofs.YtobgbmfpicmpcaaGreatDoor

