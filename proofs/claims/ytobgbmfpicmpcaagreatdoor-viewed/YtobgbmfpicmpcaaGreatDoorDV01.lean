/- The closed facts of the row and the card of Viewed, each by the kernel, one theorem each. -/
import Derived.Test.YtobgbmfpicmpcaaGreatDoorCards
import Derived.JoinedOf
import Derived.KernelRfl
set_option maxRecDepth 100000
set_option maxHeartbeats 8000000
namespace Go.Proofs.YtobgbmfpicmpcaaGreatDoor
theorem x8:(Rows.viewedRow.wf (OpenSpec.ofChange Rows.viewedSpec))=true:=by kernel_rfl
theorem l6:(laidOutB Tryz.prog)=true:=by kernel_rfl
theorem B1:(mapsRowed Tryz.prog)=true:=by kernel_rfl
theorem Lz:(Tryz.f10.params.all (Tryz.prog.readableRec ·))=true:=by kernel_rfl
theorem Lo:(namedTie Tryz.prog Rows.viewedRow.named Rows.viewedSpec.vars)=true:=by kernel_rfl
theorem F8:((Rows.viewedRow.stops==[]))=true:=by kernel_rfl
theorem B2:((Tryz.prog.stops==[]))=true:=by kernel_rfl
theorem G4:((Rows.viewedRow.knobs==[]))=true:=by kernel_rfl
theorem Ls:((Tryz.prog.stopKnobs==[]))=true:=by kernel_rfl
theorem sb:((Rows.viewedRow.inPlace==Tryz.prog.inPlace 10))=true:=by kernel_rfl
theorem vx:((Rows.viewedRow.unfollowed==Tryz.prog.unfollowed 10))=true:=by kernel_rfl
theorem ud:((Rows.viewedRow.recurses==Tryz.prog.recurses 10))=true:=by kernel_rfl
theorem sv:((Rows.viewedRow.named==Tryz.prog.varsNamed 10))=true:=by kernel_rfl
theorem vH:((Rows.viewedRow.maps==(Tryz.f10.params.toList++Rows.viewedSpec.plain.varTypes Tryz.prog).any (Tryz.prog.mapsRec ·)))=true:=by kernel_rfl
theorem xi:((Rows.viewedRow.ifaces==(Tryz.f10.params.toList++Rows.viewedSpec.plain.varTypes Tryz.prog).any (Tryz.prog.ifacesRec ·)))=true:=by kernel_rfl
theorem vg:((Rows.viewedRow.mapsOut==Tryz.prog.mapsAmong Tryz.f10.resultTypes.toList))=true:=by kernel_rfl
theorem ri:((Rows.viewedRow.loops==(Tryz.f10.params.toList++Rows.viewedSpec.plain.varTypes Tryz.prog).any (Tryz.prog.loopsFrom ·)))=true:=by kernel_rfl
theorem s6:((Rows.viewedRow.wideKeys==(Tryz.f10.params.toList++Rows.viewedSpec.plain.varTypes Tryz.prog++Tryz.f10.resultTypes.toList).any (Tryz.prog.wideKeysFrom ·)))=true:=by kernel_rfl
theorem tw:(Rows.viewedSpec.vars.all (Tryz.prog.varReadable ·))=true:=by kernel_rfl
theorem uc:(Tryz.f10.resultTypes.all (fun t=>Tryz.prog.readableRec t&&decide (t<Tryz.prog.types.size)))=true:=by kernel_rfl
theorem xl:((Rows.viewedRow.ifacesOut==Tryz.f10.resultTypes.toList.any (Tryz.prog.ifacesRec ·)))=true:=by kernel_rfl
theorem vm:((Rows.viewedRow.loopsOut==Tryz.f10.resultTypes.toList.any (Tryz.prog.loopsFrom ·)))=true:=by kernel_rfl
theorem u2:((Rows.viewedRow.plainKeys==Tryz.prog.plainKeys))=true:=by kernel_rfl
theorem vb:(Rows.viewedRow.shortTexts.isNone)=true:=by kernel_rfl
theorem xd:(Tryz.prog.stopsHeard)=true:=by kernel_rfl
theorem vo:(Tryz.prog.mayEnter)=true:=by kernel_rfl
theorem s8:((Rows.viewedRow.lifted==Tryz.prog.liftsFinal))=true:=by kernel_rfl
theorem vz:((Tryz.prog.make==some Rows.viewedRow.make))=true:=by kernel_rfl
theorem tt:((Rows.viewedRow.kinds==(if Rows.viewedRow.domain.isEmpty then [] else Tryz.f10.params.toList.map fun t=>match Tryz.prog.underlying t with|some (.int k)=>some k|_=>none)))=true:=by kernel_rfl
theorem ti:((Rows.viewedRow.pinned==Rows.viewedRow.pinnedBy))=true:=by kernel_rfl
theorem tH:((Rows.viewedRow.veiled==(Tryz.f10.params.toList++Rows.viewedSpec.plain.varTypes Tryz.prog++Tryz.f10.resultTypes.toList).any (Tryz.prog.veiledRec ·)))=true:=by kernel_rfl
theorem tk:(Rows.viewedRow.veiledFits Tryz.prog Tryz.f10.params.toList (Tryz.f10.params.toList++Rows.viewedSpec.plain.varTypes Tryz.prog++Tryz.f10.resultTypes.toList))=true:=by kernel_rfl
theorem gu:Tryz.prog.funcNamed Rows.viewedRow.func=some 10:=by kernel_rfl
theorem p8:Tryz.f10.isInstance Tryz.prog Rows.viewedRow.origin Rows.viewedRow.targs:=of_decide_eq_true (by kernel_rfl)
theorem o4:Tryz.f10.isWrapper Tryz.prog Rows.viewedRow.wrapper Rows.viewedRow.mainSum:=of_decide_eq_true (by kernel_rfl)
theorem FD:Rows.viewedRow.wfByText (OpenSpec.ofChange Rows.viewedSpec)=true:=by kernel_rfl
theorem np : Tryz.prog.mainIs = some (true, ("688554a4e8ee496442038ba4f4df914fac4bc704e873b26b6050a7898a9f0fee" : String).toList) := by kernel_rfl
theorem lS:true=Tryz.prog.looks []:=by kernel_rfl
theorem ob:false=Rows.viewedRow.goesBy Tryz.prog:=by kernel_rfl
end Go.Proofs.YtobgbmfpicmpcaaGreatDoor
