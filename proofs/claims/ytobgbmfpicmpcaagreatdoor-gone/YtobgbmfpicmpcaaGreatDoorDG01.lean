/- The closed facts of the row and the card of Gone, each by the kernel, one theorem each. -/
import Derived.Test.YtobgbmfpicmpcaaGreatDoorCards
import Derived.JoinedOf
import Derived.KernelRfl
set_option maxRecDepth 100000
set_option maxHeartbeats 8000000
namespace Go.Proofs.YtobgbmfpicmpcaaGreatDoor
theorem Mh:(Rows.goneRow.wf (OpenSpec.ofChange Rows.goneSpec))=true:=by kernel_rfl
theorem F6:(laidOutB Tryz.prog)=true:=by kernel_rfl
theorem Mu:(mapsRowed Tryz.prog)=true:=by kernel_rfl
theorem Mn:(Tryz.f13.params.all (Tryz.prog.readableRec ·))=true:=by kernel_rfl
theorem My:(namedTie Tryz.prog Rows.goneRow.named Rows.goneSpec.vars)=true:=by kernel_rfl
theorem Mq:((Rows.goneRow.stops==[]))=true:=by kernel_rfl
theorem Mr:((Tryz.prog.stops==[]))=true:=by kernel_rfl
theorem Mg:((Rows.goneRow.knobs==[]))=true:=by kernel_rfl
theorem Mx:((Tryz.prog.stopKnobs==[]))=true:=by kernel_rfl
theorem Lo:((Rows.goneRow.inPlace==Tryz.prog.inPlace 13))=true:=by kernel_rfl
theorem Ln:((Rows.goneRow.unfollowed==Tryz.prog.unfollowed 13))=true:=by kernel_rfl
theorem LX:((Rows.goneRow.recurses==Tryz.prog.recurses 13))=true:=by kernel_rfl
theorem LL:((Rows.goneRow.named==Tryz.prog.varsNamed 13))=true:=by kernel_rfl
theorem Lt:((Rows.goneRow.maps==(Tryz.f13.params.toList++Rows.goneSpec.plain.varTypes Tryz.prog).any (Tryz.prog.mapsRec ·)))=true:=by kernel_rfl
theorem L1:((Rows.goneRow.ifaces==(Tryz.f13.params.toList++Rows.goneSpec.plain.varTypes Tryz.prog).any (Tryz.prog.ifacesRec ·)))=true:=by kernel_rfl
theorem LJ:((Rows.goneRow.mapsOut==Tryz.prog.mapsAmong Tryz.f13.resultTypes.toList))=true:=by kernel_rfl
theorem LK:((Rows.goneRow.loops==(Tryz.f13.params.toList++Rows.goneSpec.plain.varTypes Tryz.prog).any (Tryz.prog.loopsFrom ·)))=true:=by kernel_rfl
theorem Ls:((Rows.goneRow.wideKeys==(Tryz.f13.params.toList++Rows.goneSpec.plain.varTypes Tryz.prog++Tryz.f13.resultTypes.toList).any (Tryz.prog.wideKeysFrom ·)))=true:=by kernel_rfl
theorem Lu:(Rows.goneSpec.vars.all (Tryz.prog.varReadable ·))=true:=by kernel_rfl
theorem LA:(Tryz.f13.resultTypes.all (fun t=>Tryz.prog.readableRec t&&decide (t<Tryz.prog.types.size)))=true:=by kernel_rfl
theorem Lz:((Rows.goneRow.ifacesOut==Tryz.f13.resultTypes.toList.any (Tryz.prog.ifacesRec ·)))=true:=by kernel_rfl
theorem Lv:((Rows.goneRow.loopsOut==Tryz.f13.resultTypes.toList.any (Tryz.prog.loopsFrom ·)))=true:=by kernel_rfl
theorem LF:((Rows.goneRow.plainKeys==Tryz.prog.plainKeys))=true:=by kernel_rfl
theorem LM:(Rows.goneRow.shortTexts.isNone)=true:=by kernel_rfl
theorem Ly:(Tryz.prog.stopsHeard)=true:=by kernel_rfl
theorem Is:(Tryz.prog.mayEnter)=true:=by kernel_rfl
theorem LC:((Rows.goneRow.lifted==Tryz.prog.liftsFinal))=true:=by kernel_rfl
theorem L5:((Tryz.prog.make==some Rows.goneRow.make))=true:=by kernel_rfl
theorem LV:((Rows.goneRow.kinds==(if Rows.goneRow.domain.isEmpty then [] else Tryz.f13.params.toList.map fun t=>match Tryz.prog.underlying t with|some (.int k)=>some k|_=>none)))=true:=by kernel_rfl
theorem LO:((Rows.goneRow.pinned==Rows.goneRow.pinnedBy))=true:=by kernel_rfl
theorem L7:((Rows.goneRow.veiled==(Tryz.f13.params.toList++Rows.goneSpec.plain.varTypes Tryz.prog++Tryz.f13.resultTypes.toList).any (Tryz.prog.veiledRec ·)))=true:=by kernel_rfl
theorem LS:(Rows.goneRow.veiledFits Tryz.prog Tryz.f13.params.toList (Tryz.f13.params.toList++Rows.goneSpec.plain.varTypes Tryz.prog++Tryz.f13.resultTypes.toList))=true:=by kernel_rfl
theorem j2:Tryz.prog.funcNamed Rows.goneRow.func=some 13:=by kernel_rfl
theorem F0:Tryz.f13.isInstance Tryz.prog Rows.goneRow.origin Rows.goneRow.targs:=of_decide_eq_true (by kernel_rfl)
theorem G4:Tryz.f13.isWrapper Tryz.prog Rows.goneRow.wrapper Rows.goneRow.mainSum:=of_decide_eq_true (by kernel_rfl)
theorem Ml:Rows.goneRow.wfByText (OpenSpec.ofChange Rows.goneSpec)=true:=by kernel_rfl
theorem F2 : Tryz.prog.mainIs = some (true, ("688554a4e8ee496442038ba4f4df914fac4bc704e873b26b6050a7898a9f0fee" : String).toList) := by kernel_rfl
theorem uc:true=Tryz.prog.looks []:=by kernel_rfl
theorem zi:false=Rows.goneRow.goesBy Tryz.prog:=by kernel_rfl
end Go.Proofs.YtobgbmfpicmpcaaGreatDoor
