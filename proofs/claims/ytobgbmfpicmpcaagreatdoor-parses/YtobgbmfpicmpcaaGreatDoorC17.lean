/- The law Parses is proved: for every text (of whatever length a text may have) the call returns true and the text reads as it did; the package variables that the row lists are tied to the program's own text by the given tie. -/
import Derived.Test.YtobgbmfpicmpcaaGreatDoorCards
import Derived.Test.YtobgbmfpicmpcaaGreatDoorTie
import Derived.ProofKit
import Derived.LaidMore
import Derived.LaidSub
import Derived.OpenShut
import Derived.Stop.Joined
import Derived.Stop.LaidErr
import Derived.SevenTiedAt
import Derived.Test.YtobgbmfpicmpcaaGreatDoorC16
namespace Go.Proofs.YtobgbmfpicmpcaaGreatDoor
open Go.ChangeShapes Go.WideShapes Go.ChangeAt Go.RowKit
open Go.ChangeMaps (open_string shut_string)

theorem Tryz.own : ownKnob Tryz.prog.godebug = none := by kernel_rfl
theorem gRange : Tryz.prog.globalNamed "strconv.ErrRange" = some 5 := by kernel_rfl
theorem gRangeType : (Tryz.prog.globals[5]?).map (·.type) = some 177 := by kernel_rfl
theorem cells71 : Tryz.prog.cellsOf 442 = 1 := by kernel_rfl
theorem cells9 : Tryz.prog.cellsOf 9 = 1 := by kernel_rfl
theorem star : "*" ++ "errors.errorString" = "*errors.errorString" := by decide
theorem row69 (u : TypeId) (h : Tryz.prog.typeName? 3 u = some "*errors.errorString") : u = 440 :=
  typeName_ptr_named (nm := "errors.errorString") (by rw [star]; kernel_rfl) (by kernel_rfl) (by decide) u (by rw [star]; exact h)

/-- What the listed variables give the walk: ErrRange holds an error. -/
theorem range_of {W : World} (h : laidMetH Tryz.prog Rows.parsesRow.laid W) : ∃ ev, W.cell? ⟨5, 0, none⟩ = some ev ∧ (ev = .nilIface ∨ ∃ te pe, ev = .iface te pe) := by
  have h1 := laidMetH.filter (fun x => x.1 == "strconv.ErrRange") h
  have e : (Rows.parsesRow.laid.filter fun x => x.1 == "strconv.ErrRange") = [("strconv.ErrRange", Rows.laid_strconv_ErrRange)] := by kernel_rfl
  rw [e] at h1
  rw [MakeChecks.laidMetH_plain _ _ _ (by kernel_rfl)] at h1
  obtain ⟨a0, s0, hv0, -, -, -⟩ := laid_sentinel h1 gRange gRangeType Tryz.underlying177 row69 Tryz.underlying440 Tryz.underlying442 rfl rfl Tryz.underlying9 cells71 cells9
  exact ⟨_, by have h0 := World.var?_cell gRange hv0 0; simpa using h0, Or.inr ⟨_, _, rfl⟩⟩

theorem door_met (os : Os) (args : Array Value) : laidMetH Tryz.prog Rows.parsesRow.laid ((World.doorLaid Tryz.prog 400 os).forCall (fun _ _ => 0) ⟨#[], args, []⟩).memory :=
  laidMetH_of_parts3 (fuel := 8) (laidMet_of_run' 8 (by kernel_rfl) (by kernel_rfl)) (by kernel_rfl) (by kernel_rfl)

set_option maxRecDepth 100000 in
theorem lifted (os : Os) (started : os.Started) (H : Type) (enc : TypeId × Value → H) :
    ReturnsInHanded {} Tryz.checked os 3 .any (fun w args => (Rows.parsesSpec.pre enc Tryz.prog Tryz.f3 [] false w args ∧ laidMetH Tryz.prog Rows.parsesRow.laid w) ∧ sizedMet enc Tryz.prog Tryz.f3 (OpenSpec.ofChange Rows.parsesSpec) false w args)
      (Rows.parsesSpec.post enc Tryz.prog Tryz.f3 false true false false) := by
  refine returnsInHanded_of_change_and (C := Tryz.checked) (X := fun w _ => laidMetH Tryz.prog Rows.parsesRow.laid w) (fun _ _ _ hh h => h.of_heap hh) Tryz.own started (by kernel_rfl) Tryz.func3
    (ChangeSpec.witness_shaped (enc := enc) (C := Tryz.checked) (os := os) (X := fun w _ => laidMetH Tryz.prog Rows.parsesRow.laid w) false (World.doorLaid Tryz.prog 400 os) #[.string ⟨#[]⟩] 8 rfl (World.shaped_of_RefB (by kernel_rfl) (by kernel_rfl)) (by kernel_rfl) (by kernel_rfl) (by kernel_rfl) (door_met os _)) ?_
  intro W base args ds gs before hval0 hW _ _ hL _
  have hval : ∀ (j : Nat) t v, Tryz.f3.params[j]? = some t → args[j]? = some v → Value.okWide Tryz.prog W .any base t v := hval0
  have hW' := hW
  obtain ⟨p, q, hA0, hV, rfl, _, _⟩ := hW
  have hA : DataW.TrodAll enc Tryz.prog W 0 (fun _ => true) true Tryz.f3.params.toList args.toList ds p := hA0
  rw [Tryz.params3] at hA hval
  obtain ⟨v0, d0, rfl, rfl, h0⟩ := trodAll_one hA
  obtain ⟨rfl, rfl⟩ := trodVars_none hV
  obtain ⟨s, rfl, rfl, rfl, hs⟩ := open_string Tryz.underlying9 (hval 0 9 v0 rfl rfl) h0
  obtain ⟨ev, hg, hev⟩ := range_of hL
  clear hA0 hval0
  simp only [List.append_nil] at hW'
  refine (parses s W hg hev hs).mono fun e W' ⟨he, hnx⟩ => ?_
  subst he
  refine ⟨_, rfl, _, _, _, [], [], [], hW', ?_, ?_, rfl, hnx.frame _, fun h => by cases h⟩
  · exact trodAll_mk1 (shut_bool Tryz.underlying4 _)
  · exact trodAll_mk1 (shut_string Tryz.underlying9 hs)

theorem and2 {a b : Bool} (h1 : a = true) (h2 : b = true) : (a && b) = true := by rw [h1, h2]; rfl
set_option maxRecDepth 100000 in
theorem parsesClosed : joinedFacts Tryz.prog 3 Tryz.f3 Rows.parsesSpec Rows.parsesRow = true := by
  unfold joinedFacts
  exact and2 (and2 (and2 (and2 (and2 (and2 (and2 (and2 (and2 (and2 (and2 (and2 (and2 (and2 (and2 (and2 (and2 (and2 (and2 (and2 (and2 (and2 (and2 (and2 (and2 (and2 (and2 (and2 (and2 (and2 (and2 (parsesF1) parsesF2) parsesF3) parsesF4) parsesF5) parsesF6) parsesF7) parsesF8) parsesF9) parsesF10) parsesF11) parsesF12) parsesF13) parsesF14) parsesF15) parsesF16) parsesF17) parsesF18) parsesF19) parsesF20) parsesF21) parsesF22) parsesF23) parsesF24) parsesF25) parsesF26) parsesF27) parsesF28) parsesF29) parsesF30) parsesF31) parsesF32
theorem parses_row_holds : Rows.ParsesSaid :=
  OpenClaim.holds_of_wide 3 Tryz.f3 rfl rfl rfl rfl rfl rfl rfl ⟨rfl, rfl, rfl, rfl, rfl⟩ rfl rfl rfl rfl rfl parsesNamed Tryz.func3 parsesClosed parsesInst parsesWrap
    (fun os started H enc _ => lifted os started H enc)
theorem string_plain : Tryz.prog.wantsStandIn 9 = false := by kernel_rfl

/-- The tied card. -/
theorem parses_holds : Rows.ParsesCardSaid :=
  Claim7.holds_tied_plain_at .later [] [.data, .data, .data, .sentinel, .sentinel] true (true, "688554a4e8ee496442038ba4f4df914fac4bc704e873b26b6050a7898a9f0fee") true
    parses_row_holds (fun _ h => by cases h) parsesWf (fun _ h => by cases h) parses_row_tie rfl ⟨rfl, rfl⟩ parsesMain rfl
    (fun f fn hf hfn => by
      obtain rfl : f = 3 := Option.some.inj (parsesNamed.symm.trans hf) |>.symm
      obtain rfl : fn = Tryz.f3 := (Option.some.inj (Tryz.func3.symm.trans hfn)).symm
      exact ⟨parsesLooks, fun j t ht => by
        rw [Tryz.params3] at ht
        have hm : t ∈ [9] := by simpa using Array.mem_of_getElem? ht
        rw [List.mem_singleton.1 hm]
        exact string_plain⟩)
    parsesGoes
#print axioms parses_holds
end Go.Proofs.YtobgbmfpicmpcaaGreatDoor

