/-
  DERIVED. GIVEN WITH THE SEED: THE CARDS: each row of YtobgbmfpicmpcaaDoorRows.lean that lists a variable, with what it lists TIED to the program's text (the seventh form; the later family's looks); each row that meets fmt, with fmt's text TOLD by the authors' own Lean function (tested against real Go, not proved from fmt's source: count such statements apart). THE CARD IS WHAT COUNTS. Prove the row's statement (the work); the ties are given (YtobgbmfpicmpcaaDoorTie.lean); close each card by the builder's one call (the guide's Derived/Test/ToyasCard.lean, 'card_holds'). Laid BY PROGRAM, IN A SANDBOX (cutbox-door.mjs). By AI agents, Wed Nov 11 2026. No macro, syntax, notation, axiom, sorry.
-/
import Derived.Test.YtobgbmfpicmpcaaDoorRows
import GoSem.ClaimSeven
namespace Go.Proofs.YtobgbmfpicmpcaaDoor
namespace Rows

/-- THE TIED CARD OF 'veillaw.Cuts'. -/
def cutsCard : Claim7 := { stood := { row := cutsRow, standIns := [], harness := (true, "4744e6001fae2cdbd6bddfef6282f89367b5a334b93d779ad8335bb09817c802"), looks := true }, kinds := [], alts := [], laidByText := true, laidKinds := [.data, .data, .data, .sentinel, .sentinel], laidTests := true, laidLooks := .later }
def CutsCardSaid : Prop := Claim7.holds Tryd.pinned (.plain (OpenSpec.ofChange cutsSpec)) cutsCard

/-- THE SECOND FORM's CARD OF 'veillaw.Cuts'. -/
def cutsUptoCard : Claim7 := { stood := { row := cutsUptoRow, standIns := [], harness := (true, "4744e6001fae2cdbd6bddfef6282f89367b5a334b93d779ad8335bb09817c802"), looks := true }, kinds := [], alts := [], laidByText := true, laidKinds := [.data, .data, .data, .sentinel, .sentinel], laidTests := true, laidLooks := .later }
def CutsUptoCardSaid : Prop := Claim7.holds Tryd.pinned (.plain (OpenSpec.upto cutsSpec)) cutsUptoCard
end Rows
end Go.Proofs.YtobgbmfpicmpcaaDoor
