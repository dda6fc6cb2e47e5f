/-
  DERIVED. GIVEN WITH THE SEED: THE CARDS: each row of YtobgbmfpicmpcaaGreatDoorRows.lean that lists a variable, with what it lists TIED to the program's text (the seventh form; the later family's looks); each row that meets fmt, with fmt's text TOLD by the authors' own Lean function (tested against real Go, not proved from fmt's source: count such statements apart). THE CARD IS WHAT COUNTS. Prove the row's statement (the work); the ties are given (YtobgbmfpicmpcaaGreatDoorTie.lean); close each card by the builder's one call (the guide's Derived/Test/ToyasCard.lean, 'card_holds'). Laid BY PROGRAM, IN A SANDBOX (cutbox-door.mjs). By AI agents, Wed Nov 11 2026. No macro, syntax, notation, axiom, sorry.
-/
import Derived.Test.YtobgbmfpicmpcaaGreatDoorRows
import GoSem.ClaimSeven
namespace Go.Proofs.YtobgbmfpicmpcaaGreatDoor
namespace Rows

/-- THE TIED CARD OF 'veillaw.Parses'. -/
def parsesCard : Claim7 := { stood := { row := parsesRow, standIns := [], harness := (true, "688554a4e8ee496442038ba4f4df914fac4bc704e873b26b6050a7898a9f0fee"), looks := true }, kinds := [], alts := [], laidByText := true, laidKinds := [.data, .data, .data, .sentinel, .sentinel], laidTests := true, laidLooks := .later }
def ParsesCardSaid : Prop := Claim7.holds Tryz.pinned (.plain (OpenSpec.ofChange parsesSpec)) parsesCard

/-- THE TIED CARD OF 'veillaw.Formats'. -/
def formatsCard : Claim7 := { stood := { row := formatsRow, standIns := [], harness := (true, "688554a4e8ee496442038ba4f4df914fac4bc704e873b26b6050a7898a9f0fee"), looks := true }, kinds := [], alts := [], laidByText := true, laidKinds := [.data, .data, .data, .sentinel, .sentinel], laidTests := true, laidLooks := .later }
def FormatsCardSaid : Prop := Claim7.holds Tryz.pinned (.plain (OpenSpec.ofChange formatsSpec)) formatsCard

/-- THE TIED CARD OF 'veillaw.Asks'. -/
def asksCard : Claim7 := { stood := { row := asksRow, standIns := [], harness := (true, "688554a4e8ee496442038ba4f4df914fac4bc704e873b26b6050a7898a9f0fee"), looks := true }, kinds := [], alts := [], laidByText := true, laidKinds := [.data, .data, .data, .data, .sentinel, .sentinel, .pinned], laidTests := true, laidLooks := .later }
def AsksCardSaid : Prop := Claim7.holds Tryz.pinned (.plain (OpenSpec.ofChange asksSpec)) asksCard

/-- THE TIED CARD OF 'veillaw.All'. -/
def allCard : Claim7 := { stood := { row := allRow, standIns := [], harness := (true, "688554a4e8ee496442038ba4f4df914fac4bc704e873b26b6050a7898a9f0fee"), looks := true }, kinds := [], alts := [], laidByText := true, laidKinds := [.data, .data, .data, .data, .sentinel, .sentinel, .pinned], laidTests := true, laidLooks := .later }
def AllCardSaid : Prop := Claim7.holds Tryz.pinned (.plain (OpenSpec.ofChange allSpec)) allCard

/-- THE TIED CARD OF 'veilkeep.Written'. -/
def writtenCard : Claim7 := { stood := { row := writtenRow, standIns := [], harness := (true, "688554a4e8ee496442038ba4f4df914fac4bc704e873b26b6050a7898a9f0fee"), looks := true }, kinds := [], alts := [], laidByText := true, laidKinds := [.data, .data, .data, .sentinel, .sentinel], laidTests := true, laidLooks := .later }
def WrittenCardSaid : Prop := Claim7.holds Tryz.pinned (.plain (OpenSpec.ofChange writtenSpec)) writtenCard

/-- THE TIED CARD OF 'veilkeep.Blind'. -/
def blindCard : Claim7 := { stood := { row := blindRow, standIns := [], harness := (true, "688554a4e8ee496442038ba4f4df914fac4bc704e873b26b6050a7898a9f0fee"), looks := true }, kinds := [], alts := [], laidByText := true, laidKinds := [.data, .data, .data, .data, .sentinel, .sentinel, .pinned], laidTests := true, laidLooks := .later }
def BlindCardSaid : Prop := Claim7.holds Tryz.pinned (.plain (OpenSpec.ofChange blindSpec)) blindCard

/-- THE TIED CARD OF 'veilkeep.Confined'. -/
def confinedCard : Claim7 := { stood := { row := confinedRow, standIns := [], harness := (true, "688554a4e8ee496442038ba4f4df914fac4bc704e873b26b6050a7898a9f0fee"), looks := true }, kinds := [], alts := [], laidByText := true, laidKinds := [.data, .data, .data, .data, .sentinel, .sentinel, .pinned], laidTests := true, laidLooks := .later }
def ConfinedCardSaid : Prop := Claim7.holds Tryz.pinned (.plain (OpenSpec.ofChange confinedSpec)) confinedCard

/-- THE TIED CARD OF 'veilkeep.Viewed'. -/
def viewedCard : Claim7 := { stood := { row := viewedRow, standIns := [], harness := (true, "688554a4e8ee496442038ba4f4df914fac4bc704e873b26b6050a7898a9f0fee"), looks := true }, kinds := [], alts := [], laidByText := true, laidKinds := [.data, .data, .data, .data, .sentinel, .sentinel, .pinned], laidTests := true, laidLooks := .later }
def ViewedCardSaid : Prop := Claim7.holds Tryz.pinned (.plain (OpenSpec.ofChange viewedSpec)) viewedCard

/-- THE TIED CARD OF 'veilkeep.Counted'. -/
def countedCard : Claim7 := { stood := { row := countedRow, standIns := [], harness := (true, "688554a4e8ee496442038ba4f4df914fac4bc704e873b26b6050a7898a9f0fee"), looks := true }, kinds := [], alts := [], laidByText := true, laidKinds := [.data, .data, .data, .data, .sentinel, .sentinel, .pinned], laidTests := true, laidLooks := .later }
def CountedCardSaid : Prop := Claim7.holds Tryz.pinned (.plain (OpenSpec.ofChange countedSpec)) countedCard

/-- THE TIED CARD OF 'veilkeep.Paid'. -/
def paidCard : Claim7 := { stood := { row := paidRow, standIns := [], harness := (true, "688554a4e8ee496442038ba4f4df914fac4bc704e873b26b6050a7898a9f0fee"), looks := true }, kinds := [], alts := [], laidByText := true, laidKinds := [.data, .data, .data, .data, .sentinel, .sentinel, .pinned], laidTests := true, laidLooks := .later }
def PaidCardSaid : Prop := Claim7.holds Tryz.pinned (.plain (OpenSpec.ofChange paidSpec)) paidCard

/-- THE TIED CARD OF 'veilkeep.Gone'. -/
def goneCard : Claim7 := { stood := { row := goneRow, standIns := [], harness := (true, "688554a4e8ee496442038ba4f4df914fac4bc704e873b26b6050a7898a9f0fee"), looks := true }, kinds := [], alts := [], laidByText := true, laidKinds := [.data, .data, .data, .data, .sentinel, .sentinel, .pinned], laidTests := true, laidLooks := .later }
def GoneCardSaid : Prop := Claim7.holds Tryz.pinned (.plain (OpenSpec.ofChange goneSpec)) goneCard

/-- THE SECOND FORM's CARD OF 'veillaw.Parses'. -/
def parsesUptoCard : Claim7 := { stood := { row := parsesUptoRow, standIns := [], harness := (true, "688554a4e8ee496442038ba4f4df914fac4bc704e873b26b6050a7898a9f0fee"), looks := true }, kinds := [], alts := [], laidByText := true, laidKinds := [.data, .data, .data, .sentinel, .sentinel], laidTests := true, laidLooks := .later }
def ParsesUptoCardSaid : Prop := Claim7.holds Tryz.pinned (.plain (OpenSpec.upto parsesSpec)) parsesUptoCard

/-- THE SECOND FORM's CARD OF 'veillaw.Formats'. -/
def formatsUptoCard : Claim7 := { stood := { row := formatsUptoRow, standIns := [], harness := (true, "688554a4e8ee496442038ba4f4df914fac4bc704e873b26b6050a7898a9f0fee"), looks := true }, kinds := [], alts := [], laidByText := true, laidKinds := [.data, .data, .data, .sentinel, .sentinel], laidTests := true, laidLooks := .later }
def FormatsUptoCardSaid : Prop := Claim7.holds Tryz.pinned (.plain (OpenSpec.upto formatsSpec)) formatsUptoCard

/-- THE SECOND FORM's CARD OF 'veillaw.Asks'. -/
def asksUptoCard : Claim7 := { stood := { row := asksUptoRow, standIns := [], harness := (true, "688554a4e8ee496442038ba4f4df914fac4bc704e873b26b6050a7898a9f0fee"), looks := true }, kinds := [], alts := [], laidByText := true, laidKinds := [.data, .data, .data, .data, .sentinel, .sentinel, .pinned], laidTests := true, laidLooks := .later }
def AsksUptoCardSaid : Prop := Claim7.holds Tryz.pinned (.plain (OpenSpec.upto asksSpec)) asksUptoCard

/-- THE SECOND FORM's CARD OF 'veillaw.All'. -/
def allUptoCard : Claim7 := { stood := { row := allUptoRow, standIns := [], harness := (true, "688554a4e8ee496442038ba4f4df914fac4bc704e873b26b6050a7898a9f0fee"), looks := true }, kinds := [], alts := [], laidByText := true, laidKinds := [.data, .data, .data, .data, .sentinel, .sentinel, .pinned], laidTests := true, laidLooks := .later }
def AllUptoCardSaid : Prop := Claim7.holds Tryz.pinned (.plain (OpenSpec.upto allSpec)) allUptoCard

/-- THE SECOND FORM's CARD OF 'veilkeep.Written'. -/
def writtenUptoCard : Claim7 := { stood := { row := writtenUptoRow, standIns := [], harness := (true, "688554a4e8ee496442038ba4f4df914fac4bc704e873b26b6050a7898a9f0fee"), looks := true }, kinds := [], alts := [], laidByText := true, laidKinds := [.data, .data, .data, .sentinel, .sentinel], laidTests := true, laidLooks := .later }
def WrittenUptoCardSaid : Prop := Claim7.holds Tryz.pinned (.plain (OpenSpec.upto writtenSpec)) writtenUptoCard

/-- THE SECOND FORM's CARD OF 'veilkeep.Blind'. -/
def blindUptoCard : Claim7 := { stood := { row := blindUptoRow, standIns := [], harness := (true, "688554a4e8ee496442038ba4f4df914fac4bc704e873b26b6050a7898a9f0fee"), looks := true }, kinds := [], alts := [], laidByText := true, laidKinds := [.data, .data, .data, .data, .sentinel, .sentinel, .pinned], laidTests := true, laidLooks := .later }
def BlindUptoCardSaid : Prop := Claim7.holds Tryz.pinned (.plain (OpenSpec.upto blindSpec)) blindUptoCard

/-- THE SECOND FORM's CARD OF 'veilkeep.Confined'. -/
def confinedUptoCard : Claim7 := { stood := { row := confinedUptoRow, standIns := [], harness := (true, "688554a4e8ee496442038ba4f4df914fac4bc704e873b26b6050a7898a9f0fee"), looks := true }, kinds := [], alts := [], laidByText := true, laidKinds := [.data, .data, .data, .data, .sentinel, .sentinel, .pinned], laidTests := true, laidLooks := .later }
def ConfinedUptoCardSaid : Prop := Claim7.holds Tryz.pinned (.plain (OpenSpec.upto confinedSpec)) confinedUptoCard

/-- THE SECOND FORM's CARD OF 'veilkeep.Viewed'. -/
def viewedUptoCard : Claim7 := { stood := { row := viewedUptoRow, standIns := [], harness := (true, "688554a4e8ee496442038ba4f4df914fac4bc704e873b26b6050a7898a9f0fee"), looks := true }, kinds := [], alts := [], laidByText := true, laidKinds := [.data, .data, .data, .data, .sentinel, .sentinel, .pinned], laidTests := true, laidLooks := .later }
def ViewedUptoCardSaid : Prop := Claim7.holds Tryz.pinned (.plain (OpenSpec.upto viewedSpec)) viewedUptoCard

/-- THE SECOND FORM's CARD OF 'veilkeep.Counted'. -/
def countedUptoCard : Claim7 := { stood := { row := countedUptoRow, standIns := [], harness := (true, "688554a4e8ee496442038ba4f4df914fac4bc704e873b26b6050a7898a9f0fee"), looks := true }, kinds := [], alts := [], laidByText := true, laidKinds := [.data, .data, .data, .data, .sentinel, .sentinel, .pinned], laidTests := true, laidLooks := .later }
def CountedUptoCardSaid : Prop := Claim7.holds Tryz.pinned (.plain (OpenSpec.upto countedSpec)) countedUptoCard

/-- THE SECOND FORM's CARD OF 'veilkeep.Paid'. -/
def paidUptoCard : Claim7 := { stood := { row := paidUptoRow, standIns := [], harness := (true, "688554a4e8ee496442038ba4f4df914fac4bc704e873b26b6050a7898a9f0fee"), looks := true }, kinds := [], alts := [], laidByText := true, laidKinds := [.data, .data, .data, .data, .sentinel, .sentinel, .pinned], laidTests := true, laidLooks := .later }
def PaidUptoCardSaid : Prop := Claim7.holds Tryz.pinned (.plain (OpenSpec.upto paidSpec)) paidUptoCard

/-- THE SECOND FORM's CARD OF 'veilkeep.Gone'. -/
def goneUptoCard : Claim7 := { stood := { row := goneUptoRow, standIns := [], harness := (true, "688554a4e8ee496442038ba4f4df914fac4bc704e873b26b6050a7898a9f0fee"), looks := true }, kinds := [], alts := [], laidByText := true, laidKinds := [.data, .data, .data, .data, .sentinel, .sentinel, .pinned], laidTests := true, laidLooks := .later }
def GoneUptoCardSaid : Prop := Claim7.holds Tryz.pinned (.plain (OpenSpec.upto goneSpec)) goneUptoCard
end Rows
end Go.Proofs.YtobgbmfpicmpcaaGreatDoor
