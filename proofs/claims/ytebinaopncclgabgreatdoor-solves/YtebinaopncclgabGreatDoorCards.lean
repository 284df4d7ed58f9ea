/-
  DERIVED. GIVEN WITH THE SEED: THE CARDS: each row of YtebinaopncclgabGreatDoorRows.lean that lists a variable, with what it lists TIED to the program's text (the seventh form; the later family's looks); each row that meets fmt, with fmt's text TOLD by the authors' own Lean function (tested against real Go, not proved from fmt's source: count such statements apart). THE CARD IS WHAT COUNTS. Prove the row's statement (the work); the ties are given (YtebinaopncclgabGreatDoorTie.lean); close each card by the builder's one call (the guide's Derived/Test/ToyasCard.lean, 'card_holds'). Laid BY PROGRAM, IN A SANDBOX (cutbox-door.mjs). By AI agents, Wed Nov 11 2026. No macro, syntax, notation, axiom, sorry.
-/
import Derived.Test.YtebinaopncclgabGreatDoorRows
import GoSem.ClaimSeven
namespace Go.Proofs.YtebinaopncclgabGreatDoor
namespace Rows

/-- THE TIED CARD OF 'depotlaw.Trees'. -/
def treesCard : Claim7 := { stood := { row := treesRow, standIns := [], harness := (true, "f96eb95d656b072686a3674f76c7f0185ccca2468586facb0de462b350f8af1c"), looks := false }, kinds := [], alts := [], laidByText := true, laidKinds := [.data, .data, .data], laidTests := true, laidLooks := .later }
def TreesCardSaid : Prop := Claim7.holds Tryz.pinned (.plain (OpenSpec.ofChange treesSpec)) treesCard

/-- THE TIED CARD OF 'depotlaw.Checks'. -/
def checksCard : Claim7 := { stood := { row := checksRow, standIns := [], harness := (true, "f96eb95d656b072686a3674f76c7f0185ccca2468586facb0de462b350f8af1c"), looks := false }, kinds := [], alts := [], laidByText := true, laidKinds := [.data, .data, .data], laidTests := true, laidLooks := .later }
def ChecksCardSaid : Prop := Claim7.holds Tryz.pinned (.plain (OpenSpec.ofChange checksSpec)) checksCard

/-- THE TIED CARD OF 'depotlaw.Solves'. -/
def solvesCard : Claim7 := { stood := { row := solvesRow, standIns := [], harness := (true, "f96eb95d656b072686a3674f76c7f0185ccca2468586facb0de462b350f8af1c"), looks := false }, kinds := [], alts := [], laidByText := true, laidKinds := [.data, .data, .data], laidTests := true, laidLooks := .later }
def SolvesCardSaid : Prop := Claim7.holds Tryz.pinned (.plain (OpenSpec.ofChange solvesSpec)) solvesCard

/-- THE TIED CARD OF 'depotkeep.Finished'. -/
def finishedCard : Claim7 := { stood := { row := finishedRow, standIns := [], harness := (true, "f96eb95d656b072686a3674f76c7f0185ccca2468586facb0de462b350f8af1c"), looks := false }, kinds := [], alts := [], laidByText := true, laidKinds := [.data, .data, .data], laidTests := true, laidLooks := .later }
def FinishedCardSaid : Prop := Claim7.holds Tryz.pinned (.plain (OpenSpec.ofChange finishedSpec)) finishedCard

/-- THE TIED CARD OF 'depotkeep.Budgets'. -/
def budgetsCard : Claim7 := { stood := { row := budgetsRow, standIns := [], harness := (true, "f96eb95d656b072686a3674f76c7f0185ccca2468586facb0de462b350f8af1c"), looks := false }, kinds := [], alts := [], laidByText := true, laidKinds := [.data, .data, .data], laidTests := true, laidLooks := .later }
def BudgetsCardSaid : Prop := Claim7.holds Tryz.pinned (.plain (OpenSpec.ofChange budgetsSpec)) budgetsCard

/-- THE TIED CARD OF 'depotlaw.All'. -/
def allCard : Claim7 := { stood := { row := allRow, standIns := [], harness := (true, "f96eb95d656b072686a3674f76c7f0185ccca2468586facb0de462b350f8af1c"), looks := false }, kinds := [], alts := [], laidByText := true, laidKinds := [.data, .data, .data], laidTests := true, laidLooks := .later }
def AllCardSaid : Prop := Claim7.holds Tryz.pinned (.plain (OpenSpec.ofChange allSpec)) allCard

/-- THE SECOND FORM's CARD OF 'depotlaw.Trees'. -/
def treesUptoCard : Claim7 := { stood := { row := treesUptoRow, standIns := [], harness := (true, "f96eb95d656b072686a3674f76c7f0185ccca2468586facb0de462b350f8af1c"), looks := false }, kinds := [], alts := [], laidByText := true, laidKinds := [.data, .data, .data], laidTests := true, laidLooks := .later }
def TreesUptoCardSaid : Prop := Claim7.holds Tryz.pinned (.plain (OpenSpec.upto treesSpec)) treesUptoCard

/-- THE SECOND FORM's CARD OF 'depotlaw.Checks'. -/
def checksUptoCard : Claim7 := { stood := { row := checksUptoRow, standIns := [], harness := (true, "f96eb95d656b072686a3674f76c7f0185ccca2468586facb0de462b350f8af1c"), looks := false }, kinds := [], alts := [], laidByText := true, laidKinds := [.data, .data, .data], laidTests := true, laidLooks := .later }
def ChecksUptoCardSaid : Prop := Claim7.holds Tryz.pinned (.plain (OpenSpec.upto checksSpec)) checksUptoCard

/-- THE SECOND FORM's CARD OF 'depotlaw.Solves'. -/
def solvesUptoCard : Claim7 := { stood := { row := solvesUptoRow, standIns := [], harness := (true, "f96eb95d656b072686a3674f76c7f0185ccca2468586facb0de462b350f8af1c"), looks := false }, kinds := [], alts := [], laidByText := true, laidKinds := [.data, .data, .data], laidTests := true, laidLooks := .later }
def SolvesUptoCardSaid : Prop := Claim7.holds Tryz.pinned (.plain (OpenSpec.upto solvesSpec)) solvesUptoCard

/-- THE SECOND FORM's CARD OF 'depotkeep.Finished'. -/
def finishedUptoCard : Claim7 := { stood := { row := finishedUptoRow, standIns := [], harness := (true, "f96eb95d656b072686a3674f76c7f0185ccca2468586facb0de462b350f8af1c"), looks := false }, kinds := [], alts := [], laidByText := true, laidKinds := [.data, .data, .data], laidTests := true, laidLooks := .later }
def FinishedUptoCardSaid : Prop := Claim7.holds Tryz.pinned (.plain (OpenSpec.upto finishedSpec)) finishedUptoCard

/-- THE SECOND FORM's CARD OF 'depotkeep.Budgets'. -/
def budgetsUptoCard : Claim7 := { stood := { row := budgetsUptoRow, standIns := [], harness := (true, "f96eb95d656b072686a3674f76c7f0185ccca2468586facb0de462b350f8af1c"), looks := false }, kinds := [], alts := [], laidByText := true, laidKinds := [.data, .data, .data], laidTests := true, laidLooks := .later }
def BudgetsUptoCardSaid : Prop := Claim7.holds Tryz.pinned (.plain (OpenSpec.upto budgetsSpec)) budgetsUptoCard

/-- THE SECOND FORM's CARD OF 'depotlaw.All'. -/
def allUptoCard : Claim7 := { stood := { row := allUptoRow, standIns := [], harness := (true, "f96eb95d656b072686a3674f76c7f0185ccca2468586facb0de462b350f8af1c"), looks := false }, kinds := [], alts := [], laidByText := true, laidKinds := [.data, .data, .data], laidTests := true, laidLooks := .later }
def AllUptoCardSaid : Prop := Claim7.holds Tryz.pinned (.plain (OpenSpec.upto allSpec)) allUptoCard
end Rows
end Go.Proofs.YtebinaopncclgabGreatDoor
