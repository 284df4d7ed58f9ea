/-
  DERIVED. GIVEN WITH THE SEED: THE CARDS: each row of YtebinaopncclgaaGreatDoorRows.lean that lists a variable, with what it lists TIED to the program's text (the seventh form; the later family's looks); each row that meets fmt, with fmt's text TOLD by the authors' own Lean function (tested against real Go, not proved from fmt's source: count such statements apart). THE CARD IS WHAT COUNTS. Prove the row's statement (the work); the ties are given (YtebinaopncclgaaGreatDoorTie.lean); close each card by the builder's one call (the guide's Derived/Test/ToyasCard.lean, 'card_holds'). Laid BY PROGRAM, IN A SANDBOX (cutbox-door.mjs). By AI agents, Wed Nov 11 2026. No macro, syntax, notation, axiom, sorry.
-/
import Derived.Test.YtebinaopncclgaaGreatDoorRows
import GoSem.ClaimSeven
namespace Go.Proofs.YtebinaopncclgaaGreatDoor
namespace Rows

/-- THE TIED CARD OF 'depotlaw.Parses'. -/
def parsesCard : Claim7 := { stood := { row := parsesRow, standIns := [], harness := (true, "01ad213098c9bf1d2d14522d131578c0441a30a459d3ec867b69f70bf546ac30"), looks := false }, kinds := [], alts := [], laidByText := true, laidKinds := [.data, .data, .data], laidTests := true, laidLooks := .later }
def ParsesCardSaid : Prop := Claim7.holds Tryz.pinned (.plain (OpenSpec.ofChange parsesSpec)) parsesCard

/-- THE TIED CARD OF 'depotlaw.Prints'. -/
def printsCard : Claim7 := { stood := { row := printsRow, standIns := [], harness := (true, "01ad213098c9bf1d2d14522d131578c0441a30a459d3ec867b69f70bf546ac30"), looks := false }, kinds := [], alts := [], laidByText := true, laidKinds := [.data, .data, .data], laidTests := true, laidLooks := .later }
def PrintsCardSaid : Prop := Claim7.holds Tryz.pinned (.plain (OpenSpec.ofChange printsSpec)) printsCard

/-- THE TIED CARD OF 'depotlaw.Lengths'. -/
def lengthsCard : Claim7 := { stood := { row := lengthsRow, standIns := [], harness := (true, "01ad213098c9bf1d2d14522d131578c0441a30a459d3ec867b69f70bf546ac30"), looks := false }, kinds := [], alts := [], laidByText := true, laidKinds := [.data, .data, .data], laidTests := true, laidLooks := .later }
def LengthsCardSaid : Prop := Claim7.holds Tryz.pinned (.plain (OpenSpec.ofChange lengthsSpec)) lengthsCard

/-- THE TIED CARD OF 'depotlaw.Judges'. -/
def judgesCard : Claim7 := { stood := { row := judgesRow, standIns := [], harness := (true, "01ad213098c9bf1d2d14522d131578c0441a30a459d3ec867b69f70bf546ac30"), looks := false }, kinds := [], alts := [], laidByText := true, laidKinds := [.data, .data, .data], laidTests := true, laidLooks := .later }
def JudgesCardSaid : Prop := Claim7.holds Tryz.pinned (.plain (OpenSpec.ofChange judgesSpec)) judgesCard

/-- THE TIED CARD OF 'depotlaw.Improves'. -/
def improvesCard : Claim7 := { stood := { row := improvesRow, standIns := [], harness := (true, "01ad213098c9bf1d2d14522d131578c0441a30a459d3ec867b69f70bf546ac30"), looks := false }, kinds := [], alts := [], laidByText := true, laidKinds := [.data, .data, .data], laidTests := true, laidLooks := .later }
def ImprovesCardSaid : Prop := Claim7.holds Tryz.pinned (.plain (OpenSpec.ofChange improvesSpec)) improvesCard

/-- THE TIED CARD OF 'depotlaw.Assigns'. -/
def assignsCard : Claim7 := { stood := { row := assignsRow, standIns := [], harness := (true, "01ad213098c9bf1d2d14522d131578c0441a30a459d3ec867b69f70bf546ac30"), looks := false }, kinds := [], alts := [], laidByText := true, laidKinds := [.data, .data, .data], laidTests := true, laidLooks := .later }
def AssignsCardSaid : Prop := Claim7.holds Tryz.pinned (.plain (OpenSpec.ofChange assignsSpec)) assignsCard

/-- THE TIED CARD OF 'depotlaw.Celled'. -/
def celledCard : Claim7 := { stood := { row := celledRow, standIns := [], harness := (true, "01ad213098c9bf1d2d14522d131578c0441a30a459d3ec867b69f70bf546ac30"), looks := false }, kinds := [], alts := [], laidByText := true, laidKinds := [.data, .data, .data], laidTests := true, laidLooks := .later }
def CelledCardSaid : Prop := Claim7.holds Tryz.pinned (.plain (OpenSpec.ofChange celledSpec)) celledCard

/-- THE SECOND FORM's CARD OF 'depotlaw.Parses'. -/
def parsesUptoCard : Claim7 := { stood := { row := parsesUptoRow, standIns := [], harness := (true, "01ad213098c9bf1d2d14522d131578c0441a30a459d3ec867b69f70bf546ac30"), looks := false }, kinds := [], alts := [], laidByText := true, laidKinds := [.data, .data, .data], laidTests := true, laidLooks := .later }
def ParsesUptoCardSaid : Prop := Claim7.holds Tryz.pinned (.plain (OpenSpec.upto parsesSpec)) parsesUptoCard

/-- THE SECOND FORM's CARD OF 'depotlaw.Prints'. -/
def printsUptoCard : Claim7 := { stood := { row := printsUptoRow, standIns := [], harness := (true, "01ad213098c9bf1d2d14522d131578c0441a30a459d3ec867b69f70bf546ac30"), looks := false }, kinds := [], alts := [], laidByText := true, laidKinds := [.data, .data, .data], laidTests := true, laidLooks := .later }
def PrintsUptoCardSaid : Prop := Claim7.holds Tryz.pinned (.plain (OpenSpec.upto printsSpec)) printsUptoCard

/-- THE SECOND FORM's CARD OF 'depotlaw.Lengths'. -/
def lengthsUptoCard : Claim7 := { stood := { row := lengthsUptoRow, standIns := [], harness := (true, "01ad213098c9bf1d2d14522d131578c0441a30a459d3ec867b69f70bf546ac30"), looks := false }, kinds := [], alts := [], laidByText := true, laidKinds := [.data, .data, .data], laidTests := true, laidLooks := .later }
def LengthsUptoCardSaid : Prop := Claim7.holds Tryz.pinned (.plain (OpenSpec.upto lengthsSpec)) lengthsUptoCard

/-- THE SECOND FORM's CARD OF 'depotlaw.Judges'. -/
def judgesUptoCard : Claim7 := { stood := { row := judgesUptoRow, standIns := [], harness := (true, "01ad213098c9bf1d2d14522d131578c0441a30a459d3ec867b69f70bf546ac30"), looks := false }, kinds := [], alts := [], laidByText := true, laidKinds := [.data, .data, .data], laidTests := true, laidLooks := .later }
def JudgesUptoCardSaid : Prop := Claim7.holds Tryz.pinned (.plain (OpenSpec.upto judgesSpec)) judgesUptoCard

/-- THE SECOND FORM's CARD OF 'depotlaw.Improves'. -/
def improvesUptoCard : Claim7 := { stood := { row := improvesUptoRow, standIns := [], harness := (true, "01ad213098c9bf1d2d14522d131578c0441a30a459d3ec867b69f70bf546ac30"), looks := false }, kinds := [], alts := [], laidByText := true, laidKinds := [.data, .data, .data], laidTests := true, laidLooks := .later }
def ImprovesUptoCardSaid : Prop := Claim7.holds Tryz.pinned (.plain (OpenSpec.upto improvesSpec)) improvesUptoCard

/-- THE SECOND FORM's CARD OF 'depotlaw.Assigns'. -/
def assignsUptoCard : Claim7 := { stood := { row := assignsUptoRow, standIns := [], harness := (true, "01ad213098c9bf1d2d14522d131578c0441a30a459d3ec867b69f70bf546ac30"), looks := false }, kinds := [], alts := [], laidByText := true, laidKinds := [.data, .data, .data], laidTests := true, laidLooks := .later }
def AssignsUptoCardSaid : Prop := Claim7.holds Tryz.pinned (.plain (OpenSpec.upto assignsSpec)) assignsUptoCard

/-- THE SECOND FORM's CARD OF 'depotlaw.Celled'. -/
def celledUptoCard : Claim7 := { stood := { row := celledUptoRow, standIns := [], harness := (true, "01ad213098c9bf1d2d14522d131578c0441a30a459d3ec867b69f70bf546ac30"), looks := false }, kinds := [], alts := [], laidByText := true, laidKinds := [.data, .data, .data], laidTests := true, laidLooks := .later }
def CelledUptoCardSaid : Prop := Claim7.holds Tryz.pinned (.plain (OpenSpec.upto celledSpec)) celledUptoCard
end Rows
end Go.Proofs.YtebinaopncclgaaGreatDoor
