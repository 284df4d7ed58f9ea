/-
  DERIVED. GIVEN WITH THE SEED: THE CARDS: each row of YtebinaopncclgaaDoorRows.lean that lists a variable, with what it lists TIED to the program's text (the seventh form; the later family's looks); each row that meets fmt, with fmt's text TOLD by the authors' own Lean function (tested against real Go, not proved from fmt's source: count such statements apart). THE CARD IS WHAT COUNTS. Prove the row's statement (the work); the ties are given (YtebinaopncclgaaDoorTie.lean); close each card by the builder's one call (the guide's Derived/Test/ToyasCard.lean, 'card_holds'). Laid BY PROGRAM, IN A SANDBOX (cutbox-door.mjs). By AI agents, Wed Nov 11 2026. No macro, syntax, notation, axiom, sorry.
-/
import Derived.Test.YtebinaopncclgaaDoorRows
import GoSem.ClaimSeven
namespace Go.Proofs.YtebinaopncclgaaDoor
namespace Rows

/-- THE TIED CARD OF 'depotkeep.Loose'. -/
def looseCard : Claim7 := { stood := { row := looseRow, standIns := [], harness := (true, "48a62ef4ee57551edf176a0a0ad030e758e547df71666c97974c91cdd6454125"), looks := false }, kinds := [], alts := [], laidByText := true, laidKinds := [.data, .data, .data], laidTests := true, laidLooks := .later }
def LooseCardSaid : Prop := Claim7.holds Tryd.pinned (.plain (OpenSpec.ofChange looseSpec)) looseCard

/-- THE SECOND FORM's CARD OF 'depotkeep.Loose'. -/
def looseUptoCard : Claim7 := { stood := { row := looseUptoRow, standIns := [], harness := (true, "48a62ef4ee57551edf176a0a0ad030e758e547df71666c97974c91cdd6454125"), looks := false }, kinds := [], alts := [], laidByText := true, laidKinds := [.data, .data, .data], laidTests := true, laidLooks := .later }
def LooseUptoCardSaid : Prop := Claim7.holds Tryd.pinned (.plain (OpenSpec.upto looseSpec)) looseUptoCard
end Rows
end Go.Proofs.YtebinaopncclgaaDoor
