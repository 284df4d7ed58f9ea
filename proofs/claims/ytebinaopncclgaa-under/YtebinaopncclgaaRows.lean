/-
  No cell of these rows narrows 'for every input' (looked for: loops, veiled, ifaces, maps, wideKeys, modest, calm, conditions, laid).
  DERIVED. THE GIVEN ROWS OF THIS SEAT. 4 by the template 'for every input the law returns true; each argument reads behind the call as it read before'; 0 by the template 'total and deterministic' (their statements: YtebinaopncclgaaTotals.lean).
  GIVEN WITH THE SEED: the statements are not yours to turn. If you find one false, say at which input.
  Laid BY PROGRAM, IN A SANDBOX (cutbox-rows.mjs): the forced cells as the released guide's own fill.sh prints them over the translation d40c0497feada2b7… (all of the seat's roots in one cut). By AI agents, Wed Nov 11 2026. No macro, syntax, notation, axiom, sorry.
-/
import Derived.Test.YtebinaopncclgaaChecked
import GoSem.Claim
import GoSem.ClaimJoined
import GoSem.ClaimMapViews
import Derived.JoinedTies
import Derived.KernelRfl
namespace Go.Proofs.Ytebinaopncclgaa
/- THE CELL 'sum', in the pinned program and in every row, IS THE sha256 OF THE DUMP (.gsa) THAT YtebinaopncclgaaProg.lean LOADS. Nothing in Lean hashes anything: it is a label: what it is worth is what the hold of that sum in a sandbox is worth. -/
noncomputable def Try.pinned : Pinned := { name := "ytebinaopncclgaa", sum := "d40c0497feada2b765b387a0ae2831e3626086e86d4fba0fcc027282f0a448d5", checked := Try.checked }
namespace Rows
def none {H : Type} : Left H := { results := [], args := [] }

/-- 'depotkeep.Added': WHATEVER THE INPUT: true; the input reads as it did. -/
def addedSpec : ChangeSpec := { name := "added", fn := fun _ => fun
  | [d1, d2, d3, d4] => { results := [.lit (.bool true)], args := [d1, d2, d3, d4] }
  | _ => none }
def addedRow : OpenClaim := { program := "ytebinaopncclgaa", sum := "d40c0497feada2b765b387a0ae2831e3626086e86d4fba0fcc027282f0a448d5", func := "depot/depotkeep.Added", spec := "added", apart := false }
def AddedSaid : Prop := addedRow.holds Try.pinned (OpenSpec.ofChange addedSpec)

/-- ITS FALSE NEIGHBOUR: 'it returns false'. Refute it at one input. -/
def addedWrong : ChangeSpec := { name := "added", fn := fun _ => fun
  | [d1, d2, d3, d4] => { results := [.lit (.bool false)], args := [d1, d2, d3, d4] }
  | _ => none }
def AddedWrongFalsely : Prop := addedRow.holds Try.pinned (OpenSpec.ofChange addedWrong)

/-- 'depotkeep.Driven': WHATEVER THE INPUT: true; the input reads as it did. -/
def drivenSpec : ChangeSpec := { name := "driven", fn := fun _ => fun
  | [d1, d2] => { results := [.lit (.bool true)], args := [d1, d2] }
  | _ => none }
def drivenRow : OpenClaim := { program := "ytebinaopncclgaa", sum := "d40c0497feada2b765b387a0ae2831e3626086e86d4fba0fcc027282f0a448d5", func := "depot/depotkeep.Driven", spec := "driven", apart := false }
def DrivenSaid : Prop := drivenRow.holds Try.pinned (OpenSpec.ofChange drivenSpec)

/-- ITS FALSE NEIGHBOUR: 'it returns false'. Refute it at one input. -/
def drivenWrong : ChangeSpec := { name := "driven", fn := fun _ => fun
  | [d1, d2] => { results := [.lit (.bool false)], args := [d1, d2] }
  | _ => none }
def DrivenWrongFalsely : Prop := drivenRow.holds Try.pinned (OpenSpec.ofChange drivenWrong)

/-- 'depotkeep.Proved': WHATEVER THE INPUT: true; the input reads as it did. -/
def provedSpec : ChangeSpec := { name := "proved", fn := fun _ => fun
  | [d] => { results := [.lit (.bool true)], args := [d] }
  | _ => none }
def provedRow : OpenClaim := { program := "ytebinaopncclgaa", sum := "d40c0497feada2b765b387a0ae2831e3626086e86d4fba0fcc027282f0a448d5", func := "depot/depotkeep.Proved", spec := "proved", apart := false }
def ProvedSaid : Prop := provedRow.holds Try.pinned (OpenSpec.ofChange provedSpec)

/-- ITS FALSE NEIGHBOUR: 'it returns false'. Refute it at one input. -/
def provedWrong : ChangeSpec := { name := "proved", fn := fun _ => fun
  | [d] => { results := [.lit (.bool false)], args := [d] }
  | _ => none }
def ProvedWrongFalsely : Prop := provedRow.holds Try.pinned (OpenSpec.ofChange provedWrong)

/-- 'depotkeep.Under': WHATEVER THE INPUT: true; the input reads as it did. -/
def underSpec : ChangeSpec := { name := "under", fn := fun _ => fun
  | [d1, d2, d3, d4] => { results := [.lit (.bool true)], args := [d1, d2, d3, d4] }
  | _ => none }
def underRow : OpenClaim := { program := "ytebinaopncclgaa", sum := "d40c0497feada2b765b387a0ae2831e3626086e86d4fba0fcc027282f0a448d5", func := "depot/depotkeep.Under", spec := "under", apart := false }
def UnderSaid : Prop := underRow.holds Try.pinned (OpenSpec.ofChange underSpec)

/-- ITS FALSE NEIGHBOUR: 'it returns false'. Refute it at one input. -/
def underWrong : ChangeSpec := { name := "under", fn := fun _ => fun
  | [d1, d2, d3, d4] => { results := [.lit (.bool false)], args := [d1, d2, d3, d4] }
  | _ => none }
def UnderWrongFalsely : Prop := underRow.holds Try.pinned (OpenSpec.ofChange underWrong)

/- THE SECOND FORM. 'bulk': how many values and letters a reading holds, each counted each time it is reached (what is shared counts as often as it is met; a slice's spare places count too). A statement '..UptoSaid' is the law's where the arguments, and the package variables that the reading takes, are together of bulk at most 1048576: NARROWER than '..Said'. Prove '..Said' where nothing that the law and all that it calls make is longer than what came in: it says more and counts as full. Else prove '..UptoSaid'. A law counts once. -/
mutual
def uptoBulk {H : Type} : DataW H → Nat
  | .lit (.string bytes) => bytes.length + 1
  | .lit _ => 1
  | .nil => 1
  | .ptr d => uptoBulk d + 1
  | .slice elems spare => uptoBulkAll elems + uptoBulkAll spare + 1
  | .agg parts => uptoBulkAll parts + 1
  | .iface _ d => uptoBulk d + 1
  | .map entries => uptoBulkEntries entries + 1
  | .held _ => 1
def uptoBulkAll {H : Type} : List (DataW H) → Nat
  | [] => 0
  | d :: r => uptoBulk d + uptoBulkAll r
def uptoBulkEntries {H : Type} : List (Lit × DataW H) → Nat
  | [] => 0
  | x :: r => uptoBulkEntry x + uptoBulkEntries r
def uptoBulkEntry {H : Type} : Lit × DataW H → Nat
  | (.string bytes, d) => bytes.length + uptoBulk d + 1
  | (_, d) => uptoBulk d + 1
 end
def uptoSmall : (H : Type) → List (DataW H) → Bool := fun _ ds => decide (uptoBulkAll ds ≤ 1048576)
def OpenSpec.upto (s : _root_.Go.ChangeSpec) : _root_.Go.OpenSpec := { _root_.Go.OpenSpec.ofChange s with cond := some uptoSmall }

/-- 'depotkeep.Added', WHERE WHAT IT READS IS OF BULK AT MOST 1048576: true; the input reads as it did. -/
def addedUptoRow : OpenClaim := { program := "ytebinaopncclgaa", sum := "d40c0497feada2b765b387a0ae2831e3626086e86d4fba0fcc027282f0a448d5", func := "depot/depotkeep.Added", spec := "added", apart := false, narrowed := true }
def AddedUptoSaid : Prop := addedUptoRow.holds Try.pinned (OpenSpec.upto addedSpec)

/-- 'depotkeep.Driven', WHERE WHAT IT READS IS OF BULK AT MOST 1048576: true; the input reads as it did. -/
def drivenUptoRow : OpenClaim := { program := "ytebinaopncclgaa", sum := "d40c0497feada2b765b387a0ae2831e3626086e86d4fba0fcc027282f0a448d5", func := "depot/depotkeep.Driven", spec := "driven", apart := false, narrowed := true }
def DrivenUptoSaid : Prop := drivenUptoRow.holds Try.pinned (OpenSpec.upto drivenSpec)

/-- 'depotkeep.Proved', WHERE WHAT IT READS IS OF BULK AT MOST 1048576: true; the input reads as it did. -/
def provedUptoRow : OpenClaim := { program := "ytebinaopncclgaa", sum := "d40c0497feada2b765b387a0ae2831e3626086e86d4fba0fcc027282f0a448d5", func := "depot/depotkeep.Proved", spec := "proved", apart := false, narrowed := true }
def ProvedUptoSaid : Prop := provedUptoRow.holds Try.pinned (OpenSpec.upto provedSpec)

/-- 'depotkeep.Under', WHERE WHAT IT READS IS OF BULK AT MOST 1048576: true; the input reads as it did. -/
def underUptoRow : OpenClaim := { program := "ytebinaopncclgaa", sum := "d40c0497feada2b765b387a0ae2831e3626086e86d4fba0fcc027282f0a448d5", func := "depot/depotkeep.Under", spec := "under", apart := false, narrowed := true }
def UnderUptoSaid : Prop := underUptoRow.holds Try.pinned (OpenSpec.upto underSpec)

end Rows
end Go.Proofs.Ytebinaopncclgaa
