/- Walks: is another arc forced? -/
import Derived.Test.YtebinaopncclgabGreatDoorCArc
namespace Go.Proofs.YtebinaopncclgabGreatDoor
open Go.RowKit Go.IntWalk

/- another arc out of the stop a, or into the stop b, is forced -/
def feAt (T : Nat → Nat → Int) (a b c : Nat) : Prop := (a ≠ 0 ∧ c ≠ b ∧ T a c = 1) ∨ (b ≠ 0 ∧ c ≠ a ∧ T c b = 1)
instance (T : Nat → Nat → Int) (a b c : Nat) : Decidable (feAt T a b c) := by unfold feAt; infer_instance
end Go.Proofs.YtebinaopncclgabGreatDoor
