
/- Plain: a hunt for a column, what holds along it. -/
namespace Go.Proofs.YtebinaopncclgabGreatDoor

def up1 {α : Type} (f : Nat → α) (i : Nat) (x : α) : Nat → α := fun j => if j = i then x else f j
/- spread: from a row, which is start away -/
def spC (n : Nat) (C : Nat → Nat → Int) (u v : Nat → Int) (row : Nat) (start : Int) (far : Nat → Int) (dn : Nat → Bool) (c : Nat) : Prop :=
  c < n ∧ dn c = false ∧ C row c ≠ -1 ∧ (far c = -1 ∨ start + C row c - u row - v c < far c)
instance (n : Nat) (C : Nat → Nat → Int) (u v : Nat → Int) (row : Nat) (start : Int) (far : Nat → Int) (dn : Nat → Bool) (c : Nat) : Decidable (spC n C u v row start far dn c) := by unfold spC; infer_instance
end Go.Proofs.YtebinaopncclgabGreatDoor
