/- Plain mathematics of the document's answer: splitting. No program in sight. -/
import Derived.Test.YtebinaopncclgabGreatDoorPlainC
namespace Go.Proofs.YtebinaopncclgabGreatDoor
open Go.RowKit

def cuP (c : UInt8) (l : List UInt8) (k : Nat) : List (List UInt8) := (spl c (l.take k)).1
def cuC (c : UInt8) (l : List UInt8) (k : Nat) : List UInt8 := (spl c (l.take k)).2
theorem cu_hit {c : UInt8} {l : List UInt8} {k : Nat} (h : k < l.length) (hc : l[k] = c) : cuP c l (k + 1) = cuP c l k ++ [cuC c l k] ∧ cuC c l (k + 1) = [] := by
  unfold cuP cuC; rw [take_snoc' h, spl_snoc, stepL, if_pos hc]; exact ⟨rfl, rfl⟩
theorem cu_miss {c : UInt8} {l : List UInt8} {k : Nat} (h : k < l.length) (hc : l[k] ≠ c) : cuP c l (k + 1) = cuP c l k ∧ cuC c l (k + 1) = cuC c l k ++ [l[k]] := by
  unfold cuP cuC; rw [take_snoc' h, spl_snoc, stepL, if_neg hc]; exact ⟨rfl, rfl⟩
theorem cu_end {c : UInt8} {l : List UInt8} {k : Nat} (h : l.length ≤ k) : splitB c l = cuP c l k ++ [cuC c l k] := by
  unfold cuP cuC; rw [List.take_of_length_le h]; rfl

theorem hid {p : Prop} (h : p) : Hid p := h

/- the words of a line: the pieces that are not empty -/
def full (l : List (List UInt8)) : List (List UInt8) := l.filter fun x => !x.isEmpty
end Go.Proofs.YtebinaopncclgabGreatDoor
