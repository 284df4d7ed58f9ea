/- Plain: a match of the cells is a tour; a tour that no chain blocks is a plan. No program in sight. -/
import Derived.Test.YtebinaopncclgabGreatDoorQCell
namespace Go.Proofs.YtebinaopncclgabGreatDoor

/- from a site on to the depot -/
inductive PathQ (bh : Nat → Nat) : Nat → List Nat → Prop
  | home : PathQ bh 0 []
  | next {x : Nat} {d : List Nat} : x ≠ 0 → PathQ bh (bh x) d → PathQ bh x (bh x :: d)
theorem PathQ.one {bh : Nat → Nat} {x : Nat} {d : List Nat} (h : PathQ bh x d) : ∀ {e : List Nat}, PathQ bh x e → d = e := by
  induction h with
  | home => intro e he; cases he with
    | home => rfl
    | next h0 _ => exact absurd rfl h0
  | next h0 _ ih => intro e he; cases he with
    | home => exact absurd rfl h0
    | next _ h2 => rw [ih h2]
end Go.Proofs.YtebinaopncclgabGreatDoor
