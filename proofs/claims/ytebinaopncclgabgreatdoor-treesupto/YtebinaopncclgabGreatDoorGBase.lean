/- Walks: lists of numbers that a ground looks at. -/
import Derived.Test.YtebinaopncclgabGreatDoorTRead
import Derived.Test.YtebinaopncclgabGreatDoorQCell
import Derived.BigQuiet
namespace Go.Proofs.YtebinaopncclgabGreatDoor
open Go.RowKit Go.IntWalk

theorem below_dn {B : Nat} {w w' : World} (h : Below B w w') (m : Nat) : Below B w (w'.drewN m) := ⟨h.os, h.tape, h.output, h.size, h.block⟩
def ListR (w : World) (v : Value) (zs : List Int) : Prop :=
  ∃ ao c, v = .slice ao zs.length c ∧ ∀ j, j < zs.length → ∃ g, ao = some ⟨g, 0, none⟩ ∧ g < w.heap.size ∧ w.cell? ⟨g, j, none⟩ = some (.int .i64 (zs.getD j 0))
theorem ListR.below {w w' : World} {v : Value} {zs : List Int} (h : ListR w v zs) (hb : Below w.heap.size w w') : ListR w' v zs := by
  obtain ⟨ao, c, rfl, h⟩ := h
  refine ⟨ao, c, rfl, fun j hj => ?_⟩
  obtain ⟨g, h1, h2, h3⟩ := h j hj
  exact ⟨g, h1, Nat.lt_of_lt_of_le h2 hb.size, (hb.cell h2).trans h3⟩
theorem ListR.own {w : World} {B : Nat} {v : Value} {zs : List Int} (h : w.ownsRow B 3 1 v zs.length (ints zs)) : ListR w v zs := by
  obtain ⟨ao, c, rfl, h1, h2⟩ := own_val h
  refine ⟨ao, c, rfl, fun j hj => ?_⟩
  cases ao with
  | none => exact absurd (h2 rfl) (by omega)
  | some a =>
    obtain ⟨g, rfl, _, hg⟩ := h1 a rfl
    refine ⟨g, rfl, hg, ?_⟩
    rw [h.cellAt j (by omega)]
    simp [ints, List.getD_eq_getElem?_getD, List.getElem?_eq_getElem hj]
theorem getD_mem {zs : List Int} {j : Nat} (h : j < zs.length) : zs.getD j 0 ∈ zs := by
  rw [List.getD_eq_getElem?_getD, List.getElem?_eq_getElem h, Option.getD_some]; exact List.getElem_mem h
end Go.Proofs.YtebinaopncclgabGreatDoor
