/- A ground in its box. -/
import Derived.Test.YtebinaopncclgabGreatDoorOnZ
namespace Go.Proofs.YtebinaopncclgabGreatDoor
open Go.RowKit Go.IntWalk

/- a ground in its box -/
theorem ground_box {w W : World} {r : Rd} {vs vr vw : Value} (h : W = w.alloc (.cells (ground r vs vr vw) 109)) :
    Below w.heap.size w W ∧ w.heap.size < W.heap.size ∧ W.cell? ⟨w.heap.size, 0, none⟩ = some (.int .i64 r.vans) ∧ W.cell? ⟨w.heap.size, 1, none⟩ = some (.int .i64 r.load) ∧ W.cell? ⟨w.heap.size, 2, none⟩ = some (.int .i64 r.close) ∧ W.cell? ⟨w.heap.size, 3, none⟩ = some (.int .i64 r.nodes) ∧ W.cell? ⟨w.heap.size, 4, none⟩ = some (.int .i64 r.home) ∧ W.cell? ⟨w.heap.size, 5, none⟩ = some vs ∧ W.cell? ⟨w.heap.size, 6, none⟩ = some vr ∧ W.cell? ⟨w.heap.size, 7, none⟩ = some vw := by
  subst h
  have hb := heap_alloc_new w (.cells (ground r vs vr vw) 109)
  refine ⟨below1 w _, by simp, ?_, ?_, ?_, ?_, ?_, ?_, ?_, ?_⟩ <;> (rw [cell_of_row _ _ _ _ _ _ hb]; rfl)
end Go.Proofs.YtebinaopncclgabGreatDoor
