/- Walks: rows that have too few columns. -/
import Derived.Test.YtebinaopncclgabGreatDoorABox
import Derived.Deep.AppendLies
namespace Go.Proofs.YtebinaopncclgabGreatDoor
open Go.RowKit Go.IntWalk

/- ten marks, in a block of their own -/
def BoolAt (w : World) (g : Nat) (S : Nat → Bool) : Prop := ∃ cs, w.heap[g]? = some (.cells cs 242 (0, 0)) ∧ ∀ i, i < 10 → cs[i]? = some (.bool (S i))
theorem BoolAt.lt {w : World} {g : Nat} {S : Nat → Bool} (h : BoolAt w g S) : g < w.heap.size := by obtain ⟨cs, hc, _⟩ := h; exact (Array.getElem?_eq_some_iff.1 hc).1
theorem BoolAt.cell {w : World} {g i : Nat} {S : Nat → Bool} (h : BoolAt w g S) (hi : i < 10) : w.cell? ⟨g, i, none⟩ = some (.bool (S i)) := by
  obtain ⟨cs, hc, hf⟩ := h
  rw [cell_of_row _ _ _ _ _ _ hc]; exact hf i hi
theorem BoolAt.block {w w' : World} {g : Nat} {S : Nat → Bool} (h : BoolAt w g S) (hb : w'.heap[g]? = w.heap[g]?) : BoolAt w' g S := by
  obtain ⟨cs, hc, h2⟩ := h; exact ⟨cs, hb.trans hc, h2⟩
theorem BoolAt.put {w : World} {g k : Nat} {S : Nat → Bool} (h : BoolAt w g S) (hk : k < 10) (x : Bool) : BoolAt (w.setCell ⟨g, k, none⟩ (.bool x)) g (up1 S k x) := by
  have h0 := h.cell hk
  obtain ⟨cs, hc, hf⟩ := id h
  have hb := heap_setCell_same w g k cs 242 (.bool x) hc
  refine ⟨_, hb, fun i hi => ?_⟩
  have h1 := net_cells hc h0 (.bool x) (h.cell hi)
  rw [cell_of_row _ _ _ _ _ _ hb] at h1
  rw [h1]
  unfold up1
  by_cases e : i = k
  · rw [if_pos e, if_pos e]
  · rw [if_neg e, if_neg e]
end Go.Proofs.YtebinaopncclgabGreatDoor
