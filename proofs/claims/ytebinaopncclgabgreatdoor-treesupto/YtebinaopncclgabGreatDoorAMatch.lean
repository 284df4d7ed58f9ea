/- Walks: what the last table tells. -/
import Derived.Test.YtebinaopncclgabGreatDoorABox
namespace Go.Proofs.YtebinaopncclgabGreatDoor
open Go.RowKit Go.IntWalk

/- a row of numbers, in a block of its own -/
def RowAt (w : World) (g n : Nat) (f : Nat → Int) : Prop := ∃ cs, w.heap[g]? = some (.cells cs 3 (0, 0)) ∧ cs.size = n ∧ ∀ i, i < n → cs[i]? = some (.int .i64 (f i))
theorem RowAt.lt {w : World} {g n : Nat} {f : Nat → Int} (h : RowAt w g n f) : g < w.heap.size := by obtain ⟨cs, hc, _⟩ := h; exact (Array.getElem?_eq_some_iff.1 hc).1
theorem RowAt.cell {w : World} {g n i : Nat} {f : Nat → Int} (h : RowAt w g n f) (hi : i < n) : w.cell? ⟨g, i, none⟩ = some (.int .i64 (f i)) := by
  obtain ⟨cs, hc, _, hf⟩ := h
  rw [cell_of_row _ _ _ _ _ _ hc]; exact hf i hi
theorem RowAt.block {w w' : World} {g n : Nat} {f : Nat → Int} (h : RowAt w g n f) (hb : w'.heap[g]? = w.heap[g]?) : RowAt w' g n f := by
  obtain ⟨cs, hc, h2⟩ := h; exact ⟨cs, hb.trans hc, h2⟩
theorem RowAt.put {w : World} {g n k : Nat} {f : Nat → Int} (h : RowAt w g n f) (hk : k < n) (x : Int) : RowAt (w.setCell ⟨g, k, none⟩ (.int .i64 x)) g n (up1 f k x) := by
  have h0 := h.cell hk
  obtain ⟨cs, hc, hs, hf⟩ := id h
  have hb := heap_setCell_same w g k cs 3 (.int .i64 x) hc
  refine ⟨_, hb, by simpa using hs, fun i hi => ?_⟩
  have h1 := net_cells hc h0 (.int .i64 x) (h.cell hi)
  rw [cell_of_row _ _ _ _ _ _ hb] at h1
  rw [h1]
  unfold up1
  by_cases e : i = k
  · rw [if_pos e, if_pos e]
  · rw [if_neg e, if_neg e]

theorem RowAt.congr {w : World} {g n : Nat} {f f' : Nat → Int} (h : RowAt w g n f) (e : ∀ i, i < n → f i = f' i) : RowAt w g n f' := by
  obtain ⟨cs, h1, h2, h3⟩ := h
  exact ⟨cs, h1, h2, fun i hi => by rw [h3 i hi, e i hi]⟩
/- the answer while it is written -/
structure MSt (w wr : World) (n g1 g2 g3 b : Nat) (c : Int) (f1 f2 f3 : Nat → Int) : Prop where
  mb : wr.heap[b]? = some (.cells #[.bool true, .int .i64 (c), .slice (some ⟨g1, 0, none⟩) n n, .slice (some ⟨g2, 0, none⟩) n n, .slice (some ⟨g3, 0, none⟩) n n, .slice none 0 0] 125 (0, 0))
  r1 : RowAt wr g1 n f1
  r2 : RowAt wr g2 n f2
  r3 : RowAt wr g3 n f3
  rz : wr.heap[w.heap.size]? = some (.cells #[.bool false, .int .i64 0, .slice none 0 0, .slice none 0 0, .slice none 0 0, .slice none 0 0] 125 (0, 0))
  bel : Below w.heap.size w wr
theorem MSt.drew {w wr : World} {n g1 g2 g3 b : Nat} {c : Int} {f1 f2 f3 : Nat → Int} (h : MSt w wr n g1 g2 g3 b c f1 f2 f3) : MSt w wr.drew n g1 g2 g3 b c f1 f2 f3 := ⟨h.mb, h.r1.block rfl, h.r2.block rfl, h.r3.block rfl, h.rz, h.bel.drew⟩
theorem MSt.cells {w wr : World} {n g1 g2 g3 b : Nat} {c : Int} {f1 f2 f3 : Nat → Int} (h : MSt w wr n g1 g2 g3 b c f1 f2 f3) : b < wr.heap.size ∧ wr.cell? ⟨b, 0, none⟩ = some (.bool true) ∧ wr.cell? ⟨b, 1, none⟩ = some (.int .i64 c) ∧ wr.cell? ⟨b, 2, none⟩ = some (.slice (some ⟨g1, 0, none⟩) n n) ∧ wr.cell? ⟨b, 3, none⟩ = some (.slice (some ⟨g2, 0, none⟩) n n) ∧ wr.cell? ⟨b, 4, none⟩ = some (.slice (some ⟨g3, 0, none⟩) n n) ∧ wr.cell? ⟨b, 5, none⟩ = some (.slice none 0 0) ∧ wr.frozen? ⟨b, 1, none⟩ = false := by
  refine ⟨(Array.getElem?_eq_some_iff.1 h.mb).1, ?_, ?_, ?_, ?_, ?_, ?_, frozen_of_row wr b 1 _ _ h.mb⟩ <;> (rw [cell_of_row _ _ _ _ _ _ h.mb]; rfl)

end Go.Proofs.YtebinaopncclgabGreatDoor
