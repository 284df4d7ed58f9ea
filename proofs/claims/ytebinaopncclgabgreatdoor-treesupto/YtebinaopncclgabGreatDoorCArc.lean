/- Walks: arcs that are forced or barred. -/
import Derived.Test.YtebinaopncclgabGreatDoorWaysZ
import Derived.BigQuiet
namespace Go.Proofs.YtebinaopncclgabGreatDoor
open Go.RowKit Go.IntWalk

/- the arcs of an instance in memory, from the cell o of a box on: the ways, and what is said of each arc -/
structure ArcsAt (w : World) (p o : Nat) (r : Rd) (T : Nat → Nat → Int) (vf : Value) : Prop where
  box : ∃ cs ty, w.heap[p]? = some (.cells cs ty (0, 0))
  c0 : w.cell? ⟨p, o, none⟩ = some (.int .i64 r.vans)
  c1 : w.cell? ⟨p, o + 1, none⟩ = some vf
  said : ∀ a b, a < 8 → b < 8 → w.cell? ⟨p, o + 2 + a * 8 + b, none⟩ = some (.int .i64 (T a b))
theorem ArcsAt.lt {w : World} {p o : Nat} {r : Rd} {T : Nat → Nat → Int} {vf : Value} (h : ArcsAt w p o r T vf) : p < w.heap.size := by obtain ⟨cs, ty, hc⟩ := h.box; exact (Array.getElem?_eq_some_iff.1 hc).1
theorem ArcsAt.below {w w' : World} {p o : Nat} {r : Rd} {T : Nat → Nat → Int} {vf : Value} (h : ArcsAt w p o r T vf) (hb : Below w.heap.size w w') : ArcsAt w' p o r T vf := by
  have hl := h.lt
  obtain ⟨cs, ty, hc⟩ := h.box
  exact ⟨⟨cs, ty, by rw [hb.block _ hl]; exact hc⟩, (hb.cell (by exact hl)).trans h.c0, (hb.cell (by exact hl)).trans h.c1, fun a b ha hb' => (hb.cell (by exact hl)).trans (h.said a b ha hb')⟩
theorem ArcsAt.put {w : World} {p o a b : Nat} {r : Rd} {T : Nat → Nat → Int} {vf : Value} (h : ArcsAt w p o r T vf) (ha : a < 8) (hb : b < 8) (v : Int) : ArcsAt (w.setCell ⟨p, o + 2 + a * 8 + b, none⟩ (.int .i64 v)) p o r (upd T a b v) vf := by
  obtain ⟨⟨cs, ty, hc⟩, h0, h1, hF⟩ := h
  refine ⟨⟨_, _, heap_setCell_same w p _ _ _ _ hc⟩, ?_, ?_, fun x y hx hy => ?_⟩
  · rw [net_cells hc (hF a b ha hb) _ h0, if_neg (by omega)]
  · rw [net_cells hc (hF a b ha hb) _ h1, if_neg (by omega)]
  · rw [net_cells hc (hF a b ha hb) _ (hF x y hx hy)]
    unfold upd
    by_cases h : x = a ∧ y = b
    · rw [if_pos h, if_pos (by rw [h.1, h.2])]
    · rw [if_neg h, if_neg (by omega)]
theorem ArcsAt.other {w : World} {p o a b k : Nat} {r : Rd} {T : Nat → Nat → Int} {vf v : Value} (h : ArcsAt w p o r T vf) (ha : a < 8) (hb : b < 8) (u : Value) (hk : k < o ∨ o + 66 ≤ k) (hv : w.cell? ⟨p, k, none⟩ = some v) : (w.setCell ⟨p, o + 2 + a * 8 + b, none⟩ u).cell? ⟨p, k, none⟩ = some v := by
  obtain ⟨⟨cs, ty, hc⟩, h0, h1, hF⟩ := h
  rw [net_cells hc (hF a b ha hb) _ hv, if_neg (by omega)]
/- two numbers that are different sites -/
def isArcP (n : Nat) (x y : Int) : Prop := (0 ≤ x ∧ x < n + 1) ∧ (0 ≤ y ∧ y < n + 1) ∧ x ≠ y
instance (n : Nat) (x y : Int) : Decidable (isArcP n x y) := by unfold isArcP; infer_instance
end Go.Proofs.YtebinaopncclgabGreatDoor
