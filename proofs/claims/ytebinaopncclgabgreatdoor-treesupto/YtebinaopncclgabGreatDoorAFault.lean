/- Walks: what is wrong with a square that came in: the program's answer and the document's. -/
import Derived.Test.YtebinaopncclgabGreatDoorAMatch
import Derived.Test.YtebinaopncclgabGreatDoorAShort
namespace Go.Proofs.YtebinaopncclgabGreatDoor
open Go.RowKit Go.IntWalk

/- rows that came in: lists of lists -/
def LRowsZ (w : World) (ao : Option Addr) (n : Nat) (ra : Nat → Option Addr) (rn rc : Nat → Nat) (Q : Nat → Nat → Int) : Prop :=
  0 < n → ∃ b o, ao = some ⟨b, o, none⟩ ∧ b < w.heap.size ∧ ∀ i, i < n → w.cell? ⟨b, o + i, none⟩ = some (.slice (ra i) (rn i) (rc i)) ∧ rn i ≤ 9223372036854775807 ∧ (0 < rn i → ∃ b' o', ra i = some ⟨b', o', none⟩ ∧ b' < w.heap.size ∧ ∀ j, j < rn i → w.cell? ⟨b', o' + j, none⟩ = some (.int .i64 (Q i j)) ∧ -9223372036854775808 ≤ Q i j ∧ Q i j ≤ 9223372036854775807)
theorem LRowsZ.below {w w' : World} {ao : Option Addr} {n : Nat} {ra : Nat → Option Addr} {rn rc : Nat → Nat} {Q : Nat → Nat → Int} (h : LRowsZ w ao n ra rn rc Q) (hb : Below w.heap.size w w') : LRowsZ w' ao n ra rn rc Q := fun hn => by
  obtain ⟨b, o, h1, h2, h3⟩ := h hn
  refine ⟨b, o, h1, Nat.lt_of_lt_of_le h2 hb.size, fun i hi => ?_⟩
  obtain ⟨k1, k2, k3⟩ := h3 i hi
  refine ⟨(hb.cell (by exact h2)).trans k1, k2, fun hr => ?_⟩
  obtain ⟨b', o', m1, m2, m3⟩ := k3 hr
  exact ⟨b', o', m1, Nat.lt_of_lt_of_le m2 hb.size, fun j hj => ⟨(hb.cell (by exact m2)).trans (m3 j hj).1, (m3 j hj).2⟩⟩
end Go.Proofs.YtebinaopncclgabGreatDoor
