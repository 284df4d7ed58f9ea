/- Walks of the document's answer: a text is split, a line's words. -/
import Derived.Test.YtebinaopncclgabGreatDoorSplit
import Derived.Test.YtebinaopncclgabGreatDoorRefP
import Derived.Test.YtebinaopncclgabGreatDoorFrame
namespace Go.Proofs.YtebinaopncclgabGreatDoor
open Go.RowKit Go.IntWalk

/- a text of digits; its value -/
theorem ne_void (s : ByteArray) : (!s.toList.isEmpty) = decide (1 ≤ s.size) := by
  rw [← decide_eq_emptyBytes]
  by_cases h : s = ByteArray.empty
  · subst h; rfl
  · have : 1 ≤ s.size := by
      rcases Nat.eq_zero_or_pos s.size with h0 | h0
      · exact absurd (ByteArray.size_eq_zero_iff.1 h0) h
      · exact h0
    simp [h, this]
end Go.Proofs.YtebinaopncclgabGreatDoor
