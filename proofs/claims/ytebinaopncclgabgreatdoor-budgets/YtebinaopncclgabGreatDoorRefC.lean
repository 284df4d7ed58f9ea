/- Walks of the document's answer: the numbers of a line, and whether they may be. -/
import Derived.Test.YtebinaopncclgabGreatDoorRefA
import Derived.Test.YtebinaopncclgabGreatDoorNums
import Derived.Deep.RegionHeld3
namespace Go.Proofs.YtebinaopncclgabGreatDoor
open Go.RowKit Go.IntWalk

theorem own_int {w wr w1 : World} {B : Nat} {v v' : Value} {ps : List Int} {x : Int} (hB : B ≤ wr.heap.size) (hown : wr.ownsRow B 3 1 v ps.length (ints ps)) (hbel : Below B w wr)
    {o : Obj} (hown' : w1.ownsRow B 3 1 v' (ps.length + 1) (ints ps ++ [.int .i64 x])) (hgrow : (wr.alloc o).grownBy w1 v.ownBlock) :
    w1.ownsRow B 3 1 v' (ps ++ [x]).length (ints (ps ++ [x])) ∧ Below B w w1 := by
  refine ⟨by rw [List.length_append, show ints (ps ++ [x]) = ints ps ++ [.int .i64 x] from by simp [ints]]; exact hown', ?_⟩
  exact (hbel.alloc hB o).grown hgrow (by simp; omega) (fun k hk => (hown.lt k hk).1)
theorem i64_fits (x : Int) (h : -9223372036854775808 ≤ x ∧ x ≤ 9223372036854775807) : IntKind.i64.wrap x = x := by
  simp [IntKind.wrap, IntKind.bits, IntKind.signed]; omega
end Go.Proofs.YtebinaopncclgabGreatDoor
