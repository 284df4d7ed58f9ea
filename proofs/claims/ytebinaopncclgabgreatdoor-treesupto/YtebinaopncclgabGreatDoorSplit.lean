/- Walks: a text's lines, a line's fields. -/
import Derived.Test.YtebinaopncclgabGreatDoorBase
import Derived.Test.YtebinaopncclgabGreatDoorPlainB
namespace Go.Proofs.YtebinaopncclgabGreatDoor
open Go.RowKit Go.IntWalk

theorem Tryz.infoStr : (Tryz.prog.info? 9).map (fun i => (i.zero, i.size, i.bytes)) = some (some (.string ByteArray.empty), 1, 16) := by kernel_rfl

/- What a round that appends one string does. -/
theorem own_str {w wr w1 : World} {B : Nat} {v v' : Value} {ps : List (List UInt8)} {x : List UInt8} (hB : B ≤ wr.heap.size) (hown : wr.ownsRow B 9 1 v ps.length (strs ps)) (hbel : Below B w wr)
    {o : Obj} (hown' : w1.ownsRow B 9 1 v' (ps.length + 1) (strs ps ++ [.string ⟨x.toArray⟩])) (hgrow : (wr.alloc o).grownBy w1 v.ownBlock) :
    w1.ownsRow B 9 1 v' (ps ++ [x]).length (strs (ps ++ [x])) ∧ Below B w w1 := by
  refine ⟨by rw [strs_append, List.length_append]; exact hown', ?_⟩
  exact (hbel.alloc hB o).grown hgrow (by simp; omega) (fun k hk => (hown.lt k hk).1)

end Go.Proofs.YtebinaopncclgabGreatDoor
