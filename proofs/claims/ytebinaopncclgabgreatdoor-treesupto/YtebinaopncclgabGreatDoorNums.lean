/- Walks: the numbers of some fields. -/
import Derived.Test.YtebinaopncclgabGreatDoorBase
import Derived.Test.YtebinaopncclgabGreatDoorPlainB
namespace Go.Proofs.YtebinaopncclgabGreatDoor
open Go.RowKit Go.IntWalk

def ints (zs : List Int) : List Value := zs.map (Value.int .i64)
theorem Tryz.infoInt : (Tryz.prog.info? 3).map (fun i => (i.zero, i.size, i.bytes)) = some (some (.int .i64 0), 1, 8) := by kernel_rfl
end Go.Proofs.YtebinaopncclgabGreatDoor
