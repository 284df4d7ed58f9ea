/- Plain: a plan picks a cell in each row and column; what bounds it; a tree that is checked. No program in sight. -/
import Derived.Test.YtebinaopncclgabGreatDoorAPlain
import Derived.Test.YtebinaopncclgabGreatDoorTPlain
import Derived.Test.YtebinaopncclgabGreatDoorCForce
import Derived.Test.YtebinaopncclgabGreatDoorCArc
namespace Go.Proofs.YtebinaopncclgabGreatDoor

/- where a node stands: the branches above it, the lowest first, and the side -/
abbrev PathT := List ((Nat × Nat) × Bool)
def tabP : PathT → Nat → Nat → Int
  | [] => fun _ _ => 0
  | p :: P => upd (tabP P) p.1.1 p.1.2 (if p.2 = true then 1 else 2)
end Go.Proofs.YtebinaopncclgabGreatDoor
