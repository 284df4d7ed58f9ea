/- Plain mathematics of the seat: the reader of an instance. No program in sight. -/
import Derived.Test.YtebinaopncclgabGreatDoorBase
import Derived.Test.YtebinaopncclgabGreatDoorPlainB
namespace Go.Proofs.YtebinaopncclgabGreatDoor
open Go.RowKit

structure Rd where
  vans : Int
  load : Int
  close : Int
  nodes : Int
  home : Int
  stops : List (List Int)
  roads : List (List Int)
  head : Bool
end Go.Proofs.YtebinaopncclgabGreatDoor
