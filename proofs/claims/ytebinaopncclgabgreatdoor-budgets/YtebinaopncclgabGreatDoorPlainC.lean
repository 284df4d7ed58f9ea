/- Plain mathematics of the seat: the reader of an instance. No program in sight. -/
import Derived.Test.YtebinaopncclgabGreatDoorBase
import Derived.Test.YtebinaopncclgabGreatDoorPlainB
namespace Go.Proofs.YtebinaopncclgabGreatDoor
open Go.RowKit

structure Rd where
  vans : Int
  load : Int
  close : Int
  nodes : Int
  home : Int
  stops : List (List Int)
  roads : List (List Int)
  head : Bool
def Rd0 : Rd := { vans := 0, load := 0, close := 0, nodes := 0, home := 0, stops := [], roads := [], head := false }

def rdDepot (r : Rd) (a b c d e : Int) : Rd × Int :=
  if r.head = true then (r, 2) else if headOk a b c d e = true then ({ vans := a, load := b, close := c, nodes := d, home := e, stops := [], roads := [], head := true }, 0) else (r, 4)
def rdStop (r : Rd) (a b c d e : Int) : Rd × Int :=
  if r.head = false then (r, 2) else if 7 ≤ r.stops.length then (r, 3) else if stopOk a b c d e r.nodes = true then ({ r with stops := r.stops ++ [[a, b, c, d, e]] }, 0) else (r, 4)
def rdRoad (r : Rd) (a b c : Int) : Rd × Int :=
  if r.head = false then (r, 2) else if 40 ≤ r.roads.length then (r, 3) else if roadOk a b c r.nodes = true then ({ r with roads := r.roads ++ [[a, b, c]] }, 0) else (r, 4)
def rdVals (r : Rd) (f : List UInt8) (vs : List Int) : Rd × Int :=
  if f = [68] then (match vs with | [a, b, c, d, e] => rdDepot r a b c d e | _ => (r, 2))
  else if f = [83] then (match vs with | [a, b, c, d, e] => rdStop r a b c d e | _ => (r, 2))
  else if f = [82] then (match vs with | [a, b, c] => rdRoad r a b c | _ => (r, 2))
  else (r, 2)
def rdLine (r : Rd) (l : List UInt8) : Rd × Int :=
  match flds l with
  | [] => (r, 0)
  | f :: fs => if fs.all numOk = true then rdVals r f (fs.map numV) else (r, 2)
def rdGo (r : Rd) (i : Nat) : List (List UInt8) → Rd × Nat × Int
  | [] => (r, 0, 0)
  | l :: t => if (rdLine r l).2 = 0 then rdGo (rdLine r l).1 (i + 1) t else (Rd0, i + 1, (rdLine r l).2)
def parseS (l : List UInt8) : Rd × Nat × Int :=
  if 2000 < l.length then (Rd0, 0, 1) else
  if (rdGo Rd0 0 (splitB 10 l)).2.2 = 0 then (if (rdGo Rd0 0 (splitB 10 l)).1.head = true then ((rdGo Rd0 0 (splitB 10 l)).1, 0, 0) else (Rd0, (splitB 10 l).length, 2))
  else (Rd0, (rdGo Rd0 0 (splitB 10 l)).2.1, (rdGo Rd0 0 (splitB 10 l)).2.2)
end Go.Proofs.YtebinaopncclgabGreatDoor
