/- Walks of the statements: the same instance? (where it is) -/
import Derived.Test.YtebinaopncclgabGreatDoorRefC
import Derived.Test.YtebinaopncclgabGreatDoorParse
import Derived.Deep.RegionHeld3
namespace Go.Proofs.YtebinaopncclgabGreatDoor
open Go.RowKit Go.IntWalk

/- the words of a line, in memory -/
structure Words (w : World) (g : Nat) (f : List UInt8) (fs : List (List UInt8)) : Prop where
  lt : g < w.heap.size
  head : w.cell? ⟨g, 0, none⟩ = some (.string ⟨f.toArray⟩)
  rest : ∀ i (hi : i < fs.length), w.cell? ⟨g, i + 1, none⟩ = some (.string ⟨(fs[i]).toArray⟩)
theorem Words.below {w w' : World} {g : Nat} {f : List UInt8} {fs : List (List UInt8)} (h : Words w g f fs) (hb : Below w.heap.size w w') : Words w' g f fs :=
  ⟨Nat.lt_of_lt_of_le h.lt hb.size, by rw [hb.cell (by exact h.lt)]; exact h.head, fun i hi => by rw [hb.cell (by exact h.lt)]; exact h.rest i hi⟩

end Go.Proofs.YtebinaopncclgabGreatDoor
namespace Go.Proofs.YtebinaopncclgabGreatDoor
open Go.RowKit Go.IntWalk

def seven7 (r : Rd) (vs vr : Value) : Array Value := #[.int .i64 r.vans, .int .i64 r.load, .int .i64 r.close, .int .i64 r.nodes, .int .i64 r.home, vs, vr]
structure RfIs (w wr : World) (r : Rd) (vs vr : Value) : Prop where
  z : wr.heap[w.heap.size]? = some (.cells zero7 28 (0, 0))
  x : wr.heap[w.heap.size + 1]? = some (.cells (seven7 r vs vr) 28 (0, 0))
  s : wr.ownsRow w.heap.size 62 5 vs r.stops.length (ints r.stops.flatten)
  r : wr.ownsRow w.heap.size 64 3 vr r.roads.length (ints r.roads.flatten)
  b : Below w.heap.size w wr
theorem RfIs.below {w wr w2 : World} {r : Rd} {vs vr : Value} (h : RfIs w wr r vs vr) (hb : Below wr.heap.size wr w2) : RfIs w w2 r vs vr :=
  ⟨by rw [hb.block _ (Array.getElem?_eq_some_iff.1 h.z).1]; exact h.z, by rw [hb.block _ (Array.getElem?_eq_some_iff.1 h.x).1]; exact h.x, own_below h.s hb, own_below h.r hb, h.b.trans (hb.mono h.b.size)⟩
end Go.Proofs.YtebinaopncclgabGreatDoor
namespace Go.Proofs.YtebinaopncclgabGreatDoor
open Go.RowKit Go.IntWalk

/- a list of structs of numbers: its cells, of whatever address -/
def Lies (w : World) (ao : Option Addr) (n size : Nat) (S : Nat → Nat → Int) : Prop :=
  0 < n → ∃ b o, ao = some ⟨b, o, none⟩ ∧ b < w.heap.size ∧ ∀ i j, i < n → j < size → w.cell? ⟨b, o + i * size + j, none⟩ = some (.int .i64 (S i j))
theorem Lies.below {w w' : World} {ao : Option Addr} {n size : Nat} {S : Nat → Nat → Int} (h : Lies w ao n size S) (hb : Below w.heap.size w w') : Lies w' ao n size S := fun hn => by
  obtain ⟨b, o, h1, h2, h3⟩ := h hn
  exact ⟨b, o, h1, Nat.lt_of_lt_of_le h2 hb.size, fun i j hi hj => (hb.cell (by exact h2)).trans (h3 i j hi hj)⟩

end Go.Proofs.YtebinaopncclgabGreatDoor
