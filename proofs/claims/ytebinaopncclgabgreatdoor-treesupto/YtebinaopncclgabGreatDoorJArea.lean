/- Walks: a plan is judged. -/
import Derived.Test.YtebinaopncclgabGreatDoorJShape
namespace Go.Proofs.YtebinaopncclgabGreatDoor
open Go.RowKit Go.IntWalk

theorem StR.below {w w' : World} {v : Value} {r : Rd} (h : StR w v r) (hb : Below w.heap.size w w') : StR w' v r := by
  obtain ⟨ao, c, h1, h2⟩ := h
  refine ⟨ao, c, h1, fun i hi => ?_⟩
  obtain ⟨g, k1, k2, k3⟩ := h2 i hi
  exact ⟨g, k1, Nat.lt_of_lt_of_le k2 hb.size, fun j z hj hz => (hb.cell (by exact k2)).trans (k3 j z hj hz)⟩
/- an area, read -/
structure AreaAt (w : World) (p : Nat) (r : Rd) (D : Nat → Nat → Int) (vs vf : Value) : Prop where
  lt : p < w.heap.size
  c0 : w.cell? ⟨p, 0, none⟩ = some (.int .i64 r.vans)
  c1 : w.cell? ⟨p, 1, none⟩ = some (.int .i64 r.load)
  c2 : w.cell? ⟨p, 2, none⟩ = some (.int .i64 r.close)
  c5 : w.cell? ⟨p, 5, none⟩ = some vs
  c7 : w.cell? ⟨p, 7, none⟩ = some vf
  st : StR w vs r
  fr : SqR w vf (r.stops.length + 1) D
theorem AreaAt.below {w w' : World} {p : Nat} {r : Rd} {D : Nat → Nat → Int} {vs vf : Value} (h : AreaAt w p r D vs vf) (hb : Below w.heap.size w w') : AreaAt w' p r D vs vf :=
  ⟨Nat.lt_of_lt_of_le h.lt hb.size, (hb.cell (by exact h.lt)).trans h.c0, (hb.cell (by exact h.lt)).trans h.c1, (hb.cell (by exact h.lt)).trans h.c2, (hb.cell (by exact h.lt)).trans h.c5, (hb.cell (by exact h.lt)).trans h.c7, h.st.below hb, h.fr.below hb⟩
end Go.Proofs.YtebinaopncclgabGreatDoor
