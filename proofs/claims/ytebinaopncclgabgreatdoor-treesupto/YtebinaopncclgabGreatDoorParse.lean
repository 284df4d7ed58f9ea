/- Walks: a text is parsed. -/
import Derived.Test.YtebinaopncclgabGreatDoorBase
import Derived.Test.YtebinaopncclgabGreatDoorSplit
import Derived.Test.YtebinaopncclgabGreatDoorNums
import Derived.Test.YtebinaopncclgabGreatDoorPlainC
import Derived.Test.YtebinaopncclgabGreatDoorFrame
import Derived.WalkKit
import Derived.Deep.RegionLaw
import Derived.Deep.RegionWith
namespace Go.Proofs.YtebinaopncclgabGreatDoor
open Go.RowKit Go.IntWalk

/- stores into the reader's own block -/
def Puts (B rb : Nat) (w w' : World) (cs : Array Value) : Prop := w'.heap[rb]? = some (.cells cs 147 (0, 0)) ∧ Below B w w' ∧ Keep [147] w w'
theorem Puts.refl {B rb : Nat} {w : World} {cs : Array Value} (h : w.heap[rb]? = some (.cells cs 147 (0, 0))) : Puts B rb w w cs := ⟨h, Below.refl _ _, Keep.refl _ _⟩
theorem Puts.put {B rb : Nat} {w w' : World} {cs : Array Value} (hB : B ≤ rb) (h : Puts B rb w w' cs) (o : Nat) (u : Value) : Puts B rb w (w'.setCell ⟨rb, o, none⟩ u) (cs.setIfInBounds o u) :=
  ⟨heap_setCell_same w' rb o cs _ u h.1, h.2.1.setCell hB u, h.2.2.trans (Keep.setCell h.1 (by simp) u)⟩

end Go.Proofs.YtebinaopncclgabGreatDoor
namespace Go.Proofs.YtebinaopncclgabGreatDoor
open Go.RowKit Go.IntWalk
theorem news_at {w X : World} {cs : Array Value} {t : TypeId} {l : List Value} (hl : l = cs.toList) (hh : X.heap = (w.alloc (.cells cs t)).heap) : ∀ j u, l[j]? = some u → X.cell? ((⟨w.heap.size, 0, none⟩ : Addr).add j) = some u := by
  intro j u hu
  subst hl
  rw [Addr.add_lit, Nat.zero_add, cell_of_row X w.heap.size j cs t (0, 0) (by rw [hh]; exact heap_alloc_new w _)]
  simpa using hu
end Go.Proofs.YtebinaopncclgabGreatDoor
namespace Go.Proofs.YtebinaopncclgabGreatDoor
open Go.RowKit Go.IntWalk

def zero7 : Array Value := #[.int .i64 0, .int .i64 0, .int .i64 0, .int .i64 0, .int .i64 0, .slice none 0 0, .slice none 0 0]
end Go.Proofs.YtebinaopncclgabGreatDoor
