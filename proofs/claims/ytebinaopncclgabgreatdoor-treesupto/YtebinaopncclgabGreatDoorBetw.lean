/- Walks: the ways between the sites of an instance that may be. -/
import Derived.Test.YtebinaopncclgabGreatDoorBase
import Derived.Test.YtebinaopncclgabGreatDoorFrame
import Derived.Test.YtebinaopncclgabGreatDoorSameI
import Derived.Deep.RegionHeld3
import Derived.Test.YtebinaopncclgabGreatDoorPlay
import Derived.Test.YtebinaopncclgabGreatDoorPlainF
namespace Go.Proofs.YtebinaopncclgabGreatDoor
open Go.RowKit Go.IntWalk

/- nothing but the net has turned -/
structure Only (nb : Nat) (w w' : World) : Prop where
  os : w'.os = w.os
  tape : w'.tape = w.tape
  output : w'.output = w.output
  size : w'.heap.size = w.heap.size
  block : ∀ k, k ≠ nb → w'.heap[k]? = w.heap[k]?
theorem Only.refl (nb : Nat) (w : World) : Only nb w w := ⟨rfl, rfl, rfl, rfl, fun _ _ => rfl⟩
theorem Only.trans {nb : Nat} {a b c : World} (h : Only nb a b) (k : Only nb b c) : Only nb a c := ⟨k.os.trans h.os, k.tape.trans h.tape, k.output.trans h.output, k.size.trans h.size, fun i hi => (k.block i hi).trans (h.block i hi)⟩
theorem Only.drew {nb : Nat} {a b : World} (h : Only nb a b) : Only nb a b.drew := ⟨h.os, h.tape, h.output, h.size, h.block⟩
theorem Only.setCell {nb : Nat} {a b : World} (h : Only nb a b) (o : Nat) (u : Value) : Only nb a (b.setCell ⟨nb, o, none⟩ u) :=
  h.trans ⟨rfl, rfl, rfl, by simp [World.setCell], fun k hk => Below.heap_setCell _ _ _ _ hk⟩
theorem Only.below {nb B : Nat} {w w' : World} (h : Only nb w w') (hB : B ≤ nb) : Below B w w' := ⟨h.os, h.tape, h.output, by rw [h.size]; exact Nat.le_refl _, fun k hk => h.block k (by omega)⟩
def upd (F : Nat → Nat → Int) (a b : Nat) (v : Int) : Nat → Nat → Int := fun x y => if x = a ∧ y = b then v else F x y
theorem net_cells {w : World} {nb : Nat} {cs : Array Value} {t : TypeId} (hc : w.heap[nb]? = some (.cells cs t (0, 0))) {o p : Nat} {u u' : Value} (ho : w.cell? ⟨nb, o, none⟩ = some u') (v : Value) (hp : w.cell? ⟨nb, p, none⟩ = some u) :
    (w.setCell ⟨nb, o, none⟩ v).cell? ⟨nb, p, none⟩ = some (if p = o then v else u) := by
  rw [cell_of_row _ nb p _ _ _ (heap_setCell_same w nb o cs t v hc)]
  rw [cell_of_row w nb p _ _ _ hc] at hp
  rw [cell_of_row w nb o _ _ _ hc] at ho
  have hol : o < cs.size := (Array.getElem?_eq_some_iff.1 ho).1
  rw [Array.getElem?_setIfInBounds]
  by_cases h : o = p
  · subst h; simp [hol]
  · rw [if_neg h, hp, if_neg (fun e => h e.symm)]
def shortS (x v : Int) : Int := if x = -1 ∨ v < x then v else x
/- clear -/
def diagS (a b : Nat) : Int := if a = b then 0 else -1
end Go.Proofs.YtebinaopncclgabGreatDoor
namespace Go.Proofs.YtebinaopncclgabGreatDoor
open Go.RowKit Go.IntWalk

def sites (r : Rd) : List Int := r.home :: r.stops.map (fun s => s.getD 0 0)
/- a table of numbers in memory, from block B on: n rows of n -/
def Grid (w : World) (B : Nat) (v : Value) (n : Nat) (D : Nat → Nat → Int) : Prop :=
  ∃ g, v = .slice (some ⟨g, 0, none⟩) n n ∧ (B ≤ g ∧ g < w.heap.size) ∧ ∀ i, i < n → ∃ gi, w.cell? ⟨g, i, none⟩ = some (.slice (some ⟨gi, 0, none⟩) n n) ∧ (B ≤ gi ∧ gi < w.heap.size) ∧ ∀ j, j < n → w.cell? ⟨gi, j, none⟩ = some (.int .i64 (D i j))
theorem Grid.kept {w w' : World} {B : Nat} {v : Value} {n : Nat} {D : Nat → Nat → Int} (h : Grid w B v n D) (hs : w.heap.size ≤ w'.heap.size) (hb : ∀ k, B ≤ k → k < w.heap.size → w'.heap[k]? = w.heap[k]?) : Grid w' B v n D := by
  obtain ⟨g, hv, hg, hi⟩ := h
  refine ⟨g, hv, by omega, fun i hn => ?_⟩
  obtain ⟨gi, h1, h2, h3⟩ := hi i hn
  exact ⟨gi, by rw [World.cell?_of_block (a := ⟨g, i, none⟩) (hb g hg.1 hg.2)]; exact h1, by omega, fun j hj => by rw [World.cell?_of_block (a := ⟨gi, j, none⟩) (hb gi h2.1 h2.2)]; exact h3 j hj⟩
theorem Grid.below {w w' : World} {B : Nat} {v : Value} {n : Nat} {D : Nat → Nat → Int} (h : Grid w B v n D) (hb : Below w.heap.size w w') : Grid w' B v n D := h.kept hb.size (fun k _ hk => hb.block k hk)
theorem Grid.grown {w w' : World} {B : Nat} {v : Value} {n : Nat} {D : Nat → Nat → Int} {row : Option Nat} (h : Grid w B v n D) (hg : w.grownBy w' row) (hr : ∀ k, row = some k → k < B) : Grid w' B v n D :=
  h.kept hg.size (fun k hB hk => hg.block k hk (fun e => by have := hr k e.symm; omega))
theorem Grid.setCell {w : World} {B p o : Nat} {v : Value} {n : Nat} {D : Nat → Nat → Int} (h : Grid w B v n D) (hp : p < B) (u : Value) : Grid (w.setCell ⟨p, o, none⟩ u) B v n D :=
  h.kept (by simp [World.setCell]) (fun k hB _ => Below.heap_setCell _ _ _ _ (by show k ≠ p; omega))
theorem Grid.base {w : World} {B B' : Nat} {v : Value} {n : Nat} {D : Nat → Nat → Int} (h : Grid w B v n D) (hB : B' ≤ B) : Grid w B' v n D := by
  obtain ⟨g, hv, hg, hi⟩ := h
  refine ⟨g, hv, by omega, fun i hn => ?_⟩
  obtain ⟨gi, h1, h2, h3⟩ := hi i hn
  exact ⟨gi, h1, by omega, h3⟩
/- the same, and whose it is: every row a block of its own, with no room left -/
def GridO (w : World) (B : Nat) (v : Value) (n : Nat) (D : Nat → Nat → Int) : Prop :=
  ∃ (g : Nat) (G : Nat → Nat), v = .slice (some ⟨g, 0, none⟩) n n ∧ w.ownsRow B 40 1 v n ((List.range n).map fun i => Value.slice (some ⟨G i, 0, none⟩) n n) ∧ (∀ i, i < n → B ≤ G i ∧ ∃ ci, w.heap[G i]? = some (.cells ci 3 (0, 0)) ∧ ci.size = n ∧ ∀ j, j < n → ci[j]? = some (.int .i64 (D i j))) ∧ ∀ i i', i < i' → i' < n → G i < G i'
theorem own_row {w : World} {B g n c : Nat} {e : TypeId} {xs : List Value} (h : w.ownsRow B e 1 (.slice (some ⟨g, 0, none⟩) n c) n xs) : B ≤ g ∧ ∃ cur, w.heap[g]? = some (.cells cur e (0, 0)) ∧ cur.size = c ∧ ∀ j, j < n → cur[j]? = xs[j]? := by
  rcases h.2 with ⟨hh, _⟩ | ⟨g', cap, cur, hv, hb, hg, _, _, hz, ht⟩
  · cases hh
  · cases hv
    refine ⟨hb, cur, hg, by simpa using hz, fun j hj => ?_⟩
    rw [← ht, List.getElem?_take_of_lt (by omega)]; simp
theorem GridO.below {w w' : World} {B : Nat} {v : Value} {n : Nat} {D : Nat → Nat → Int} (h : GridO w B v n D) (hb : Below w.heap.size w w') : GridO w' B v n D := by
  obtain ⟨g, G, h1, h2, h3, h4⟩ := h
  refine ⟨g, G, h1, own_below h2 hb, fun i hi => ?_, h4⟩
  obtain ⟨k1, ci, k2, k3⟩ := h3 i hi
  exact ⟨k1, ci, by rw [hb.block _ (Array.getElem?_eq_some_iff.1 k2).1]; exact k2, k3⟩
theorem GridO.base {w : World} {B B' : Nat} {v : Value} {n : Nat} {D : Nat → Nat → Int} (h : GridO w B v n D) (hb : B' ≤ B) : GridO w B' v n D := by
  obtain ⟨g, G, h1, h2, h3, h4⟩ := h
  exact ⟨g, G, h1, own_base h2 hb, fun i hi => ⟨Nat.le_trans hb (h3 i hi).1, (h3 i hi).2⟩, h4⟩
theorem Tryz.infoInts : (Tryz.prog.info? 40).map (fun i => (i.zero, i.size, i.bytes)) = some (some (.slice none 0 0), 1, 24) := by kernel_rfl

end Go.Proofs.YtebinaopncclgabGreatDoor
namespace Go.Proofs.YtebinaopncclgabGreatDoor
open Go.RowKit

def gF (v : Nat) (F : Nat → Nat → Int) (x y : Nat) : Int := if F x v ≠ -1 ∧ F v y ≠ -1 then shortS (F x y) (F x v + F v y) else F x y
def fwF (F : Nat → Nat → Int) : Nat → Nat → Nat → Int
  | 0 => F
  | v + 1 => gF v (fwF F v)
end Go.Proofs.YtebinaopncclgabGreatDoor
namespace Go.Proofs.YtebinaopncclgabGreatDoor
open Go.RowKit Go.IntWalk

theorem cell_aside (w : World) {b o p q : Nat} (u : Value) (h : ¬ b = p) : (w.setCell ⟨p, q, none⟩ u).cell? ⟨b, o, none⟩ = w.cell? ⟨b, o, none⟩ :=
  World.cell?_of_block (a := ⟨b, o, none⟩) (Below.heap_setCell _ _ _ _ (by exact h))

end Go.Proofs.YtebinaopncclgabGreatDoor
namespace Go.Proofs.YtebinaopncclgabGreatDoor
open Go.RowKit Go.IntWalk

def roadF (F : Nat → Nat → Int) (s : List Int) : Nat → Nat → Int := upd F (s.getD 0 0).toNat (s.getD 1 0).toNat (shortS (F (s.getD 0 0).toNat (s.getD 1 0).toNat) (s.getD 2 0))
def roadsF (rs : List (List Int)) : Nat → Nat → Int := rs.foldl roadF diagS
def wayF (r : Rd) : Nat → Nat → Int := fwF (roadsF r.roads) r.nodes.toNat
def siteN (r : Rd) (i : Nat) : Nat := ((sites r).getD i 0).toNat

end Go.Proofs.YtebinaopncclgabGreatDoor
