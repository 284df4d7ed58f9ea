/- Walks: the ways of any text; squares that are the same. -/
import Derived.Test.YtebinaopncclgabGreatDoorBetw
namespace Go.Proofs.YtebinaopncclgabGreatDoor
open Go.RowKit Go.IntWalk

/- a table that is made row by row, of n numbers each; the rows lie in the blocks from B up to U -/
structure GridR (w : World) (B U : Nat) (v : Value) (n : Nat) (D : Nat → Nat → Int) (vs : List Value) : Prop where
  own : w.ownsRow B 40 1 v vs.length vs
  row : ∀ i (h : i < vs.length), ∃ gi ci cur, vs[i] = .slice (some ⟨gi, 0, none⟩) n ci ∧ (B ≤ gi ∧ gi < U) ∧ w.heap[gi]? = some (.cells cur 3 (0, 0)) ∧ ∀ j, j < n → cur[j]? = some (.int .i64 (D i j))
theorem GridR.nil (w : World) (B U n : Nat) (D : Nat → Nat → Int) : GridR w B U (.slice none 0 0) n D [] := ⟨World.ownsRow_nil _ _ _ _, fun i h => absurd h (by simp)⟩
theorem GridR.below {w w' : World} {B U U' n : Nat} {v : Value} {D : Nat → Nat → Int} {vs : List Value} (h : GridR w B U v n D vs) (hb : Below w.heap.size w w') (hU : U ≤ U') : GridR w' B U' v n D vs :=
  ⟨own_below h.own hb, fun i hi => by
    obtain ⟨gi, ci, cur, k1, k2, k3, k4⟩ := h.row i hi
    exact ⟨gi, ci, cur, k1, by omega, by rw [hb.block _ (Array.getElem?_eq_some_iff.1 k3).1]; exact k3, k4⟩⟩
theorem GridR.base {w : World} {B B' U n : Nat} {v : Value} {D : Nat → Nat → Int} {vs : List Value} (h : GridR w B U v n D vs) (hb : B' ≤ B) : GridR w B' U v n D vs :=
  ⟨own_base h.own hb, fun i hi => by
    obtain ⟨gi, ci, cur, k1, k2, k3, k4⟩ := h.row i hi
    exact ⟨gi, ci, cur, k1, by omega, k3, k4⟩⟩
/- the numbers of a table, read -/
theorem GridR.at {w : World} {B U n : Nat} {v : Value} {D : Nat → Nat → Int} {vs : List Value} (h : GridR w B U v n D vs) {i : Nat} (hi : i < vs.length) : ∃ g c gi ci, v = .slice (some ⟨g, 0, none⟩) vs.length c ∧ g < w.heap.size ∧ w.cell? ⟨g, i, none⟩ = some (.slice (some ⟨gi, 0, none⟩) n ci) ∧ gi < w.heap.size ∧ ∀ j, j < n → w.cell? ⟨gi, j, none⟩ = some (.int .i64 (D i j)) := by
  obtain ⟨gi, ci, cur, k1, k2, k3, k4⟩ := h.row i hi
  obtain ⟨g, cap, e, hg, hc⟩ := own_at h.own hi hi
  exact ⟨g, cap, gi, ci, e, hg, by rw [hc, k1], (Array.getElem?_eq_some_iff.1 k3).1, fun j hj => by rw [cell_of_row _ _ _ _ _ _ k3]; exact k4 j hj⟩
/- a row more: it is made, with memory of its own -/
theorem GridR.grown {w w' : World} {B U n : Nat} {v l : Value} {D : Nat → Nat → Int} {vs : List Value} {Bl q : Nat} {zs : List Value} (h : GridR w B U v n D vs) (hl : w.ownsRow Bl 3 1 l q zs) (hB : U ≤ Bl) (hg : w.grownBy w' l.ownBlock) : GridR w' B U v n D vs :=
  ⟨h.own.kept hg (own_ne h.own hl (by decide)), fun i hi => by
    obtain ⟨gi, ci, cur, k1, k2, k3, k4⟩ := h.row i hi
    refine ⟨gi, ci, cur, k1, k2, ?_, k4⟩
    rw [hg.block _ (Array.getElem?_eq_some_iff.1 k3).1 (fun e => by have h5 := (hl.lt _ e.symm).1; omega)]; exact k3⟩
/- and appended -/
theorem GridR.push {w X w' : World} {B U n Bl : Nat} {v v' l : Value} {D : Nat → Nat → Int} {vs zs : List Value} (h : GridR w B U v n D vs) (hl : w.ownsRow Bl 3 1 l n zs) (hn : 0 < n) (hB : B ≤ Bl) (hX : Below w.heap.size w X) (hg : X.grownBy w' v.ownBlock) (ho : w'.ownsRow B 40 1 v' (vs.length + 1) (vs ++ [l]))
    (hz : ∀ j, j < n → zs[j]? = some (.int .i64 (D vs.length j))) : GridR w' B w'.heap.size v' n D (vs ++ [l]) := by
  have hk : Keep [40] w w' := (Keep.of_below hX).trans (Keep.grown (own_below h.own hX) (by simp) hg)
  refine ⟨by rw [List.length_append]; exact ho, fun i hi => ?_⟩
  by_cases hlt : i < vs.length
  · obtain ⟨gi, ci, cur, k1, k2, k3, k4⟩ := h.row i hlt
    have k5 := hk _ _ _ _ k3 (by decide)
    exact ⟨gi, ci, cur, by rw [List.getElem_append_left hlt]; exact k1, ⟨k2.1, (Array.getElem?_eq_some_iff.1 k5).1⟩, k5, k4⟩
  · have hi' : i = vs.length := by simp at hi; omega
    subst hi'
    rcases hl.2 with ⟨_, h0⟩ | ⟨g, cap, cur, rfl, hb, hgc, h1, h2, h3, h4⟩
    · omega
    · have k5 := hk _ _ _ _ hgc (by decide)
      refine ⟨g, cap, cur, by simp, ⟨by omega, (Array.getElem?_eq_some_iff.1 k5).1⟩, k5, fun j hj => ?_⟩
      have h6 := hz j hj
      rw [← h4, List.getElem?_take_of_lt (by omega)] at h6
      simpa using h6

end Go.Proofs.YtebinaopncclgabGreatDoor
namespace Go.Proofs.YtebinaopncclgabGreatDoor
open Go.RowKit Go.IntWalk

theorem rd_lens {r : Rd} (h : RdOk r) {N : Nat} (hN : r.nodes = N) : Lens N 10000 (roadsF r.roads) := roads_lens r.roads (by rw [← hN]; exact h.roads) _ (diag_lens _)
/- the table of the sites, as read -/
def siteD (r : Rd) (i j : Nat) : Int := wayF r (siteN r i) (siteN r j)

end Go.Proofs.YtebinaopncclgabGreatDoor
namespace Go.Proofs.YtebinaopncclgabGreatDoor
open Go.RowKit Go.IntWalk

theorem retVI {a b : Value} {c d : Int} (h : a = b) (h' : c = d) : Ending.returned (.tuple #[a, .int .i64 c]) = .returned (.tuple #[b, .int .i64 d]) := by rw [h, h']
/- a square that is read: n rows of n -/
def SqR (w : World) (v : Value) (n : Nat) (D : Nat → Nat → Int) : Prop :=
  ∃ ao c, v = .slice ao n c ∧ n ≤ 100 ∧ ∀ i, i < n → ∃ g gi ci, ao = some ⟨g, 0, none⟩ ∧ g < w.heap.size ∧ w.cell? ⟨g, i, none⟩ = some (.slice (some ⟨gi, 0, none⟩) n ci) ∧ gi < w.heap.size ∧ ∀ j, j < n → w.cell? ⟨gi, j, none⟩ = some (.int .i64 (D i j))
theorem SqR.below {w w' : World} {v : Value} {n : Nat} {D : Nat → Nat → Int} (h : SqR w v n D) (hb : Below w.heap.size w w') : SqR w' v n D := by
  obtain ⟨ao, c, h1, h2, h3⟩ := h
  refine ⟨ao, c, h1, h2, fun i hi => ?_⟩
  obtain ⟨g, gi, ci, k1, k2, k3, k4, k5⟩ := h3 i hi
  exact ⟨g, gi, ci, k1, Nat.lt_of_lt_of_le k2 hb.size, (hb.cell (by exact k2)).trans k3, Nat.lt_of_lt_of_le k4 hb.size, fun j hj => (hb.cell (by exact k4)).trans (k5 j hj)⟩
theorem GridO.sq {w : World} {B : Nat} {v : Value} {n : Nat} {D : Nat → Nat → Int} (h : GridO w B v n D) (hn : n ≤ 100) : SqR w v n D := by
  obtain ⟨g, rfl, hg, hr⟩ := h.grid
  refine ⟨_, _, rfl, hn, fun i hi => ?_⟩
  obtain ⟨gi, h1, h2, h3⟩ := hr i hi
  exact ⟨g, gi, n, rfl, hg.2, h1, h2.2, h3⟩
theorem GridR.sq {w : World} {B U n : Nat} {v : Value} {D : Nat → Nat → Int} {vs : List Value} (h : GridR w B U v n D vs) (hl : vs.length = n) (hn : n ≤ 100) : SqR w v n D := by
  obtain ⟨ao, c, hv, _, _⟩ := own_val h.own
  rw [hl] at hv
  refine ⟨ao, c, hv, hn, fun i hi => ?_⟩
  obtain ⟨g, c', gi, ci, e, h1, h2, h3, h4⟩ := h.at (i := i) (by omega)
  rw [hl, hv] at e
  cases e
  exact ⟨g, gi, ci, rfl, h1, h2, h3, h4⟩
theorem SqR.nil (w : World) (D : Nat → Nat → Int) : SqR w (.slice none 0 0) 0 D := ⟨none, 0, rfl, by omega, fun i hi => absurd hi (by omega)⟩

end Go.Proofs.YtebinaopncclgabGreatDoor
