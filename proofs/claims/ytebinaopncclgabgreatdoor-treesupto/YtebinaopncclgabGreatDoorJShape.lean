/- Plain: the shape of a plan's routes. -/
import Derived.Test.YtebinaopncclgabGreatDoorWaysZ
namespace Go.Proofs.YtebinaopncclgabGreatDoor
open Go.RowKit Go.IntWalk

/- lists of numbers that are made one by one; they lie in the blocks from B up to U -/
structure Rts (w : World) (B U : Nat) (v : Value) (L : List (List Int)) (vs : List Value) : Prop where
  own : w.ownsRow B 40 1 v vs.length vs
  len : vs.length = L.length
  row : ∀ i (h : i < vs.length) (h' : i < L.length), ∃ gi ci cur, vs[i] = .slice (some ⟨gi, 0, none⟩) L[i].length ci ∧ (B ≤ gi ∧ gi < U) ∧ w.heap[gi]? = some (.cells cur 3 (0, 0)) ∧ ∀ j (hj : j < L[i].length), cur[j]? = some (.int .i64 L[i][j])
theorem Rts.nil (w : World) (B U : Nat) : Rts w B U (.slice none 0 0) [] [] := ⟨World.ownsRow_nil _ _ _ _, rfl, fun i h => absurd h (by simp)⟩
theorem Rts.below {w w' : World} {B U U' : Nat} {v : Value} {L : List (List Int)} {vs : List Value} (h : Rts w B U v L vs) (hb : Below w.heap.size w w') (hU : U ≤ U') : Rts w' B U' v L vs :=
  ⟨own_below h.own hb, h.len, fun i hi hi' => by
    obtain ⟨gi, ci, cur, k1, k2, k3, k4⟩ := h.row i hi hi'
    exact ⟨gi, ci, cur, k1, by omega, by rw [hb.block _ (Array.getElem?_eq_some_iff.1 k3).1]; exact k3, k4⟩⟩
theorem Rts.base {w : World} {B B' U : Nat} {v : Value} {L : List (List Int)} {vs : List Value} (h : Rts w B U v L vs) (hb : B' ≤ B) : Rts w B' U v L vs :=
  ⟨own_base h.own hb, h.len, fun i hi hi' => by
    obtain ⟨gi, ci, cur, k1, k2, k3, k4⟩ := h.row i hi hi'
    exact ⟨gi, ci, cur, k1, by omega, k3, k4⟩⟩
/- read -/
theorem Rts.at {w : World} {B U : Nat} {v : Value} {L : List (List Int)} {vs : List Value} (h : Rts w B U v L vs) {i : Nat} (hi : i < L.length) : ∃ g c gi ci, v = .slice (some ⟨g, 0, none⟩) L.length c ∧ g < w.heap.size ∧ w.cell? ⟨g, i, none⟩ = some (.slice (some ⟨gi, 0, none⟩) L[i].length ci) ∧ gi < w.heap.size ∧ ∀ j (hj : j < L[i].length), w.cell? ⟨gi, j, none⟩ = some (.int .i64 L[i][j]) := by
  have hl := h.len
  obtain ⟨gi, ci, cur, k1, k2, k3, k4⟩ := h.row i (by omega) hi
  obtain ⟨g, cap, e, hg, hc⟩ := own_at h.own (i := i) (by omega) (by omega)
  exact ⟨g, cap, gi, ci, by rw [← hl]; exact e, hg, by rw [hc, k1], (Array.getElem?_eq_some_iff.1 k3).1, fun j hj => by rw [cell_of_row _ _ _ _ _ _ k3]; exact k4 j hj⟩
/- a list more: it is made, with memory of its own -/
theorem Rts.grown {w w' : World} {B U : Nat} {v l : Value} {L : List (List Int)} {vs : List Value} {Bl q : Nat} {zs : List Value} (h : Rts w B U v L vs) (hl : w.ownsRow Bl 3 1 l q zs) (hB : U ≤ Bl) (hg : w.grownBy w' l.ownBlock) : Rts w' B U v L vs :=
  ⟨h.own.kept hg (own_ne h.own hl (by decide)), h.len, fun i hi hi' => by
    obtain ⟨gi, ci, cur, k1, k2, k3, k4⟩ := h.row i hi hi'
    refine ⟨gi, ci, cur, k1, k2, ?_, k4⟩
    rw [hg.block _ (Array.getElem?_eq_some_iff.1 k3).1 (fun e => by have h5 := (hl.lt _ e.symm).1; omega)]; exact k3⟩
/- and appended -/
theorem Rts.push {w X w' : World} {B U Bl : Nat} {v v' l : Value} {L : List (List Int)} {vs : List Value} {zs : List Int} (h : Rts w B U v L vs) (hl : w.ownsRow Bl 3 1 l zs.length (ints zs)) (hn : 0 < zs.length) (hB : B ≤ Bl) (hX : Below w.heap.size w X) (hg : X.grownBy w' v.ownBlock) (ho : w'.ownsRow B 40 1 v' (vs.length + 1) (vs ++ [l])) : Rts w' B w'.heap.size v' (L ++ [zs]) (vs ++ [l]) := by
  have hk : Keep [40] w w' := (Keep.of_below hX).trans (Keep.grown (own_below h.own hX) (by simp) hg)
  have hlen := h.len
  refine ⟨by rw [List.length_append]; exact ho, by simp [hlen], fun i hi hi' => ?_⟩
  by_cases hlt : i < vs.length
  · obtain ⟨gi, ci, cur, k1, k2, k3, k4⟩ := h.row i hlt (by omega)
    have k5 := hk _ _ _ _ k3 (by decide)
    have e : (L ++ [zs])[i] = L[i] := List.getElem_append_left (by omega)
    exact ⟨gi, ci, cur, by rw [List.getElem_append_left hlt, e]; exact k1, ⟨k2.1, (Array.getElem?_eq_some_iff.1 k5).1⟩, k5, fun j hj => by simp only [e] at hj ⊢; exact k4 j hj⟩
  · have hi2 : i = vs.length := by simp at hi; omega
    subst hi2
    have e : (L ++ [zs])[vs.length] = zs := by simp [hlen]
    rcases hl.2 with ⟨_, h0⟩ | ⟨g, cap, cur, rfl, hb, hgc, h1, h2, h3, h4⟩
    · omega
    · have k5 := hk _ _ _ _ hgc (by decide)
      refine ⟨g, cap, cur, by rw [e]; simp, ⟨by omega, (Array.getElem?_eq_some_iff.1 k5).1⟩, k5, fun j hj => ?_⟩
      simp only [e] at hj ⊢
      have h6 : (ints zs)[j]? = some (.int .i64 zs[j]) := by simp [ints, hj]
      rw [← h4, List.getElem?_take_of_lt (by omega)] at h6
      simpa using h6

end Go.Proofs.YtebinaopncclgabGreatDoor
namespace Go.Proofs.YtebinaopncclgabGreatDoor
open Go.RowKit Go.IntWalk

/- routes that are read -/
def RtR (w : World) (v : Value) (L : List (List Int)) : Prop :=
  ∃ ao c, v = .slice ao L.length c ∧ L.length ≤ 1000 ∧ ∀ i (h : i < L.length), ∃ g gi ci, ao = some ⟨g, 0, none⟩ ∧ g < w.heap.size ∧ w.cell? ⟨g, i, none⟩ = some (.slice (some ⟨gi, 0, none⟩) L[i].length ci) ∧ gi < w.heap.size ∧ ∀ j (hj : j < L[i].length), w.cell? ⟨gi, j, none⟩ = some (.int .i64 L[i][j])
theorem Rts.read {w : World} {B U : Nat} {v : Value} {L : List (List Int)} {vs : List Value} (h : Rts w B U v L vs) (hl : L.length ≤ 1000) : RtR w v L := by
  obtain ⟨ao, c, hv, _, _⟩ := own_val h.own
  rw [h.len] at hv
  refine ⟨ao, c, hv, hl, fun i hi => ?_⟩
  obtain ⟨g, c', gi, ci, e, h1, h2, h3, h4⟩ := h.at hi
  rw [hv] at e
  cases e
  exact ⟨g, gi, ci, rfl, h1, h2, h3, h4⟩
theorem RtR.below {w w' : World} {v : Value} {L : List (List Int)} (h : RtR w v L) (hb : Below w.heap.size w w') : RtR w' v L := by
  obtain ⟨ao, c, h1, h2, h3⟩ := h
  refine ⟨ao, c, h1, h2, fun i hi => ?_⟩
  obtain ⟨g, gi, ci, k1, k2, k3, k4, k5⟩ := h3 i hi
  exact ⟨g, gi, ci, k1, Nat.lt_of_lt_of_le k2 hb.size, (hb.cell (by exact k2)).trans k3, Nat.lt_of_lt_of_le k4 hb.size, fun j hj => (hb.cell (by exact k4)).trans (k5 j hj)⟩

end Go.Proofs.YtebinaopncclgabGreatDoor
namespace Go.Proofs.YtebinaopncclgabGreatDoor
open Go.RowKit Go.IntWalk

/- the stops, read -/
def StR (w : World) (v : Value) (r : Rd) : Prop :=
  ∃ ao c, v = .slice ao r.stops.length c ∧ ∀ i (h : i < r.stops.length), ∃ g, ao = some ⟨g, 0, none⟩ ∧ g < w.heap.size ∧ ∀ j z, j < 5 → r.stops[i][j]? = some z → w.cell? ⟨g, i * 5 + j, none⟩ = some (.int .i64 z)
end Go.Proofs.YtebinaopncclgabGreatDoor
namespace Go.Proofs.YtebinaopncclgabGreatDoor

def Shape (n k : Nat) (r : List Int) : Prop := ∃ mid : List Int, r = 0 :: (mid ++ [0]) ∧ mid.length ≤ k ∧ ∀ x ∈ mid, 1 ≤ x ∧ x ≤ n
theorem Shape.mono {n k k' : Nat} {r : List Int} (h : Shape n k r) (hk : k ≤ k') : Shape n k' r := by
  obtain ⟨mid, h1, h2, h3⟩ := h; exact ⟨mid, h1, by omega, h3⟩
theorem Shape.sites {n k : Nat} {r : List Int} (h : Shape n k r) : r.length ≤ k + 2 ∧ (∀ x ∈ r, 0 ≤ x ∧ x < n + 1) ∧ ∀ j, j + 2 < r.length → r.getD (j + 1) 0 ≠ 0 := by
  obtain ⟨mid, rfl, h2, h3⟩ := h
  refine ⟨by simp; omega, fun x hx => ?_, fun j hj => ?_⟩
  · rcases List.mem_cons.1 hx with h | h
    · omega
    · rcases List.mem_append.1 h with h | h
      · have := h3 x h; omega
      · have : x = 0 := by simpa using h
        omega
  · have hjm : j < mid.length := by simp at hj; omega
    have e : (0 :: (mid ++ [0])).getD (j + 1) 0 = mid[j] := by
      rw [List.getD_cons_succ, List.getD_eq_getElem?_getD, List.getElem?_append_left hjm, List.getElem?_eq_getElem hjm]; rfl
    rw [e]
    have := h3 mid[j] (List.getElem_mem _)
    omega
end Go.Proofs.YtebinaopncclgabGreatDoor
