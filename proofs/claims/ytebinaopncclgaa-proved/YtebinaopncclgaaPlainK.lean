/- Plain mathematics of the seat: instances with other roads. No program in sight. -/
import Derived.Test.YtebinaopncclgaaPlainI
import Derived.Test.YtebinaopncclgaaPlainJ
import Derived.Test.YtebinaopncclgaaWays
namespace Go.Proofs.Ytebinaopncclgaa
open Go.RowKit

def withRoads (r : Rd) (rs : List (List Int)) : Rd := { r with roads := rs }
theorem ok_roads {r : Rd} (h : RdOk r) {rs : List (List Int)} (hr : ∀ s ∈ rs, ∃ a b c, s = [a, b, c] ∧ roadOk a b c r.nodes = true) (hl : rs.length ≤ 40) : RdOk (withRoads r rs) := ⟨h.head, h.stops, hr, h.nstops, hl, h.isHead⟩
theorem ok_cut {r : Rd} (h : RdOk r) (k : Nat) : RdOk (withRoads r (r.roads.take k)) := ok_roads h (fun s hs => h.roads s (List.mem_of_mem_take hs)) (by have := h.nroads; have := List.length_take_le k r.roads; simp; omega)
theorem ok_none {r : Rd} (h : RdOk r) : RdOk (withRoads r []) := ok_roads h (by simp) (by simp)
theorem site_ok {r : Rd} (h : RdOk r) {i : Nat} (hi : i < r.stops.length + 1) : 0 ≤ (sites r).getD i 0 ∧ (sites r).getD i 0 < r.nodes := by
  have hl : i < (sites r).length := by rw [sites_length]; exact hi
  rw [show (sites r).getD i 0 = (sites r)[i] by simp [hl]]
  exact sites_ok h _ (List.getElem_mem hl)
theorem ok_more {r : Rd} (h : RdOk r) {i j : Nat} (hi : i < r.stops.length + 1) (hj : j < r.stops.length + 1) {l : Int} (hl : 0 ≤ l ∧ l ≤ 10000) (hm : r.roads.length ≤ 39) : RdOk (withRoads r (r.roads ++ [[(sites r).getD i 0, (sites r).getD j 0, l]])) := by
  refine ok_roads h (fun s hs => ?_) (by simp; omega)
  simp only [List.mem_append, List.mem_singleton] at hs
  rcases hs with hs | rfl
  · exact h.roads s hs
  · have a := site_ok h hi; have b := site_ok h hj
    exact ⟨_, _, _, rfl, roadOk_iff.2 ⟨⟨a.1, a.2, b.1, b.2⟩, hl.1, hl.2⟩⟩
theorem ok_nodes {r : Rd} (h : RdOk r) : r.nodes = (r.nodes.toNat : Int) ∧ r.nodes.toNat ≤ 12 := by
  have hh := headOk_iff.1 h.head; omega
theorem ok_lens {r : Rd} (h : RdOk r) : Lens r.nodes.toNat 10000 (roadsF r.roads) := roads_lens r.roads (by rw [← (ok_nodes h).1]; exact h.roads) _ (diag_lens _)
theorem way_range {r : Rd} (h : RdOk r) {x y : Nat} (hx : x < r.nodes.toNat) (hy : y < r.nodes.toNat) : -1 ≤ wayF r x y ∧ wayF r x y ≤ 40960000 := (fw_lens12 (ok_lens h) (ok_nodes h).2 (Nat.le_refl _)).2 x y hx hy
theorem way_none {r : Rd} (h : RdOk r) {x y : Nat} (hx : x < r.nodes.toNat) (hy : y < r.nodes.toNat) : wayF (withRoads r []) x y = diagS x y := fw_none (ok_nodes h).2 x y hx hy
theorem ex_short {x l : Int} (_hx : -1 ≤ x ∧ x ≤ 10000) (hl : 0 ≤ l ∧ l ≤ 10000) : ex (shortS x l) = min (ex x) l := by
  unfold shortS ex
  by_cases h1 : x = -1
  · rw [if_pos (Or.inl h1), if_neg (by omega), if_pos h1]; omega
  · rw [if_neg h1]
    by_cases h2 : l < x
    · rw [if_pos (Or.inr h2), if_neg (by omega)]; omega
    · have h3 : ¬ (x = -1 ∨ l < x) := by omega
      simp only [if_neg h3, if_neg h1]; omega
theorem ex_plus {x y z l : Int} (hx : -1 ≤ x ∧ x ≤ 40960000) (hy : -1 ≤ y ∧ y ≤ 40960000) (hz : -1 ≤ z ∧ z ≤ 40960000) (hl : 0 ≤ l ∧ l ≤ 10000) :
    ex (if y ≠ -1 ∧ z ≠ -1 then shorterS x (y + l + z) else x) = min (ex x) (ex y + l + ex z) ∧ -1 ≤ (if y ≠ -1 ∧ z ≠ -1 then shorterS x (y + l + z) else x) ∧ (if y ≠ -1 ∧ z ≠ -1 then shorterS x (y + l + z) else x) ≤ 100000000 := by
  have ax := ex_range hx (by omega); have ay := ex_range hy (by omega); have az := ex_range hz (by omega)
  by_cases h : y ≠ -1 ∧ z ≠ -1
  · rw [if_pos h, ay.2.2.1 h.1, az.2.2.1 h.2]
    unfold shorterS
    by_cases h1 : x = -1
    · rw [if_pos (Or.inl h1), ax.2.2.2 h1]; unfold ex; rw [if_neg (by omega)]; omega
    · rw [ax.2.2.1 h1]
      by_cases h2 : y + l + z < x
      · rw [if_pos (Or.inr ⟨by omega, h2⟩)]; unfold ex; rw [if_neg (by omega)]; omega
      · rw [if_neg (by omega), ax.2.2.1 h1]; omega
  · rw [if_neg h]
    refine ⟨?_, by omega, by omega⟩
    by_cases h1 : y = -1
    · have := ay.2.2.2 h1; omega
    · have h2 : z = -1 := by
        by_cases h3 : z = -1
        · exact h3
        · exact absurd ⟨h1, h3⟩ h
      have := az.2.2.2 h2; omega
/- the ways with one road more, between sites -/
theorem way_more {r : Rd} (h : RdOk r) {a b : Nat} (ha : a < r.stops.length + 1) (hb : b < r.stops.length + 1) {l : Int} (hl : 0 ≤ l ∧ l ≤ 10000) (hm : r.roads.length ≤ 39) :
    ∀ i j, i < r.stops.length + 1 → j < r.stops.length + 1 → wayF (withRoads r (r.roads ++ [[(sites r).getD a 0, (sites r).getD b 0, l]])) (siteN r i) (siteN r j) = plusS (fun i j => wayF r (siteN r i) (siteN r j)) a b l i j := by
  intro i j hi hj
  have h' := ok_more h ha hb hl hm
  obtain ⟨hN, hN12⟩ := ok_nodes h
  have s : ∀ k, k < r.stops.length + 1 → siteN r k < r.nodes.toNat := fun k hk => siteN_lt h hN hk
  have hF : ∀ x y, x < r.nodes.toNat → y < r.nodes.toNat → ex (roadsF (r.roads ++ [[(sites r).getD a 0, (sites r).getD b 0, l]]) x y) = if x = siteN r a ∧ y = siteN r b then min (ex (roadsF r.roads x y)) l else ex (roadsF r.roads x y) := by
    intro x y hx hy
    have e : roadsF (r.roads ++ [[(sites r).getD a 0, (sites r).getD b 0, l]]) = roadF (roadsF r.roads) [(sites r).getD a 0, (sites r).getD b 0, l] := by unfold roadsF; rw [List.foldl_append]; rfl
    rw [e]
    show ex (if x = siteN r a ∧ y = siteN r b then shortS (roadsF r.roads (siteN r a) (siteN r b)) l else roadsF r.roads x y) = _
    by_cases q : x = siteN r a ∧ y = siteN r b
    · rw [if_pos q, if_pos q, q.1, q.2]; exact ex_short ((ok_lens h).2 _ _ (s a ha) (s b hb)) hl
    · rw [if_neg q, if_neg q]
  have hL' : Lens r.nodes.toNat 10000 (roadsF (r.roads ++ [[(sites r).getD a 0, (sites r).getD b 0, l]])) := ok_lens h'
  have key := fw_road (ok_lens h) hL' hN12 (s a ha) (s b hb) hl hF _ _ (s i hi) (s j hj)
  have r1 := way_range h (s i hi) (s j hj)
  have r2 := way_range h (s i hi) (s a ha)
  have r3 := way_range h (s b hb) (s j hj)
  have r4 := way_range h' (x := siteN r i) (y := siteN r j) (s i hi) (s j hj)
  have pl := ex_plus r1 r2 r3 hl
  refine ex_inj (by omega) ⟨pl.2.1, pl.2.2⟩ ?_
  exact key.trans pl.1.symm
theorem diag_site {r : Rd} (h : RdOk r) {i j : Nat} (hi : i < r.stops.length + 1) (hj : j < r.stops.length + 1) : wayF (withRoads r []) (siteN r i) (siteN r j) = if (sites r).getD i 0 = (sites r).getD j 0 then 0 else -1 := by
  obtain ⟨hN, _⟩ := ok_nodes h
  rw [way_none h (siteN_lt h hN hi) (siteN_lt h hN hj)]
  have a := site_ok h hi; have b := site_ok h hj
  unfold diagS siteN
  by_cases e : (sites r).getD i 0 = (sites r).getD j 0
  · rw [if_pos e, if_pos (by rw [e])]
  · rw [if_neg e, if_neg (by omega)]
end Go.Proofs.Ytebinaopncclgaa
