/- Plain mathematics of the seat: an instance that is bent into one that may be. No program in sight. -/
import Derived.Test.YtebinaopncclgabGreatDoorPlainF
namespace Go.Proofs.YtebinaopncclgabGreatDoor
open Go.RowKit

/- an instance that may be -/
structure RdOk (r : Rd) : Prop where
  head : headOk r.vans r.load r.close r.nodes r.home = true
  stops : ∀ s ∈ r.stops, ∃ a b c d e, s = [a, b, c, d, e] ∧ stopOk a b c d e r.nodes = true
  roads : ∀ s ∈ r.roads, ∃ a b c, s = [a, b, c] ∧ roadOk a b c r.nodes = true
  nstops : r.stops.length ≤ 7
  nroads : r.roads.length ≤ 40
  isHead : r.head = true
theorem headOk_iff {v l c n h : Int} : headOk v l c n h = true ↔ (1 ≤ v ∧ v ≤ 3 ∧ 1 ≤ n ∧ n ≤ 12 ∧ 0 ≤ h ∧ h < n) ∧ (0 ≤ l ∧ l ≤ 10000) ∧ 0 ≤ c ∧ c ≤ 10000 := by
  simp only [headOk, Bool.and_eq_true, decide_eq_true_eq, fit_iff]
theorem stopOk_iff {a b c d e n : Int} : stopOk a b c d e n = true ↔ (0 ≤ a ∧ a < n ∧ c ≤ d) ∧ (0 ≤ b ∧ b ≤ 10000) ∧ (0 ≤ c ∧ c ≤ 10000) ∧ (0 ≤ d ∧ d ≤ 10000) ∧ 0 ≤ e ∧ e ≤ 10000 := by
  simp only [stopOk, Bool.and_eq_true, decide_eq_true_eq, fit_iff]
theorem roadOk_iff {a b c n : Int} : roadOk a b c n = true ↔ (0 ≤ a ∧ a < n ∧ 0 ≤ b ∧ b < n) ∧ 0 ≤ c ∧ c ≤ 10000 := by
  simp only [roadOk, Bool.and_eq_true, decide_eq_true_eq, fit_iff]
theorem RdOk.nice {r : Rd} (h : RdOk r) : RdNice r := by
  have hh := headOk_iff.1 h.head
  refine ⟨?_, ?_, ?_, h.nstops, h.nroads⟩
  · intro z hz; simp only [List.mem_cons, List.not_mem_nil, or_false] at hz; unfold small; omega
  · intro s hs
    obtain ⟨a, b, c, d, e, rfl, hk⟩ := h.stops s hs
    have hk := stopOk_iff.1 hk
    refine ⟨rfl, fun z hz => ?_⟩
    simp only [List.mem_cons, List.not_mem_nil, or_false] at hz; unfold small; omega
  · intro s hs
    obtain ⟨a, b, c, rfl, hk⟩ := h.roads s hs
    have hk := roadOk_iff.1 hk
    refine ⟨rfl, fun z hz => ?_⟩
    simp only [List.mem_cons, List.not_mem_nil, or_false] at hz; unfold small; omega
end Go.Proofs.YtebinaopncclgabGreatDoor
