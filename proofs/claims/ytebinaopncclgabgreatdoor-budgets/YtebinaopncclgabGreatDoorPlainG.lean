/- Plain mathematics of the seat: an instance that is bent into one that may be. No program in sight. -/
import Derived.Test.YtebinaopncclgabGreatDoorPlainF
namespace Go.Proofs.YtebinaopncclgabGreatDoor
open Go.RowKit

def bstop (N : Int) (S : Nat → Int) : List Int := [bentS (S 0) 0 (N - 1), bentS (S 1) 0 10000, bentS (S 2) 0 10000, bentS (S 3) (bentS (S 2) 0 10000) 10000, bentS (S 4) 0 10000]
def broad (N : Int) (S : Nat → Int) : List Int := [bentS (S 0) 0 (N - 1), bentS (S 1) 0 (N - 1), bentS (S 2) 0 10000]
def bstops (N : Int) (S : Nat → Nat → Int) (n : Nat) : List (List Int) := (List.range n).map fun i => bstop N (S i)
def broads (N : Int) (S : Nat → Nat → Int) (n : Nat) : List (List Int) := (List.range n).map fun i => broad N (S i)
/- X: the five numbers; n, m: how many stops and roads -/
def bentR (X : Nat → Int) (S T : Nat → Nat → Int) (n m : Nat) : Rd :=
  { vans := bentS (X 0) 1 3, load := bentS (X 1) 0 10000, close := bentS (X 2) 0 10000, nodes := bentS (X 3) 1 12, home := bentS (X 4) 0 (bentS (X 3) 1 12 - 1),
    stops := bstops (bentS (X 3) 1 12) S (min n 7), roads := broads (bentS (X 3) 1 12) T (min m 40), head := true }
theorem bstops_length (N : Int) (S : Nat → Nat → Int) (n : Nat) : (bstops N S n).length = n := by simp [bstops]
theorem broads_length (N : Int) (S : Nat → Nat → Int) (n : Nat) : (broads N S n).length = n := by simp [broads]
theorem bstops_succ (N : Int) (S : Nat → Nat → Int) (n : Nat) : bstops N S (n + 1) = bstops N S n ++ [bstop N (S n)] := by simp [bstops, List.range_succ]
theorem broads_succ (N : Int) (S : Nat → Nat → Int) (n : Nat) : broads N S (n + 1) = broads N S n ++ [broad N (S n)] := by simp [broads, List.range_succ]
theorem ints_flat_snoc (ss : List (List Int)) (s : List Int) : ints (ss ++ [s]).flatten = ints ss.flatten ++ ints s := by simp [ints]

/- an instance that may be -/
structure RdOk (r : Rd) : Prop where
  head : headOk r.vans r.load r.close r.nodes r.home = true
  stops : ∀ s ∈ r.stops, ∃ a b c d e, s = [a, b, c, d, e] ∧ stopOk a b c d e r.nodes = true
  roads : ∀ s ∈ r.roads, ∃ a b c, s = [a, b, c] ∧ roadOk a b c r.nodes = true
  nstops : r.stops.length ≤ 7
  nroads : r.roads.length ≤ 40
  isHead : r.head = true
theorem fit_of {z : Int} (h1 : 0 ≤ z) (h2 : z ≤ 10000) : fit z = true := (fit_iff z).2 ⟨h1, h2⟩
theorem bentR_ok (X : Nat → Int) (S T : Nat → Nat → Int) (n m : Nat) : RdOk (bentR X S T n m) := by
  have h0 := bentS_range (X 0) 1 3 (by omega)
  have h1 := bentS_range (X 1) 0 10000 (by omega)
  have h2 := bentS_range (X 2) 0 10000 (by omega)
  have h3 := bentS_range (X 3) 1 12 (by omega)
  have h4 := bentS_range (X 4) 0 (bentS (X 3) 1 12 - 1) (by omega)
  refine ⟨?_, ?_, ?_, ?_, ?_, rfl⟩
  · show headOk (bentS (X 0) 1 3) (bentS (X 1) 0 10000) (bentS (X 2) 0 10000) (bentS (X 3) 1 12) (bentS (X 4) 0 (bentS (X 3) 1 12 - 1)) = true
    rw [headOk_yes (by omega), fit_of h1.1 h1.2, fit_of h2.1 h2.2]; rfl
  · intro s hs
    simp only [bentR, bstops, List.mem_map, List.mem_range] at hs
    obtain ⟨i, _, rfl⟩ := hs
    have a := bentS_range (S i 0) 0 (bentS (X 3) 1 12 - 1) (by omega)
    have b := bentS_range (S i 1) 0 10000 (by omega)
    have c := bentS_range (S i 2) 0 10000 (by omega)
    have d := bentS_range (S i 3) (bentS (S i 2) 0 10000) 10000 (by omega)
    have e := bentS_range (S i 4) 0 10000 (by omega)
    refine ⟨_, _, _, _, _, rfl, ?_⟩
    show stopOk _ _ _ _ _ (bentS (X 3) 1 12) = true
    rw [stopOk_yes (by omega), fit_of b.1 b.2, fit_of c.1 c.2, fit_of (by omega) d.2, fit_of e.1 e.2]; rfl
  · intro s hs
    simp only [bentR, broads, List.mem_map, List.mem_range] at hs
    obtain ⟨i, _, rfl⟩ := hs
    have a := bentS_range (T i 0) 0 (bentS (X 3) 1 12 - 1) (by omega)
    have b := bentS_range (T i 1) 0 (bentS (X 3) 1 12 - 1) (by omega)
    have c := bentS_range (T i 2) 0 10000 (by omega)
    refine ⟨_, _, _, rfl, ?_⟩
    show roadOk _ _ _ (bentS (X 3) 1 12) = true
    rw [roadOk_yes (by omega), fit_of c.1 c.2]
  · show (bstops _ _ _).length ≤ 7; rw [bstops_length]; omega
  · show (broads _ _ _).length ≤ 40; rw [broads_length]; omega
theorem headOk_iff {v l c n h : Int} : headOk v l c n h = true ↔ (1 ≤ v ∧ v ≤ 3 ∧ 1 ≤ n ∧ n ≤ 12 ∧ 0 ≤ h ∧ h < n) ∧ (0 ≤ l ∧ l ≤ 10000) ∧ 0 ≤ c ∧ c ≤ 10000 := by
  simp only [headOk, Bool.and_eq_true, decide_eq_true_eq, fit_iff]
theorem stopOk_iff {a b c d e n : Int} : stopOk a b c d e n = true ↔ (0 ≤ a ∧ a < n ∧ c ≤ d) ∧ (0 ≤ b ∧ b ≤ 10000) ∧ (0 ≤ c ∧ c ≤ 10000) ∧ (0 ≤ d ∧ d ≤ 10000) ∧ 0 ≤ e ∧ e ≤ 10000 := by
  simp only [stopOk, Bool.and_eq_true, decide_eq_true_eq, fit_iff]
theorem roadOk_iff {a b c n : Int} : roadOk a b c n = true ↔ (0 ≤ a ∧ a < n ∧ 0 ≤ b ∧ b < n) ∧ 0 ≤ c ∧ c ≤ 10000 := by
  simp only [roadOk, Bool.and_eq_true, decide_eq_true_eq, fit_iff]
theorem RdOk.nice {r : Rd} (h : RdOk r) : RdNice r := by
  have hh := headOk_iff.1 h.head
  refine ⟨?_, ?_, ?_, h.nstops, h.nroads⟩
  · intro z hz; simp only [List.mem_cons, List.not_mem_nil, or_false] at hz; unfold small; omega
  · intro s hs
    obtain ⟨a, b, c, d, e, rfl, hk⟩ := h.stops s hs
    have hk := stopOk_iff.1 hk
    refine ⟨rfl, fun z hz => ?_⟩
    simp only [List.mem_cons, List.not_mem_nil, or_false] at hz; unfold small; omega
  · intro s hs
    obtain ⟨a, b, c, rfl, hk⟩ := h.roads s hs
    have hk := roadOk_iff.1 hk
    refine ⟨rfl, fun z hz => ?_⟩
    simp only [List.mem_cons, List.not_mem_nil, or_false] at hz; unfold small; omega
end Go.Proofs.YtebinaopncclgabGreatDoor
