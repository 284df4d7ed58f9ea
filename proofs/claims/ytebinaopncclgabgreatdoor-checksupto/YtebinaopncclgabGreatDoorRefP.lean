/- Plain mathematics of the document's answer: splitting. No program in sight. -/
import Derived.Test.YtebinaopncclgabGreatDoorPlainC
namespace Go.Proofs.YtebinaopncclgabGreatDoor
open Go.RowKit

def cuP (c : UInt8) (l : List UInt8) (k : Nat) : List (List UInt8) := (spl c (l.take k)).1
def cuC (c : UInt8) (l : List UInt8) (k : Nat) : List UInt8 := (spl c (l.take k)).2
theorem cu_hit {c : UInt8} {l : List UInt8} {k : Nat} (h : k < l.length) (hc : l[k] = c) : cuP c l (k + 1) = cuP c l k ++ [cuC c l k] ∧ cuC c l (k + 1) = [] := by
  unfold cuP cuC; rw [take_snoc' h, spl_snoc, stepL, if_pos hc]; exact ⟨rfl, rfl⟩
theorem cu_miss {c : UInt8} {l : List UInt8} {k : Nat} (h : k < l.length) (hc : l[k] ≠ c) : cuP c l (k + 1) = cuP c l k ∧ cuC c l (k + 1) = cuC c l k ++ [l[k]] := by
  unfold cuP cuC; rw [take_snoc' h, spl_snoc, stepL, if_neg hc]; exact ⟨rfl, rfl⟩
theorem cu_end {c : UInt8} {l : List UInt8} {k : Nat} (h : l.length ≤ k) : splitB c l = cuP c l k ++ [cuC c l k] := by
  unfold cuP cuC; rw [List.take_of_length_le h]; rfl

theorem spl_count (c : UInt8) (l : List UInt8) : ∀ st : List (List UInt8) × List UInt8, (l.foldl (stepL c) st).1.length ≤ st.1.length + l.length := by
  induction l with
  | nil => intro st; simp
  | cons x t ih =>
    intro st
    have a := ih (stepL c st x)
    have hs : (stepL c st x).1.length ≤ st.1.length + 1 := by
      unfold stepL
      split <;> simp
    simp only [List.foldl_cons, List.length_cons]; omega
theorem split_count (c : UInt8) (l : List UInt8) : (splitB c l).length ≤ l.length + 1 := by
  have h := spl_count c l ([], [])
  unfold splitB spl
  simp at h ⊢; omega
theorem hid {p : Prop} (h : p) : Hid p := h

/- the words of a line: the pieces that are not empty -/
def full (l : List (List UInt8)) : List (List UInt8) := l.filter fun x => !x.isEmpty
theorem spf_spl (l : List UInt8) : ∀ P C, l.foldl stepF (full P, C) = (full (l.foldl (stepL 32) (P, C)).1, (l.foldl (stepL 32) (P, C)).2) := by
  induction l with
  | nil => intro P C; rfl
  | cons x t ih =>
    intro P C
    simp only [List.foldl_cons]
    have e : stepF (full P, C) x = (full (stepL 32 (P, C) x).1, (stepL 32 (P, C) x).2) := by
      unfold stepF stepL
      by_cases hx : x = 32
      · rw [if_pos hx, if_pos hx]
        by_cases hC : C = []
        · simp [hC, full]
        · rw [if_neg hC]
          have : C.isEmpty = false := by simp [hC]
          simp [full, List.filter_append, this]
      · rw [if_neg hx, if_neg hx]
    rw [e]; exact ih _ _
theorem flds_full (l : List UInt8) : flds l = full (splitB 32 l) := by
  have h := spf_spl l [] []
  have e : spf l = (full (spl 32 l).1, (spl 32 l).2) := h
  unfold flds splitB
  rw [e]
  by_cases hC : (spl 32 l).2 = []
  · rw [if_pos hC, hC]; simp [full]
  · have : (spl 32 l).2.isEmpty = false := by simp [hC]
    rw [if_neg hC]; simp [full, List.filter_append, this]
theorem full_snoc {ls : List (List UInt8)} {k : Nat} (h : k < ls.length) : full (ls.take (k + 1)) = full (ls.take k) ++ (if ls[k] = [] then [] else [ls[k]]) := by
  rw [List.take_succ_eq_append_getElem h]; unfold full; rw [List.filter_append]
  congr 1
  by_cases hk : ls[k] = []
  · simp [hk]
  · have : ls[k].isEmpty = false := by simp [hk]
    simp [hk]
end Go.Proofs.YtebinaopncclgabGreatDoor
