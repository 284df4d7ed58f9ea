/- Plain mathematics of the seat: splitting a text. No program in sight. -/
import Derived.Test.YtebinaopncclgabGreatDoorPlain
import Derived.Lib.Strings
namespace Go.Proofs.YtebinaopncclgabGreatDoor
open Go.RowKit

def strs (ls : List (List UInt8)) : List Value := ls.map fun l => Value.string ⟨l.toArray⟩
theorem strs_append (a b : List (List UInt8)) : strs (a ++ b) = strs a ++ strs b := by simp [strs]
def stepL (c : UInt8) (st : List (List UInt8) × List UInt8) (x : UInt8) : List (List UInt8) × List UInt8 := if x = c then (st.1 ++ [st.2], []) else (st.1, st.2 ++ [x])
def spl (c : UInt8) (l : List UInt8) : List (List UInt8) × List UInt8 := l.foldl (stepL c) ([], [])
def splitB (c : UInt8) (l : List UInt8) : List (List UInt8) := (spl c l).1 ++ [(spl c l).2]
def stepF (st : List (List UInt8) × List UInt8) (x : UInt8) : List (List UInt8) × List UInt8 := if x = 32 then (if st.2 = [] then st.1 else st.1 ++ [st.2], []) else (st.1, st.2 ++ [x])
def spf (l : List UInt8) : List (List UInt8) × List UInt8 := l.foldl stepF ([], [])
def flds (l : List UInt8) : List (List UInt8) := if (spf l).2 = [] then (spf l).1 else (spf l).1 ++ [(spf l).2]

def lnP (l : List UInt8) (k : Nat) : List (List UInt8) := (spl 10 (l.take k)).1
def lnC (l : List UInt8) (k : Nat) : List UInt8 := (spl 10 (l.take k)).2
def fdP (l : List UInt8) (k : Nat) : List (List UInt8) := (spf (l.take k)).1
def fdC (l : List UInt8) (k : Nat) : List UInt8 := (spf (l.take k)).2

theorem take_snoc' {l : List UInt8} {k : Nat} (h : k < l.length) : l.take (k + 1) = l.take k ++ [l[k]] := List.take_succ_eq_append_getElem h
theorem spl_snoc (c : UInt8) (l : List UInt8) (x : UInt8) : spl c (l ++ [x]) = stepL c (spl c l) x := by simp [spl]
theorem spf_snoc (l : List UInt8) (x : UInt8) : spf (l ++ [x]) = stepF (spf l) x := by simp [spf]
theorem ln_hit {l : List UInt8} {k : Nat} (h : k < l.length) (hc : l[k] = 10) : lnP l (k + 1) = lnP l k ++ [lnC l k] ∧ lnC l (k + 1) = [] := by
  unfold lnP lnC; rw [take_snoc' h, spl_snoc, stepL, if_pos hc]; exact ⟨rfl, rfl⟩
theorem ln_miss {l : List UInt8} {k : Nat} (h : k < l.length) (hc : l[k] ≠ 10) : lnP l (k + 1) = lnP l k ∧ lnC l (k + 1) = lnC l k ++ [l[k]] := by
  unfold lnP lnC; rw [take_snoc' h, spl_snoc, stepL, if_neg hc]; exact ⟨rfl, rfl⟩
theorem fd_hit {l : List UInt8} {k : Nat} (h : k < l.length) (hc : l[k] = 32) (hne : fdC l k ≠ []) : fdP l (k + 1) = fdP l k ++ [fdC l k] ∧ fdC l (k + 1) = [] := by
  unfold fdP fdC at *; rw [take_snoc' h, spf_snoc, stepF, if_pos hc, if_neg hne]; exact ⟨rfl, rfl⟩
theorem fd_void {l : List UInt8} {k : Nat} (h : k < l.length) (hc : l[k] = 32) (he : fdC l k = []) : fdP l (k + 1) = fdP l k ∧ fdC l (k + 1) = [] := by
  unfold fdP fdC at *; rw [take_snoc' h, spf_snoc, stepF, if_pos hc, if_pos he]; exact ⟨rfl, rfl⟩
theorem fd_miss {l : List UInt8} {k : Nat} (h : k < l.length) (hc : l[k] ≠ 32) : fdP l (k + 1) = fdP l k ∧ fdC l (k + 1) = fdC l k ++ [l[k]] := by
  unfold fdP fdC; rw [take_snoc' h, spf_snoc, stepF, if_neg hc]; exact ⟨rfl, rfl⟩
theorem ln_end {l : List UInt8} {k : Nat} (h : l.length ≤ k) : splitB 10 l = lnP l k ++ [lnC l k] := by
  unfold lnP lnC; rw [List.take_of_length_le h]; rfl
theorem fd_end {l : List UInt8} {k : Nat} (h : l.length ≤ k) : flds l = if fdC l k = [] then fdP l k else fdP l k ++ [fdC l k] := by
  unfold fdP fdC; rw [List.take_of_length_le h]; rfl
theorem cut_snoc {l : List UInt8} {b k : Nat} (hb : b ≤ k) (h : k < l.length) : (l.drop b).take (k - b) ++ [l[k]] = (l.drop b).take (k + 1 - b) := by
  have : k + 1 - b = (k - b) + 1 := by omega
  rw [this, List.take_succ_eq_append_getElem (by simp; omega)]
  simp; congr 1; omega
theorem cut_ne {l : List UInt8} {b k : Nat} (hb : b < k) (hk : k ≤ l.length) : (l.drop b).take (k - b) ≠ [] := by
  intro h
  have := congrArg List.length h
  simp at this; omega
theorem str_cut (s : ByteArray) (b k : Nat) : Value.string (s.extract b k) = Value.string ⟨((s.data.toList.drop b).take (k - b)).toArray⟩ := by rw [Lib.extract_eq]
end Go.Proofs.YtebinaopncclgabGreatDoor
