/- Plain mathematics of the seat: splitting a text. No program in sight. -/
import Derived.Test.YtebinaopncclgabGreatDoorPlain
import Derived.Lib.Strings
namespace Go.Proofs.YtebinaopncclgabGreatDoor
open Go.RowKit

def strs (ls : List (List UInt8)) : List Value := ls.map fun l => Value.string ⟨l.toArray⟩
theorem strs_append (a b : List (List UInt8)) : strs (a ++ b) = strs a ++ strs b := by simp [strs]
def stepL (c : UInt8) (st : List (List UInt8) × List UInt8) (x : UInt8) : List (List UInt8) × List UInt8 := if x = c then (st.1 ++ [st.2], []) else (st.1, st.2 ++ [x])
def spl (c : UInt8) (l : List UInt8) : List (List UInt8) × List UInt8 := l.foldl (stepL c) ([], [])
def splitB (c : UInt8) (l : List UInt8) : List (List UInt8) := (spl c l).1 ++ [(spl c l).2]
theorem take_snoc' {l : List UInt8} {k : Nat} (h : k < l.length) : l.take (k + 1) = l.take k ++ [l[k]] := List.take_succ_eq_append_getElem h
theorem spl_snoc (c : UInt8) (l : List UInt8) (x : UInt8) : spl c (l ++ [x]) = stepL c (spl c l) x := by simp [spl]
theorem cut_snoc {l : List UInt8} {b k : Nat} (hb : b ≤ k) (h : k < l.length) : (l.drop b).take (k - b) ++ [l[k]] = (l.drop b).take (k + 1 - b) := by
  have : k + 1 - b = (k - b) + 1 := by omega
  rw [this, List.take_succ_eq_append_getElem (by simp; omega)]
  simp; congr 1; omega
theorem str_cut (s : ByteArray) (b k : Nat) : Value.string (s.extract b k) = Value.string ⟨((s.data.toList.drop b).take (k - b)).toArray⟩ := by rw [Lib.extract_eq]
end Go.Proofs.YtebinaopncclgabGreatDoor
