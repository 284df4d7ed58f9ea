/- Plain mathematics of the seat: no program in sight. -/
import Derived.IntWalk
import Derived.Below
namespace Go.Proofs.YtebinaopncclgabGreatDoor
open Go.RowKit

def bentS (n lo hi : Int) : Int := if lo ≤ n ∧ n ≤ hi then n else lo + (if n < 0 then -(n + 1) else n) % (hi - lo + 1)
theorem bentS_range (n lo hi : Int) (h : lo ≤ hi) : lo ≤ bentS n lo hi ∧ bentS n lo hi ≤ hi := by
  unfold bentS
  split
  · omega
  · have h1 := Int.emod_nonneg (if n < 0 then -(n + 1) else n) (show hi - lo + 1 ≠ 0 by omega)
    have h2 := Int.emod_lt_of_pos (if n < 0 then -(n + 1) else n) (show 0 < hi - lo + 1 by omega)
    omega
/- a number of a text -/
def digs (l : List UInt8) : Bool := l.all fun c => 48 ≤ c && c ≤ 57
def val (l : List UInt8) : Nat := l.foldl (fun n c => 10 * n + (c.toNat - 48)) 0
def numOk (l : List UInt8) : Bool := decide (1 ≤ l.length) && decide (l.length ≤ 5) && digs l
def numV (l : List UInt8) : Int := if numOk l then (val l : Int) else 0

theorem take_snoc (s : ByteArray) (k : Nat) (h : k < s.size) : s.data.toList.take (k + 1) = s.data.toList.take k ++ [s[k]] := by
  rw [List.take_succ_eq_append_getElem (by simpa using h)]; rfl
theorem take_all (s : ByteArray) (k : Nat) (h : s.size ≤ k) : s.data.toList.take k = s.data.toList :=
  List.take_of_length_le (by simpa using h)
theorem val_snoc (l : List UInt8) (c : UInt8) : val (l ++ [c]) = 10 * val l + (c.toNat - 48) := by simp [val]
theorem digs_snoc (l : List UInt8) (c : UInt8) : digs (l ++ [c]) = (digs l && (decide (48 ≤ (c.toNat : Int)) && decide ((c.toNat : Int) ≤ 57))) := by
  have e : (decide (48 ≤ c) && decide (c ≤ 57)) = (decide (48 ≤ (c.toNat : Int)) && decide ((c.toNat : Int) ≤ 57)) := by
    rw [Bool.eq_iff_iff]; simp [UInt8.le_iff_toNat_le]; omega
  simp [digs, e]
theorem digs_take (l : List UInt8) (k : Nat) (h : digs (l.take k) = false) : digs l = false := by
  rw [← List.take_append_drop k l]
  unfold digs at *
  rw [List.all_append, h]; rfl
theorem val_go (l : List UInt8) : ∀ a : Nat, digs l = true → l.foldl (fun n c => 10 * n + (c.toNat - 48)) a < (a + 1) * 10 ^ l.length := by
  induction l with
  | nil => intro a _; simp
  | cons c t ih =>
    intro a h
    have h' : digs ([c] ++ t) = true := h
    simp only [digs, List.all_append, List.all_cons, List.all_nil, Bool.and_true, Bool.and_eq_true, decide_eq_true_eq] at h'
    have hc : c.toNat ≤ 57 := UInt8.le_iff_toNat_le.1 h'.1.2
    have := ih (10 * a + (c.toNat - 48)) h'.2
    simp only [List.foldl_cons, List.length_cons, Nat.pow_succ]
    refine Nat.lt_of_lt_of_le this ?_
    rw [Nat.mul_comm (10 ^ t.length) 10, ← Nat.mul_assoc]
    exact Nat.mul_le_mul_right _ (by omega)
theorem val_lt (l : List UInt8) (h : digs l = true) : val l < 10 ^ l.length := by
  have := val_go l 0 h
  simpa [val] using this
theorem val_le (l : List UInt8) (h : digs l = true) (hl : l.length ≤ 5) : val l ≤ 99999 := by
  have h1 := val_lt l h
  have h2 : 10 ^ l.length ≤ 10 ^ 5 := Nat.pow_le_pow_right (by decide) hl
  omega
theorem numV_yes {l : List UInt8} (h : numOk l = true) : numV l = val l := by unfold numV; rw [if_pos h]
theorem numV_no {l : List UInt8} (h : numOk l = false) : numV l = 0 := by unfold numV; rw [if_neg (by simp [h])]
theorem numOk_of {l : List UInt8} (h1 : 1 ≤ l.length) (h2 : l.length ≤ 5) (h3 : digs l = true) : numOk l = true := by simp [numOk, h1, h2, h3]
theorem numOk_len {l : List UInt8} (h : ¬ (1 ≤ l.length ∧ l.length ≤ 5)) : numOk l = false := by
  unfold numOk
  by_cases h1 : 1 ≤ l.length
  · have h2 : ¬ l.length ≤ 5 := fun h2 => h ⟨h1, h2⟩
    simp [h2]
  · simp [h1]
theorem numOk_digs {l : List UInt8} (h : digs l = false) : numOk l = false := by simp [numOk, h]

def fit (z : Int) : Bool := decide (0 ≤ z) && decide (z ≤ 10000)
theorem fit_iff (z : Int) : fit z = true ↔ 0 ≤ z ∧ z ≤ 10000 := by simp [fit]
end Go.Proofs.YtebinaopncclgabGreatDoor
