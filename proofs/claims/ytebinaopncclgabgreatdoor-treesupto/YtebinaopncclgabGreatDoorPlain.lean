/- Plain mathematics of the seat: no program in sight. -/
import Derived.IntWalk
import Derived.Below
namespace Go.Proofs.YtebinaopncclgabGreatDoor
open Go.RowKit

/- a number of a text -/
def digs (l : List UInt8) : Bool := l.all fun c => 48 ≤ c && c ≤ 57
def val (l : List UInt8) : Nat := l.foldl (fun n c => 10 * n + (c.toNat - 48)) 0
theorem take_snoc (s : ByteArray) (k : Nat) (h : k < s.size) : s.data.toList.take (k + 1) = s.data.toList.take k ++ [s[k]] := by
  rw [List.take_succ_eq_append_getElem (by simpa using h)]; rfl
theorem take_all (s : ByteArray) (k : Nat) (h : s.size ≤ k) : s.data.toList.take k = s.data.toList :=
  List.take_of_length_le (by simpa using h)
theorem val_snoc (l : List UInt8) (c : UInt8) : val (l ++ [c]) = 10 * val l + (c.toNat - 48) := by simp [val]
theorem digs_snoc (l : List UInt8) (c : UInt8) : digs (l ++ [c]) = (digs l && (decide (48 ≤ (c.toNat : Int)) && decide ((c.toNat : Int) ≤ 57))) := by
  have e : (decide (48 ≤ c) && decide (c ≤ 57)) = (decide (48 ≤ (c.toNat : Int)) && decide ((c.toNat : Int) ≤ 57)) := by
    rw [Bool.eq_iff_iff]; simp [UInt8.le_iff_toNat_le]; omega
  simp [digs, e]
theorem digs_take (l : List UInt8) (k : Nat) (h : digs (l.take k) = false) : digs l = false := by
  rw [← List.take_append_drop k l]
  unfold digs at *
  rw [List.all_append, h]; rfl
theorem val_go (l : List UInt8) : ∀ a : Nat, digs l = true → l.foldl (fun n c => 10 * n + (c.toNat - 48)) a < (a + 1) * 10 ^ l.length := by
  induction l with
  | nil => intro a _; simp
  | cons c t ih =>
    intro a h
    have h' : digs ([c] ++ t) = true := h
    simp only [digs, List.all_append, List.all_cons, List.all_nil, Bool.and_true, Bool.and_eq_true, decide_eq_true_eq] at h'
    have hc : c.toNat ≤ 57 := UInt8.le_iff_toNat_le.1 h'.1.2
    have := ih (10 * a + (c.toNat - 48)) h'.2
    simp only [List.foldl_cons, List.length_cons, Nat.pow_succ]
    refine Nat.lt_of_lt_of_le this ?_
    rw [Nat.mul_comm (10 ^ t.length) 10, ← Nat.mul_assoc]
    exact Nat.mul_le_mul_right _ (by omega)
theorem val_lt (l : List UInt8) (h : digs l = true) : val l < 10 ^ l.length := by
  have := val_go l 0 h
  simpa [val] using this
end Go.Proofs.YtebinaopncclgabGreatDoor
