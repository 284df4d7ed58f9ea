/- Plain mathematics of the seat: decimal digits. No program in sight. -/
import Derived.Test.YtebinaopncclgabGreatDoorPlainB
namespace Go.Proofs.YtebinaopncclgabGreatDoor
open Go.RowKit

def dg (n : Nat) : UInt8 := UInt8.ofNat (48 + n % 10)
def decF : Nat → Nat → List UInt8
  | 0, n => [dg n]
  | f + 1, n => if n < 10 then [dg n] else decF f (n / 10) ++ [dg n]
def decS (n : Nat) : List UInt8 := decF 5 n
theorem decF_step {f n : Nat} (h : 9 < n) : decF (f + 1) n = decF f (n / 10) ++ [dg n] := by
  show (if n < 10 then _ else _) = _; rw [if_neg (by omega)]
theorem decF_low {f n : Nat} (h : n ≤ 9) : decF f n = [dg n] := by
  cases f with
  | zero => rfl
  | succ f => show (if n < 10 then _ else _) = _; rw [if_pos (by omega)]
theorem decF_length (f n : Nat) : (decF f n).length ≤ f + 1 := by
  induction f generalizing n with
  | zero => simp [decF]
  | succ f ih =>
    show (if n < 10 then _ else _ : List UInt8).length ≤ _
    split
    · simp
    · rw [List.length_append]; have := ih (n / 10); simp; omega
theorem ba_append (a b : List UInt8) : (⟨a.toArray⟩ : ByteArray) ++ ⟨b.toArray⟩ = ⟨(a ++ b).toArray⟩ := by
  apply ByteArray.ext; simp [ByteArray.data_append]
theorem ba_cons (a : UInt8) (b : List UInt8) : (⟨#[a]⟩ : ByteArray) ++ ⟨b.toArray⟩ = ⟨(a :: b).toArray⟩ := ba_append [a] b
end Go.Proofs.YtebinaopncclgabGreatDoor
