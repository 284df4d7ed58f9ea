/- Plain mathematics of the seat: the text of a line. No program in sight. -/
import Derived.Test.YtebinaopncclgabGreatDoorPlainD
namespace Go.Proofs.YtebinaopncclgabGreatDoor
open Go.RowKit

def wrd (z : Int) : List UInt8 := 32 :: decS z.toNat
def wrds (zs : List Int) : List UInt8 := (zs.map wrd).flatten
def lineL (k : List UInt8) (zs : List Int) : List UInt8 := k ++ wrds zs ++ [10]
theorem wrds_snoc {zs : List Int} {k : Nat} (h : k < zs.length) : wrds (zs.take (k + 1)) = wrds (zs.take k) ++ wrd zs[k] := by
  unfold wrds; rw [List.take_succ_eq_append_getElem h, List.map_append, List.flatten_append]; simp only [List.map_cons, List.map_nil, List.flatten_cons, List.flatten_nil, List.append_nil]
theorem wrd_length (z : Int) : (wrd z).length ≤ 7 := by
  have := decF_length 5 z.toNat; unfold wrd decS; simp; omega
theorem wrds_length (zs : List Int) : (wrds zs).length ≤ 7 * zs.length := by
  unfold wrds
  induction zs with
  | nil => simp
  | cons z t ih => have := wrd_length z; simp only [List.map_cons, List.flatten_cons, List.length_append, List.length_cons]; omega
end Go.Proofs.YtebinaopncclgabGreatDoor
