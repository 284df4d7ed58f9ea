/- Plain mathematics of the seat: the text of an instance. No program in sight. -/
import Derived.Test.YtebinaopncclgabGreatDoorPlainE
import Derived.Test.YtebinaopncclgabGreatDoorPlainC
import Derived.Test.YtebinaopncclgabGreatDoorNums
namespace Go.Proofs.YtebinaopncclgabGreatDoor
open Go.RowKit

def headL (r : Rd) : List UInt8 := lineL [68] [r.vans, r.load, r.close, r.nodes, r.home]
def stopsL (ss : List (List Int)) : List UInt8 := (ss.map (lineL [83])).flatten
def roadsL (ss : List (List Int)) : List UInt8 := (ss.map (lineL [82])).flatten
def textL (r : Rd) : List UInt8 := headL r ++ stopsL r.stops ++ roadsL r.roads
def small (z : Int) : Prop := 0 ≤ z ∧ z ≤ 99999
structure RdNice (r : Rd) : Prop where
  nums : ∀ z ∈ [r.vans, r.load, r.close, r.nodes, r.home], small z
  stops : ∀ s ∈ r.stops, s.length = 5 ∧ ∀ z ∈ s, small z
  roads : ∀ s ∈ r.roads, s.length = 3 ∧ ∀ z ∈ s, small z
  nstops : r.stops.length ≤ 7
  nroads : r.roads.length ≤ 40

theorem lineL_length (k : List UInt8) (zs : List Int) : (lineL k zs).length ≤ k.length + 7 * zs.length + 1 := by
  have := wrds_length zs; unfold lineL; simp; omega
theorem stopsL_snoc {ss : List (List Int)} {k : Nat} (h : k < ss.length) : stopsL (ss.take (k + 1)) = stopsL (ss.take k) ++ lineL [83] ss[k] := by
  unfold stopsL; rw [List.take_succ_eq_append_getElem h, List.map_append, List.flatten_append]; simp only [List.map_cons, List.map_nil, List.flatten_cons, List.flatten_nil, List.append_nil]
theorem roadsL_snoc {ss : List (List Int)} {k : Nat} (h : k < ss.length) : roadsL (ss.take (k + 1)) = roadsL (ss.take k) ++ lineL [82] ss[k] := by
  unfold roadsL; rw [List.take_succ_eq_append_getElem h, List.map_append, List.flatten_append]; simp only [List.map_cons, List.map_nil, List.flatten_cons, List.flatten_nil, List.append_nil]
theorem flat_at {ss : List (List Int)} {m : Nat} : (∀ s ∈ ss, s.length = m) → ∀ {k j : Nat} (hk : k < ss.length), j < m → ss.flatten[k * m + j]? = ss[k][j]? := by
  induction ss with
  | nil => intro _ k j hk; simp at hk
  | cons s t ih =>
    intro h k j hk hj
    have hs : s.length = m := h s (by simp)
    cases k with
    | zero => simp only [Nat.zero_mul, Nat.zero_add, List.flatten_cons, List.getElem_cons_zero]; rw [List.getElem?_append_left (by omega)]
    | succ k =>
      simp only [List.flatten_cons, List.getElem_cons_succ]
      rw [List.getElem?_append_right (by rw [hs, Nat.succ_mul]; omega), hs]
      have e : (k + 1) * m + j - m = k * m + j := by rw [Nat.succ_mul]; omega
      rw [e]
      exact ih (fun s hs => h s (by simp [hs])) (by simpa using hk) hj
theorem flat_ints {ss : List (List Int)} {m : Nat} (h : ∀ s ∈ ss, s.length = m) {k j : Nat} (hk : k < ss.length) (hj : j < m) {z : Int} (hz : ss[k][j]? = some z) : (ints ss.flatten)[k * m + j]? = some (.int .i64 z) := by
  unfold ints; rw [List.getElem?_map, flat_at h hk hj, hz]; rfl
theorem five {s : List Int} (h : s.length = 5) : ∃ a b c d e, s = [a, b, c, d, e] := by
  match s, h with
  | [a, b, c, d, e], _ => exact ⟨a, b, c, d, e, rfl⟩
theorem three {s : List Int} (h : s.length = 3) : ∃ a b c, s = [a, b, c] := by
  match s, h with
  | [a, b, c], _ => exact ⟨a, b, c, rfl⟩
end Go.Proofs.YtebinaopncclgabGreatDoor
