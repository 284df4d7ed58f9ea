/- Plain mathematics of the seat: the text of an instance. No program in sight. -/
import Derived.Test.YtebinaopncclgabGreatDoorPlainD
import Derived.Test.YtebinaopncclgabGreatDoorPlainC
import Derived.Test.YtebinaopncclgabGreatDoorNums
namespace Go.Proofs.YtebinaopncclgabGreatDoor
open Go.RowKit

theorem flat_at {ss : List (List Int)} {m : Nat} : (∀ s ∈ ss, s.length = m) → ∀ {k j : Nat} (hk : k < ss.length), j < m → ss.flatten[k * m + j]? = ss[k][j]? := by
  induction ss with
  | nil => intro _ k j hk; simp at hk
  | cons s t ih =>
    intro h k j hk hj
    have hs : s.length = m := h s (by simp)
    cases k with
    | zero => simp only [Nat.zero_mul, Nat.zero_add, List.flatten_cons, List.getElem_cons_zero]; rw [List.getElem?_append_left (by omega)]
    | succ k =>
      simp only [List.flatten_cons, List.getElem_cons_succ]
      rw [List.getElem?_append_right (by rw [hs, Nat.succ_mul]; omega), hs]
      have e : (k + 1) * m + j - m = k * m + j := by rw [Nat.succ_mul]; omega
      rw [e]
      exact ih (fun s hs => h s (by simp [hs])) (by simpa using hk) hj
theorem flat_ints {ss : List (List Int)} {m : Nat} (h : ∀ s ∈ ss, s.length = m) {k j : Nat} (hk : k < ss.length) (hj : j < m) {z : Int} (hz : ss[k][j]? = some z) : (ints ss.flatten)[k * m + j]? = some (.int .i64 z) := by
  unfold ints; rw [List.getElem?_map, flat_at h hk hj, hz]; rfl
end Go.Proofs.YtebinaopncclgabGreatDoor
