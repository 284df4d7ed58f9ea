/- Plain mathematics of the seat: least ways. No program in sight. -/
import Derived.Test.YtebinaopncclgaaNet
namespace Go.Proofs.Ytebinaopncclgaa
open Go.RowKit

def gF (v : Nat) (F : Nat → Nat → Int) (x y : Nat) : Int := if F x v ≠ -1 ∧ F v y ≠ -1 then shortS (F x y) (F x v + F v y) else F x y
def mixF (v : Nat) (F : Nat → Nat → Int) (a b : Nat) : Nat → Nat → Int := fun x y => if x < a ∨ (x = a ∧ y < b) then gF v F x y else F x y
/- what the lengths may be -/
def Lens (N : Nat) (M : Int) (F : Nat → Nat → Int) : Prop := (∀ x, x < N → F x x = 0) ∧ ∀ x y, x < N → y < N → -1 ≤ F x y ∧ F x y ≤ M
theorem shortS_self {x v : Int} (hx : x ≠ -1) (h : x ≤ v) : shortS x v = x := by unfold shortS; rw [if_neg (by omega)]
theorem gF_col {N v x : Nat} {M : Int} {F : Nat → Nat → Int} (h : Lens N M F) (hv : v < N) : gF v F x v = F x v := by
  unfold gF
  split
  · rename_i e; rw [h.1 v hv]; exact shortS_self e.1 (by omega)
  · rfl
theorem gF_row {N v y : Nat} {M : Int} {F : Nat → Nat → Int} (h : Lens N M F) (hv : v < N) : gF v F v y = F v y := by
  unfold gF
  split
  · rename_i e; rw [h.1 v hv]; exact shortS_self e.2 (by omega)
  · rfl
theorem mix_col {N v x a b : Nat} {M : Int} {F : Nat → Nat → Int} (h : Lens N M F) (hv : v < N) : mixF v F a b x v = F x v := by
  unfold mixF; split
  · exact gF_col h hv
  · rfl
theorem mix_row {N v y a b : Nat} {M : Int} {F : Nat → Nat → Int} (h : Lens N M F) (hv : v < N) : mixF v F a b v y = F v y := by
  unfold mixF; split
  · exact gF_row h hv
  · rfl
theorem mix_at (v a b : Nat) (F : Nat → Nat → Int) : mixF v F a b a b = F a b := by unfold mixF; rw [if_neg (by omega)]
theorem mix_next {v a b : Nat} {F : Nat → Nat → Int} {u : Int} (hu : u = gF v F a b) (x y : Nat) : upd (mixF v F a b) a b u x y = mixF v F a (b + 1) x y := by
  unfold upd mixF
  by_cases e : x = a ∧ y = b
  · rw [if_pos e, if_pos (by omega), e.1, e.2, hu]
  · rw [if_neg e]
    by_cases h : x < a ∨ (x = a ∧ y < b)
    · rw [if_pos h, if_pos (by omega)]
    · rw [if_neg h, if_neg (by omega)]
theorem mix_same {v a b : Nat} {F : Nat → Nat → Int} (hu : F a b = gF v F a b) (x y : Nat) : mixF v F a b x y = mixF v F a (b + 1) x y := by
  rw [← mix_next hu]; unfold upd; split
  · rename_i e; rw [e.1, e.2, mix_at]
  · rfl
theorem mix_next' {v a b N : Nat} {F : Nat → Nat → Int} {u : Int} (hu : u = gF v F a b) : ∀ x y, x < N → y < N → upd (mixF v F a b) a b u x y = mixF v F a (b + 1) x y := fun x y _ _ => mix_next hu x y
theorem mix_col' {N v x a b : Nat} {M : Int} {F : Nat → Nat → Int} (h : Lens N M F) (hv : v < N) : some (Value.int .i64 (mixF v F a b x v)) = some (.int .i64 (F x v)) := by rw [mix_col h hv]
theorem mix_row' {N v y a b : Nat} {M : Int} {F : Nat → Nat → Int} (h : Lens N M F) (hv : v < N) : some (Value.int .i64 (mixF v F a b v y)) = some (.int .i64 (F v y)) := by rw [mix_row h hv]
theorem mix_row_end {v a N : Nat} {F : Nat → Nat → Int} {x y : Nat} (hy : y < N) : mixF v F a N x y = mixF v F (a + 1) 0 x y := by
  unfold mixF
  by_cases h : x < a ∨ (x = a ∧ y < N)
  · rw [if_pos h, if_pos (by omega)]
  · rw [if_neg h, if_neg (by omega)]
theorem mix_end {v N : Nat} {F : Nat → Nat → Int} {x y : Nat} (hx : x < N) : mixF v F N 0 x y = gF v F x y := by
  unfold mixF; rw [if_pos (by omega)]
theorem mix_start {v : Nat} {F : Nat → Nat → Int} {x y : Nat} : mixF v F 0 0 x y = F x y := by
  unfold mixF; rw [if_neg (by omega)]
theorem gF_lens {N v : Nat} {M : Int} {F : Nat → Nat → Int} (h : Lens N M F) (hM : 0 ≤ M) (hv : v < N) : Lens N (2 * M) (gF v F) := by
  refine ⟨fun x hx => ?_, fun x y hx hy => ?_⟩
  · unfold gF
    have h0 := h.1 x hx
    split
    · rename_i e
      have a := h.2 x v hx hv; have b := h.2 v x hv hx
      rw [h0]; exact shortS_self (by omega) (by omega)
    · exact h0
  · have c := h.2 x y hx hy
    unfold gF
    split
    · rename_i e
      have a := h.2 x v hx hv; have b := h.2 v y hv hy
      unfold shortS; split <;> omega
    · omega
def fwF (F : Nat → Nat → Int) : Nat → Nat → Nat → Int
  | 0 => F
  | v + 1 => gF v (fwF F v)
theorem fw_lens {N : Nat} {M : Int} {F : Nat → Nat → Int} (h : Lens N M F) (hM : 0 ≤ M) : ∀ v, v ≤ N → Lens N (M * 2 ^ v) (fwF F v) := by
  intro v
  induction v with
  | zero => intro _; show Lens N (M * 2 ^ 0) F; simpa using h
  | succ v ih =>
    intro hv
    have := gF_lens (ih (by omega)) (Int.mul_nonneg hM (Int.pow_nonneg (by decide))) (show v < N by omega)
    rw [Int.pow_succ]
    have e : M * (2 ^ v * 2) = 2 * (M * 2 ^ v) := by rw [← Int.mul_assoc, Int.mul_comm]
    rw [e]; exact this
theorem fw_lens12 {N : Nat} {F : Nat → Nat → Int} (h : Lens N 10000 F) (hN : N ≤ 12) {v : Nat} (hv : v ≤ N) : Lens N 40960000 (fwF F v) := by
  have h1 := fw_lens h (by omega) v hv
  refine ⟨h1.1, fun x y hx hy => ⟨(h1.2 x y hx hy).1, Int.le_trans (h1.2 x y hx hy).2 ?_⟩⟩
  have : (2 : Int) ^ v ≤ 4096 := by
    have : v = 0 ∨ v = 1 ∨ v = 2 ∨ v = 3 ∨ v = 4 ∨ v = 5 ∨ v = 6 ∨ v = 7 ∨ v = 8 ∨ v = 9 ∨ v = 10 ∨ v = 11 ∨ v = 12 := by omega
    rcases this with rfl | rfl | rfl | rfl | rfl | rfl | rfl | rfl | rfl | rfl | rfl | rfl | rfl <;> decide
  omega
end Go.Proofs.Ytebinaopncclgaa
