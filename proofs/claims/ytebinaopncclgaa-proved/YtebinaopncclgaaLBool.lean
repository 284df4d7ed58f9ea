/- Rows of marks; the columns seen so far. -/
import Derived.Test.YtebinaopncclgaaABest
namespace Go.Proofs.Ytebinaopncclgaa
open Go.RowKit Go.IntWalk

theorem Try.infoBool : (Try.prog.info? 4).map (fun i => (i.zero, i.size, i.bytes)) = some (some (.bool false), 1, 1) := by kernel_rfl
/- a row of marks -/
def BRow (w : World) (g n : Nat) (S : Nat → Bool) : Prop := ∃ cs, w.heap[g]? = some (.cells cs 4 (0, 0)) ∧ cs.size = n ∧ ∀ i, i < n → cs[i]? = some (.bool (S i))
theorem BRow.lt {w : World} {g n : Nat} {S : Nat → Bool} (h : BRow w g n S) : g < w.heap.size := by obtain ⟨cs, hc, _⟩ := h; exact (Array.getElem?_eq_some_iff.1 hc).1
theorem BRow.cell {w : World} {g n i : Nat} {S : Nat → Bool} (h : BRow w g n S) (hi : i < n) : w.cell? ⟨g, i, none⟩ = some (.bool (S i)) := by
  obtain ⟨cs, hc, _, hf⟩ := h
  rw [cell_of_row _ _ _ _ _ _ hc]; exact hf i hi
theorem BRow.frozen {w : World} {g n : Nat} {S : Nat → Bool} (h : BRow w g n S) (k : Nat) : w.frozen? ⟨g, k, none⟩ = false := by obtain ⟨cs, hc, _⟩ := h; exact frozen_of_row w g k _ _ hc
theorem BRow.block {w w' : World} {g n : Nat} {S : Nat → Bool} (h : BRow w g n S) (hb : w'.heap[g]? = w.heap[g]?) : BRow w' g n S := by
  obtain ⟨cs, hc, h2⟩ := h; exact ⟨cs, hb.trans hc, h2⟩
theorem BRow.put {w : World} {g n k : Nat} {S : Nat → Bool} (h : BRow w g n S) (hk : k < n) (x : Bool) : BRow (w.setCell ⟨g, k, none⟩ (.bool x)) g n (up1 S k x) := by
  have h0 := h.cell hk
  obtain ⟨cs, hc, hs, hf⟩ := id h
  have hb := heap_setCell_same w g k cs 4 (.bool x) hc
  refine ⟨_, hb, by simpa using hs, fun i hi => ?_⟩
  have h1 := net_cells hc h0 (.bool x) (h.cell hi)
  rw [cell_of_row _ _ _ _ _ _ hb] at h1
  rw [h1]
  unfold up1
  by_cases e : i = k
  · rw [if_pos e, if_pos e]
  · rw [if_neg e, if_neg e]
theorem BRow.made {w : World} {B g n : Nat} (h : w.ownsRow B 4 1 (.slice (some ⟨g, 0, none⟩) n n) n (madeCells #[Value.bool false] n).toList) : BRow w g n (fun _ => false) := by
  obtain ⟨_, cur, h1, h2, h3⟩ := own_row h
  refine ⟨cur, h1, h2, fun j hj => ?_⟩
  rw [h3 j hj, toList_madeCells_one, List.getElem?_replicate, if_pos hj]
/- the columns seen so far -/
def snS (col : Nat → Int) : Nat → Nat → Bool
  | 0 => fun _ => false
  | k + 1 => up1 (snS col k) (col k).toNat true
theorem snS_at (col : Nat → Int) : ∀ k j, snS col k j = true → ∃ i, i < k ∧ (col i).toNat = j := by
  intro k
  induction k with
  | zero => intro j h; cases h
  | succ k ih =>
    intro j h
    unfold snS up1 at h
    by_cases e : j = (col k).toNat
    · exact ⟨k, by omega, e.symm⟩
    · rw [if_neg e] at h
      obtain ⟨i, h1, h2⟩ := ih j h
      exact ⟨i, by omega, h2⟩
theorem snS_fresh {n : Nat} {C : Nat → Nat → Int} {col u v : Nat → Int} {cost : Int} (h : Tight n C col u v cost) {k : Nat} (hk : k < n) : snS col k (col k).toNat = false := by
  cases hs : snS col k (col k).toNat
  · rfl
  · obtain ⟨i, h1, h2⟩ := snS_at col k _ hs
    obtain ⟨a, ha, _⟩ := h.tcol i (by omega)
    obtain ⟨b, hb, _⟩ := h.tcol k hk
    have := h.one i k (by omega) hk (by rw [ha, hb] at h2 ⊢; simp at h2; rw [h2])
    omega

end Go.Proofs.Ytebinaopncclgaa
