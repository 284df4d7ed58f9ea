/- Walks of the statements: what was lent is as it was. -/
import Derived.Test.YtebinaopncclgaaGreatDoorLentZ
namespace Go.Proofs.YtebinaopncclgaaGreatDoor
open Go.RowKit Go.IntWalk

set_option maxRecDepth 100000 in
set_option maxHeartbeats 1000000 in
theorem kept_any (X0 X1 X2 X3 X4 : Int) (S T : Nat → Nat → Int) (gs gr : Nat) (bos bor : Option Addr) (n m dcs dcr : Nat) (w : World) (hns : n < 9223372036854775807) (hnr : m < 9223372036854775807) (hs : LentAt w gs n 5 S) (hr : LentAt w gr m 3 T) (ks : Lies w bos n 5 S) (kr : Lies w bor m 3 T) :
    Calls Tryz.prog 27 #[.agg #[.int .i64 X0, .int .i64 X1, .int .i64 X2, .int .i64 X3, .int .i64 X4, .slice (some ⟨gs, 0, none⟩) n (n + 1), .slice (some ⟨gr, 0, none⟩) m (m + 1)], .agg #[.int .i64 X0, .int .i64 X1, .int .i64 X2, .int .i64 X3, .int .i64 X4, .slice bos n dcs, .slice bor m dcr]] w fun e w' => e = .returned (.bool true) ∧ Below w.heap.size w w' := by
  have HC : Hid (∀ W, Below w.heap.size w W → Calls Tryz.prog 23 #[.agg #[.int .i64 X0, .int .i64 X1, .int .i64 X2, .int .i64 X3, .int .i64 X4, .slice (some ⟨gs, 0, none⟩) n (n + 1), .slice (some ⟨gr, 0, none⟩) m (m + 1)], .agg #[.int .i64 X0, .int .i64 X1, .int .i64 X2, .int .i64 X3, .int .i64 X4, .slice bos n dcs, .slice bor m dcr]] W fun e w' => e = .returned (.bool true) ∧ Below W.heap.size W w') :=
    fun W hW => sameI_any X0 X1 X2 X3 X4 S T _ _ bos bor n m _ _ dcs dcr W (by unfold maxLen; omega) (by unfold maxLen; omega) (hs.lies.below hW) (hr.lies.below hW) (ks.below hW) (kr.below hW)
  have HS := hid hs
  have HR := hid hr
  clear hs hr ks kr
  go_enter Tryz.func27, Tryz.ntmps27
  go_wp2_with fail
  refine (HC.out _ (by first | exact below2 w _ _ | exact below1 w _ | exact Below.refl _ _)).mono ?_
  rintro e1 w1 ⟨rfl, hb1⟩
  have hW1 : Below w.heap.size w w1 := (below2 w _ _).trans (hb1.mono (by simp; omega))
  have hx1 : w1.heap[w.heap.size]? = some (.cells #[.int .i64 X0, .int .i64 X1, .int .i64 X2, .int .i64 X3, .int .i64 X4, .slice (some ⟨gs, 0, none⟩) n (n + 1), .slice (some ⟨gr, 0, none⟩) m (m + 1)] 36 (0, 0)) := by
    rw [hb1.block _ (by simp; omega), Below.heap_alloc _ _ _ (by simp)]; exact heap_alloc_new w _
  have x5 : w1.cell? ⟨w.heap.size, 5, none⟩ = some (.slice (some ⟨gs, 0, none⟩) n (n + 1)) := by rw [cell_of_row _ _ _ _ _ _ hx1]; rfl
  have x6 : w1.cell? ⟨w.heap.size, 6, none⟩ = some (.slice (some ⟨gr, 0, none⟩) m (m + 1)) := by rw [cell_of_row _ _ _ _ _ _ hx1]; rfl
  have hl1 : w.heap.size < w1.heap.size := (Array.getElem?_eq_some_iff.1 hx1).1
  have ss : ∀ j, j < 5 → w1.cell? ⟨gs, n * 5 + j, none⟩ = some (.int .i64 (if j = 0 then 77 else 0)) := fun j hj => (hW1.cell (by exact HS.out.1)).trans (HS.out.mark j hj)
  have s0 : w1.cell? ⟨gs, n * 5, none⟩ = some (.int .i64 77) := ss 0 (by omega)
  have s1 : w1.cell? ⟨gs, n * 5 + 1, none⟩ = some (.int .i64 0) := ss 1 (by omega)
  have s2 : w1.cell? ⟨gs, n * 5 + 2, none⟩ = some (.int .i64 0) := ss 2 (by omega)
  have s3 : w1.cell? ⟨gs, n * 5 + 3, none⟩ = some (.int .i64 0) := ss 3 (by omega)
  have s4 : w1.cell? ⟨gs, n * 5 + 4, none⟩ = some (.int .i64 0) := ss 4 (by omega)
  have rr : ∀ j, j < 3 → w1.cell? ⟨gr, m * 3 + j, none⟩ = some (.int .i64 (if j = 0 then 77 else 0)) := fun j hj => (hW1.cell (by exact HR.out.1)).trans (HR.out.mark j hj)
  have r0 : w1.cell? ⟨gr, m * 3, none⟩ = some (.int .i64 77) := rr 0 (by omega)
  have r1 : w1.cell? ⟨gr, m * 3 + 1, none⟩ = some (.int .i64 0) := rr 1 (by omega)
  have r2 : w1.cell? ⟨gr, m * 3 + 2, none⟩ = some (.int .i64 0) := rr 2 (by omega)
  have HW1 := hid hW1
  clear hW1 hx1 ss rr hb1 HC
  go_wp2
  go_ret
  exact ⟨rfl, by first | exact HW1.out | exact HW1.out.drew⟩
end Go.Proofs.YtebinaopncclgaaGreatDoor
