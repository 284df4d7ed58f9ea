/- Walks: do the numbers of a head, a stop, a road fit? -/
import Derived.Test.YtebinaopncclgaaDoorBase
namespace Go.Proofs.YtebinaopncclgaaDoor
open Go.RowKit Go.IntWalk

set_option maxHeartbeats 400000 in
theorem headFits_any (v l c n h : Int) (vs vr : Value) (w : World) :
    Calls Tryd.prog 23 #[.agg #[.int .i64 v, .int .i64 l, .int .i64 c, .int .i64 n, .int .i64 h, vs, vr]] w fun e w' => e = .returned (.bool (headOk v l c n h)) ∧ Below w.heap.size w w' := by
  go_enter Tryd.func23, Tryd.ntmps23
  go_wp2_with (go_at_call 28; refine (allFit_n _ 2 [l, c] _ _ rfl (by omega) (cells2 (by simp [go_sem]) (by simp [go_sem]))).mono ?_; rintro e w' ⟨rfl, rfl⟩)
  all_goals
    go_ret
    first
      | exact ⟨ret_bool (headOk_no (by omega)).symm, below1 _ _⟩
      | exact ⟨ret_bool (headOk_yes (by omega)).symm, below2 _ _ _⟩

set_option maxHeartbeats 400000 in
theorem stopFits_any (a b c d e n : Int) (w : World) :
    Calls Tryd.prog 24 #[.agg #[.int .i64 a, .int .i64 b, .int .i64 c, .int .i64 d, .int .i64 e], .int .i64 n] w fun r w' => r = .returned (.bool (stopOk a b c d e n)) ∧ Below w.heap.size w w' := by
  go_enter Tryd.func24, Tryd.ntmps24
  go_wp2_with (go_at_call 28; refine (allFit_n _ 4 [b, c, d, e] _ _ rfl (by omega) (cells4 (by simp [go_sem]) (by simp [go_sem]) (by simp [go_sem]) (by simp [go_sem]))).mono ?_; rintro e w' ⟨rfl, rfl⟩)
  all_goals
    go_ret
    first
      | exact ⟨ret_bool (stopOk_no (by omega)).symm, below1 _ _⟩
      | exact ⟨ret_bool (stopOk_yes (by omega)).symm, below2 _ _ _⟩

set_option maxHeartbeats 400000 in
theorem roadFits_any (a b c n : Int) (w : World) :
    Calls Tryd.prog 25 #[.agg #[.int .i64 a, .int .i64 b, .int .i64 c], .int .i64 n] w fun r w' => r = .returned (.bool (roadOk a b c n)) ∧ Below w.heap.size w w' := by
  go_enter Tryd.func25, Tryd.ntmps25
  go_wp2_with (go_at_call 28; refine (allFit_n _ 1 [c] _ _ rfl (by omega) (cells1 (by simp [go_sem]))).mono ?_; rintro e w' ⟨rfl, rfl⟩)
  all_goals
    go_ret
    first
      | exact ⟨ret_bool (roadOk_no (by omega)).symm, below1 _ _⟩
      | exact ⟨ret_bool (roadOk_yes (by omega)).symm, below2 _ _ _⟩
end Go.Proofs.YtebinaopncclgaaDoor
