/- Walks of the document's answer: may the numbers of a line be? -/
import Derived.Test.YtebinaopncclgaaGreatDoorRefC
namespace Go.Proofs.YtebinaopncclgaaGreatDoor
open Go.RowKit Go.IntWalk

theorem cells_list {f : Nat → Option Value} {zs : List Int} (h : ∀ i (hi : i < zs.length), f i = some (.int .i64 zs[i])) : ∀ i, i < zs.length → f i = some (.int .i64 (zs.getD i 0)) := by
  intro i hi; rw [h i hi]; simp [hi]
theorem cells_of {w : World} {b : Nat} {t : TypeId} (zs : List Int) (h : w.heap[b]? = some (.cells (ints zs).toArray t (0, 0))) : ∀ i, i < zs.length → w.cell? ⟨b, i, none⟩ = some (.int .i64 (zs.getD i 0)) := by
  intro i hi
  rw [cell_of_row w b i _ _ _ h]
  simp [ints, hi]
theorem new_second (w : World) (o o' : Obj) : ((w.alloc o).alloc o').heap[w.heap.size + 1]? = some o' := by
  have h := heap_alloc_new (w.alloc o) o'
  rw [World.size_alloc] at h; exact h
theorem pairs_head (v l c n h : Int) : pairsS [1, v, v, 3, 0, l, l, 10000, 0, c, c, 10000, 1, n, n, 12, 0, h, h, n - 1] 10 = headOk v l c n h := by
  rw [Bool.eq_iff_iff]
  simp only [pairsS, headOk, List.all_eq_true, List.mem_range, decide_eq_true_eq, Bool.and_eq_true, fit_iff]
  constructor
  · intro q
    have q0 := q 0 (by omega); have q1 := q 1 (by omega); have q2 := q 2 (by omega); have q3 := q 3 (by omega); have q4 := q 4 (by omega)
    have q5 := q 5 (by omega); have q6 := q 6 (by omega); have q7 := q 7 (by omega); have q8 := q 8 (by omega); have q9 := q 9 (by omega)
    simp at q0 q1 q2 q3 q4 q5 q6 q7 q8 q9
    omega
  · intro q i hi
    match i, hi with
    | 0, _ => simp; omega
    | 1, _ => simp; omega
    | 2, _ => simp; omega
    | 3, _ => simp; omega
    | 4, _ => simp; omega
    | 5, _ => simp; omega
    | 6, _ => simp; omega
    | 7, _ => simp; omega
    | 8, _ => simp; omega
    | 9, _ => simp; omega
theorem pairs_stop (a b c d e n : Int) : pairsS [0, a, a, n - 1, 0, b, b, 10000, 0, c, c, d, d, 10000, 0, e, e, 10000] 9 = stopOk a b c d e n := by
  rw [Bool.eq_iff_iff]
  simp only [pairsS, stopOk, List.all_eq_true, List.mem_range, decide_eq_true_eq, Bool.and_eq_true, fit_iff]
  constructor
  · intro q
    have q0 := q 0 (by omega); have q1 := q 1 (by omega); have q2 := q 2 (by omega); have q3 := q 3 (by omega); have q4 := q 4 (by omega)
    have q5 := q 5 (by omega); have q6 := q 6 (by omega); have q7 := q 7 (by omega); have q8 := q 8 (by omega)
    simp at q0 q1 q2 q3 q4 q5 q6 q7 q8
    omega
  · intro q i hi
    match i, hi with
    | 0, _ => simp; omega
    | 1, _ => simp; omega
    | 2, _ => simp; omega
    | 3, _ => simp; omega
    | 4, _ => simp; omega
    | 5, _ => simp; omega
    | 6, _ => simp; omega
    | 7, _ => simp; omega
    | 8, _ => simp; omega
theorem pairs_road (a b c n : Int) : pairsS [0, a, a, n - 1, 0, b, b, n - 1, 0, c, c, 10000] 6 = roadOk a b c n := by
  rw [Bool.eq_iff_iff]
  simp only [pairsS, roadOk, List.all_eq_true, List.mem_range, decide_eq_true_eq, Bool.and_eq_true, fit_iff]
  constructor
  · intro q
    have q0 := q 0 (by omega); have q1 := q 1 (by omega); have q2 := q 2 (by omega); have q3 := q 3 (by omega); have q4 := q 4 (by omega); have q5 := q 5 (by omega)
    simp at q0 q1 q2 q3 q4 q5
    omega
  · intro q i hi
    match i, hi with
    | 0, _ => simp; omega
    | 1, _ => simp; omega
    | 2, _ => simp; omega
    | 3, _ => simp; omega
    | 4, _ => simp; omega
    | 5, _ => simp; omega

set_option maxRecDepth 100000 in
set_option maxHeartbeats 1000000 in
theorem headFine_any (v l c n h : Int) (vs vr : Value) (w : World) (hn : -9223372036854775807 ≤ n ∧ n ≤ 9223372036854775807) :
    Calls Tryz.prog 108 #[.agg #[.int .i64 v, .int .i64 l, .int .i64 c, .int .i64 n, .int .i64 h, vs, vr]] w fun e w' => e = .returned (.bool (headOk v l c n h)) ∧ Below w.heap.size w w' := by
  obtain ⟨hn1, hn2⟩ := hn
  go_enter Tryz.func108, Tryz.ntmps108
  go_wp2_with fail
  refine (between_walk (w.heap.size + 1) 10 20 20 [1, v, v, 3, 0, l, l, 10000, 0, c, c, 10000, 1, n, n, 12, 0, h, h, n - 1] _ rfl (by omega) (by simp) (cells_of [1, v, v, 3, 0, l, l, 10000, 0, c, c, 10000, 1, n, n, 12, 0, h, h, n - 1] (t := 3) (new_second _ _ _))).mono ?_
  rintro e1 w1 ⟨rfl, hb1⟩
  rw [pairs_head]
  have HB : Hid (Below w.heap.size w w1) := (below2 w _ _).trans (hb1.mono (by simp; omega))
  clear hb1
  go_wp2
  go_ret
  exact ⟨rfl, HB.out⟩
set_option maxRecDepth 100000 in
set_option maxHeartbeats 1000000 in
theorem stopFine_any (a b c d e n : Int) (w : World) (hn : -9223372036854775807 ≤ n ∧ n ≤ 9223372036854775807) :
    Calls Tryz.prog 109 #[.agg #[.int .i64 a, .int .i64 b, .int .i64 c, .int .i64 d, .int .i64 e], .int .i64 n] w fun r w' => r = .returned (.bool (stopOk a b c d e n)) ∧ Below w.heap.size w w' := by
  obtain ⟨hn1, hn2⟩ := hn
  go_enter Tryz.func109, Tryz.ntmps109
  go_wp2_with fail
  refine (between_walk (w.heap.size + 1) 9 18 18 [0, a, a, n - 1, 0, b, b, 10000, 0, c, c, d, d, 10000, 0, e, e, 10000] _ rfl (by omega) (by simp) (cells_of [0, a, a, n - 1, 0, b, b, 10000, 0, c, c, d, d, 10000, 0, e, e, 10000] (t := 3) (new_second _ _ _))).mono ?_
  rintro e1 w1 ⟨rfl, hb1⟩
  rw [pairs_stop]
  have HB : Hid (Below w.heap.size w w1) := (below2 w _ _).trans (hb1.mono (by simp; omega))
  clear hb1
  go_wp2
  go_ret
  exact ⟨rfl, HB.out⟩
set_option maxRecDepth 100000 in
set_option maxHeartbeats 1000000 in
theorem roadFine_any (a b c n : Int) (w : World) (hn : -9223372036854775807 ≤ n ∧ n ≤ 9223372036854775807) :
    Calls Tryz.prog 110 #[.agg #[.int .i64 a, .int .i64 b, .int .i64 c], .int .i64 n] w fun e w' => e = .returned (.bool (roadOk a b c n)) ∧ Below w.heap.size w w' := by
  obtain ⟨hn1, hn2⟩ := hn
  go_enter Tryz.func110, Tryz.ntmps110
  go_wp2_with fail
  refine (between_walk (w.heap.size + 1) 6 12 12 [0, a, a, n - 1, 0, b, b, n - 1, 0, c, c, 10000] _ rfl (by omega) (by simp) (cells_of [0, a, a, n - 1, 0, b, b, n - 1, 0, c, c, 10000] (t := 3) (new_second _ _ _))).mono ?_
  rintro e1 w1 ⟨rfl, hb1⟩
  rw [pairs_road]
  have HB : Hid (Below w.heap.size w w1) := (below2 w _ _).trans (hb1.mono (by simp; omega))
  clear hb1
  go_wp2
  go_ret
  exact ⟨rfl, HB.out⟩
end Go.Proofs.YtebinaopncclgaaGreatDoor
