/- Walks of the document's answer: a line more is taken. -/
import Derived.Test.YtebinaopncclgaaGreatDoorRefC
import Derived.Test.YtebinaopncclgaaGreatDoorParse
namespace Go.Proofs.YtebinaopncclgaaGreatDoor
open Go.RowKit Go.IntWalk

theorem cells_list {f : Nat → Option Value} {zs : List Int} (h : ∀ i (hi : i < zs.length), f i = some (.int .i64 zs[i])) : ∀ i, i < zs.length → f i = some (.int .i64 (zs.getD i 0)) := by
  intro i hi; rw [h i hi]; simp [hi]
theorem cells_of {w : World} {b : Nat} {t : TypeId} (zs : List Int) (h : w.heap[b]? = some (.cells (ints zs).toArray t (0, 0))) : ∀ i, i < zs.length → w.cell? ⟨b, i, none⟩ = some (.int .i64 (zs.getD i 0)) := by
  intro i hi
  rw [cell_of_row w b i _ _ _ h]
  simp [ints, hi]
theorem new_second (w : World) (o o' : Obj) : ((w.alloc o).alloc o').heap[w.heap.size + 1]? = some o' := by
  have h := heap_alloc_new (w.alloc o) o'
  rw [World.size_alloc] at h; exact h
theorem pairs_head (v l c n h : Int) : pairsS [1, v, v, 3, 0, l, l, 10000, 0, c, c, 10000, 1, n, n, 12, 0, h, h, n - 1] 10 = headOk v l c n h := by
  rw [Bool.eq_iff_iff]
  simp only [pairsS, headOk, List.all_eq_true, List.mem_range, decide_eq_true_eq, Bool.and_eq_true, fit_iff]
  constructor
  · intro q
    have q0 := q 0 (by omega); have q1 := q 1 (by omega); have q2 := q 2 (by omega); have q3 := q 3 (by omega); have q4 := q 4 (by omega)
    have q5 := q 5 (by omega); have q6 := q 6 (by omega); have q7 := q 7 (by omega); have q8 := q 8 (by omega); have q9 := q 9 (by omega)
    simp at q0 q1 q2 q3 q4 q5 q6 q7 q8 q9
    omega
  · intro q i hi
    match i, hi with
    | 0, _ => simp; omega
    | 1, _ => simp; omega
    | 2, _ => simp; omega
    | 3, _ => simp; omega
    | 4, _ => simp; omega
    | 5, _ => simp; omega
    | 6, _ => simp; omega
    | 7, _ => simp; omega
    | 8, _ => simp; omega
    | 9, _ => simp; omega
theorem pairs_stop (a b c d e n : Int) : pairsS [0, a, a, n - 1, 0, b, b, 10000, 0, c, c, d, d, 10000, 0, e, e, 10000] 9 = stopOk a b c d e n := by
  rw [Bool.eq_iff_iff]
  simp only [pairsS, stopOk, List.all_eq_true, List.mem_range, decide_eq_true_eq, Bool.and_eq_true, fit_iff]
  constructor
  · intro q
    have q0 := q 0 (by omega); have q1 := q 1 (by omega); have q2 := q 2 (by omega); have q3 := q 3 (by omega); have q4 := q 4 (by omega)
    have q5 := q 5 (by omega); have q6 := q 6 (by omega); have q7 := q 7 (by omega); have q8 := q 8 (by omega)
    simp at q0 q1 q2 q3 q4 q5 q6 q7 q8
    omega
  · intro q i hi
    match i, hi with
    | 0, _ => simp; omega
    | 1, _ => simp; omega
    | 2, _ => simp; omega
    | 3, _ => simp; omega
    | 4, _ => simp; omega
    | 5, _ => simp; omega
    | 6, _ => simp; omega
    | 7, _ => simp; omega
    | 8, _ => simp; omega
theorem pairs_road (a b c n : Int) : pairsS [0, a, a, n - 1, 0, b, b, n - 1, 0, c, c, 10000] 6 = roadOk a b c n := by
  rw [Bool.eq_iff_iff]
  simp only [pairsS, roadOk, List.all_eq_true, List.mem_range, decide_eq_true_eq, Bool.and_eq_true, fit_iff]
  constructor
  · intro q
    have q0 := q 0 (by omega); have q1 := q 1 (by omega); have q2 := q 2 (by omega); have q3 := q 3 (by omega); have q4 := q 4 (by omega); have q5 := q 5 (by omega)
    simp at q0 q1 q2 q3 q4 q5
    omega
  · intro q i hi
    match i, hi with
    | 0, _ => simp; omega
    | 1, _ => simp; omega
    | 2, _ => simp; omega
    | 3, _ => simp; omega
    | 4, _ => simp; omega
    | 5, _ => simp; omega

set_option maxRecDepth 100000 in
set_option maxHeartbeats 1000000 in
theorem headFine_any (v l c n h : Int) (vs vr : Value) (w : World) (hn : -9223372036854775807 ≤ n ∧ n ≤ 9223372036854775807) :
    Calls Tryz.prog 108 #[.agg #[.int .i64 v, .int .i64 l, .int .i64 c, .int .i64 n, .int .i64 h, vs, vr]] w fun e w' => e = .returned (.bool (headOk v l c n h)) ∧ Below w.heap.size w w' := by
  obtain ⟨hn1, hn2⟩ := hn
  go_enter Tryz.func108, Tryz.ntmps108
  go_wp2_with fail
  refine (between_walk (w.heap.size + 1) 10 20 20 [1, v, v, 3, 0, l, l, 10000, 0, c, c, 10000, 1, n, n, 12, 0, h, h, n - 1] _ rfl (by omega) (by simp) (cells_of [1, v, v, 3, 0, l, l, 10000, 0, c, c, 10000, 1, n, n, 12, 0, h, h, n - 1] (t := 3) (new_second _ _ _))).mono ?_
  rintro e1 w1 ⟨rfl, hb1⟩
  rw [pairs_head]
  have HB : Hid (Below w.heap.size w w1) := (below2 w _ _).trans (hb1.mono (by simp; omega))
  clear hb1
  go_wp2
  go_ret
  exact ⟨rfl, HB.out⟩
set_option maxRecDepth 100000 in
set_option maxHeartbeats 1000000 in
theorem stopFine_any (a b c d e n : Int) (w : World) (hn : -9223372036854775807 ≤ n ∧ n ≤ 9223372036854775807) :
    Calls Tryz.prog 109 #[.agg #[.int .i64 a, .int .i64 b, .int .i64 c, .int .i64 d, .int .i64 e], .int .i64 n] w fun r w' => r = .returned (.bool (stopOk a b c d e n)) ∧ Below w.heap.size w w' := by
  obtain ⟨hn1, hn2⟩ := hn
  go_enter Tryz.func109, Tryz.ntmps109
  go_wp2_with fail
  refine (between_walk (w.heap.size + 1) 9 18 18 [0, a, a, n - 1, 0, b, b, 10000, 0, c, c, d, d, 10000, 0, e, e, 10000] _ rfl (by omega) (by simp) (cells_of [0, a, a, n - 1, 0, b, b, 10000, 0, c, c, d, d, 10000, 0, e, e, 10000] (t := 3) (new_second _ _ _))).mono ?_
  rintro e1 w1 ⟨rfl, hb1⟩
  rw [pairs_stop]
  have HB : Hid (Below w.heap.size w w1) := (below2 w _ _).trans (hb1.mono (by simp; omega))
  clear hb1
  go_wp2
  go_ret
  exact ⟨rfl, HB.out⟩
set_option maxRecDepth 100000 in
set_option maxHeartbeats 1000000 in
theorem roadFine_any (a b c n : Int) (w : World) (hn : -9223372036854775807 ≤ n ∧ n ≤ 9223372036854775807) :
    Calls Tryz.prog 110 #[.agg #[.int .i64 a, .int .i64 b, .int .i64 c], .int .i64 n] w fun e w' => e = .returned (.bool (roadOk a b c n)) ∧ Below w.heap.size w w' := by
  obtain ⟨hn1, hn2⟩ := hn
  go_enter Tryz.func110, Tryz.ntmps110
  go_wp2_with fail
  refine (between_walk (w.heap.size + 1) 6 12 12 [0, a, a, n - 1, 0, b, b, n - 1, 0, c, c, 10000] _ rfl (by omega) (by simp) (cells_of [0, a, a, n - 1, 0, b, b, n - 1, 0, c, c, 10000] (t := 3) (new_second _ _ _))).mono ?_
  rintro e1 w1 ⟨rfl, hb1⟩
  rw [pairs_road]
  have HB : Hid (Below w.heap.size w w1) := (below2 w _ _).trans (hb1.mono (by simp; omega))
  clear hb1
  go_wp2
  go_ret
  exact ⟨rfl, HB.out⟩
end Go.Proofs.YtebinaopncclgaaGreatDoor
namespace Go.Proofs.YtebinaopncclgaaGreatDoor
open Go.RowKit Go.IntWalk

/- the words of a line, in memory -/
structure Words (w : World) (g : Nat) (f : List UInt8) (fs : List (List UInt8)) : Prop where
  lt : g < w.heap.size
  head : w.cell? ⟨g, 0, none⟩ = some (.string ⟨f.toArray⟩)
  rest : ∀ i (hi : i < fs.length), w.cell? ⟨g, i + 1, none⟩ = some (.string ⟨(fs[i]).toArray⟩)
theorem Words.below {w w' : World} {g : Nat} {f : List UInt8} {fs : List (List UInt8)} (h : Words w g f fs) (hb : Below w.heap.size w w') : Words w' g f fs :=
  ⟨Nat.lt_of_lt_of_le h.lt hb.size, by rw [hb.cell (by exact h.lt)]; exact h.head, fun i hi => by rw [hb.cell (by exact h.lt)]; exact h.rest i hi⟩

def put5 (w : World) (b : Nat) (u0 u1 u2 u3 u4 : Value) : World := ((((w.setCell ⟨b, 0, none⟩ u0).setCell ⟨b, 1, none⟩ u1).setCell ⟨b, 2, none⟩ u2).setCell ⟨b, 3, none⟩ u3).setCell ⟨b, 4, none⟩ u4
theorem put5_same {w : World} {b : Nat} {x0 x1 x2 x3 x4 x5 x6 : Value} {t : TypeId} (h : w.heap[b]? = some (.cells #[x0, x1, x2, x3, x4, x5, x6] t (0, 0))) (u0 u1 u2 u3 u4 : Value) :
    (put5 w b u0 u1 u2 u3 u4).heap[b]? = some (.cells #[u0, u1, u2, u3, u4, x5, x6] t (0, 0)) := by
  have k1 := heap_setCell_same w b 0 _ _ u0 h
  have k2 := heap_setCell_same _ b 1 _ _ u1 k1
  have k3 := heap_setCell_same _ b 2 _ _ u2 k2
  have k4 := heap_setCell_same _ b 3 _ _ u3 k3
  have k5 := heap_setCell_same _ b 4 _ _ u4 k4
  exact k5
theorem put5_other {w : World} {b k : Nat} (h : k ≠ b) (u0 u1 u2 u3 u4 : Value) : (put5 w b u0 u1 u2 u3 u4).heap[k]? = w.heap[k]? := by
  unfold put5
  rw [Below.heap_setCell _ _ _ _ h, Below.heap_setCell _ _ _ _ h, Below.heap_setCell _ _ _ _ h, Below.heap_setCell _ _ _ _ h, Below.heap_setCell _ _ _ _ h]
theorem put5_below (B b : Nat) (w : World) (hB : B ≤ b) (u0 u1 u2 u3 u4 : Value) : Below B w (put5 w b u0 u1 u2 u3 u4) :=
  (((((Below.refl B w).setCell hB u0).setCell hB u1).setCell hB u2).setCell hB u3).setCell hB u4
theorem seven {w : World} {b : Nat} {x0 x1 x2 x3 x4 x5 x6 : Value} {t : TypeId} (h : w.heap[b]? = some (.cells #[x0, x1, x2, x3, x4, x5, x6] t (0, 0))) :
    w.cell? ⟨b, 0, none⟩ = some x0 ∧ w.cell? ⟨b, 1, none⟩ = some x1 ∧ w.cell? ⟨b, 2, none⟩ = some x2 ∧ w.cell? ⟨b, 3, none⟩ = some x3 ∧ w.cell? ⟨b, 4, none⟩ = some x4 ∧ w.cell? ⟨b, 5, none⟩ = some x5 ∧ w.cell? ⟨b, 6, none⟩ = some x6 ∧ ∀ o, w.frozen? ⟨b, o, none⟩ = false := by
  refine ⟨?_, ?_, ?_, ?_, ?_, ?_, ?_, fun o => frozen_of_row w b o _ _ h⟩ <;> (rw [cell_of_row w b _ _ _ _ h]; rfl)

set_option maxRecDepth 100000 in
set_option maxHeartbeats 1000000 in
theorem taken_D (g cap : Nat) (r : Rd) (vs vr : Value) (fs : List (List UInt8)) (a b c d e : Int) (w : World) (hw : Words w g [68] fs) (hv : fs.map numV = [a, b, c, d, e]) (hok : fs.all numOk = true)
    (n m : Nat) (aq ar : Option Addr) (cs cr : Nat) (ho1 : vs = .slice aq n cs) (ho2 : vr = .slice ar m cr) :
    Calls Tryz.prog 63 #[inst r vs vr, .slice (some ⟨g, 0, none⟩) 6 cap] w fun q w' => q = .returned (.tuple #[.agg #[.int .i64 a, .int .i64 b, .int .i64 c, .int .i64 d, .int .i64 e, vs, vr], .int .i64 (if headOk a b c d e = true then 0 else 4)]) ∧ Below w.heap.size w w' := by
  subst ho1 ho2
  have hl : fs.length = 5 := by have := congrArg List.length hv; simpa using this
  have hd : 0 ≤ d ∧ d ≤ 99999 := by
    have h := congrArg (fun l => l[3]?) hv
    simp [hl] at h
    rw [← h]; exact numV_range _
  have hcon := fun W (hW : Below w.heap.size w W) => values_walk g cap 6 fs W (by omega) (by omega) hok (hw.below hW).lt (hw.below hW).rest
  rw [hv] at hcon
  have HV := hid hcon
  have HWD := hid hw
  clear hcon hw hv hok
  unfold inst
  go_enter Tryz.func63, Tryz.ntmps63
  go_wp2_with fail
  refine (HV.out _ (below2 w _ _)).mono ?_
  rintro e1 w1 ⟨v, rfl, hown, hb1⟩
  obtain ⟨gv, capv, cur, rfl, hgb, hgv, _⟩ := own_shape hown (by simp)
  have hgl : gv < w1.heap.size := (Array.getElem?_eq_some_iff.1 hgv).1
  have v0 : w1.cell? ⟨gv, 0, none⟩ = some (.int .i64 a) := by rw [hown.cellAt 0 (by simp)]; rfl
  have v1 : w1.cell? ⟨gv, 1, none⟩ = some (.int .i64 b) := by rw [hown.cellAt 1 (by simp)]; rfl
  have v2 : w1.cell? ⟨gv, 2, none⟩ = some (.int .i64 c) := by rw [hown.cellAt 2 (by simp)]; rfl
  have v3 : w1.cell? ⟨gv, 3, none⟩ = some (.int .i64 d) := by rw [hown.cellAt 3 (by simp)]; rfl
  have v4 : w1.cell? ⟨gv, 4, none⟩ = some (.int .i64 e) := by rw [hown.cellAt 4 (by simp)]; rfl
  have hx : w1.heap[w.heap.size]? = some (.cells #[.int .i64 r.vans, .int .i64 r.load, .int .i64 r.close, .int .i64 r.nodes, .int .i64 r.home, .slice aq n cs, .slice ar m cr] 36 (0, 0)) := by
    rw [hb1.block _ (by simp; omega), Below.heap_alloc _ _ _ (by simp)]; exact heap_alloc_new w _
  have hz : w1.heap[w.heap.size + 1]? = some (.cells zero7 36 (0, 0)) := by
    rw [hb1.block _ (by simp)]; exact new_second _ _ _
  have hg0 : w1.cell? ⟨g, 0, none⟩ = some (.string ⟨#[68]⟩) := ((HWD.out.below (below2 w _ _)).below hb1).head
  have hgw : g < w.heap.size := HWD.out.lt
  have HW1 : Hid (Below w.heap.size w w1) := (below2 w _ _).trans (hb1.mono (by simp; omega))
  have hzs : w.heap.size + 1 < w1.heap.size := (Array.getElem?_eq_some_iff.1 hz).1
  have x5 : w1.cell? ⟨w.heap.size, 5, none⟩ = some (.slice aq n cs) := by rw [cell_of_row _ _ _ _ _ _ hx]; rfl
  have x6 : w1.cell? ⟨w.heap.size, 6, none⟩ = some (.slice ar m cr) := by rw [cell_of_row _ _ _ _ _ _ hx]; rfl
  have hne : gv ≠ w.heap.size := by simp at hgb; omega
  have hfx : ∀ o, w1.frozen? ⟨w.heap.size, o, none⟩ = false := fun o => frozen_of_row w1 _ o _ _ hx
  have HX := hid hx
  have HZ := hid hz
  have y0 : w1.cell? ⟨w.heap.size, 0, none⟩ = some (.int .i64 r.vans) := by rw [cell_of_row _ _ _ _ _ _ hx]; rfl
  have y1 : w1.cell? ⟨w.heap.size, 1, none⟩ = some (.int .i64 r.load) := by rw [cell_of_row _ _ _ _ _ _ hx]; rfl
  have y2 : w1.cell? ⟨w.heap.size, 2, none⟩ = some (.int .i64 r.close) := by rw [cell_of_row _ _ _ _ _ _ hx]; rfl
  have y3 : w1.cell? ⟨w.heap.size, 3, none⟩ = some (.int .i64 r.nodes) := by rw [cell_of_row _ _ _ _ _ _ hx]; rfl
  have y4 : w1.cell? ⟨w.heap.size, 4, none⟩ = some (.int .i64 r.home) := by rw [cell_of_row _ _ _ _ _ _ hx]; rfl
  clear hx hz hown hb1 HV hgv hgb HWD
  go_wp2_with fail
  refine (headFine_any a b c d e (.slice aq n cs) (.slice ar m cr) _ (by omega)).mono ?_
  rintro e2 w2 ⟨rfl, hb2⟩
  have hbl : Below (put5 w1 w.heap.size (.int .i64 a) (.int .i64 b) (.int .i64 c) (.int .i64 d) (.int .i64 e)).heap.size (put5 w1 w.heap.size (.int .i64 a) (.int .i64 b) (.int .i64 c) (.int .i64 d) (.int .i64 e)) w2 := hb2
  have hps := (put5_below w.heap.size w.heap.size w1 (Nat.le_refl _) (.int .i64 a) (.int .i64 b) (.int .i64 c) (.int .i64 d) (.int .i64 e)).size
  have hx2 : w2.heap[w.heap.size]? = some (.cells #[.int .i64 a, .int .i64 b, .int .i64 c, .int .i64 d, .int .i64 e, .slice aq n cs, .slice ar m cr] 36 (0, 0)) := by
    rw [hbl.block _ (by omega)]; exact put5_same HX.out _ _ _ _ _
  have hz2 : w2.heap[w.heap.size + 1]? = some (.cells zero7 36 (0, 0)) := by
    rw [hbl.block _ (by omega), put5_other (by omega)]; exact HZ.out
  have HW2 : Hid (Below w.heap.size w w2) := (HW1.out.trans (put5_below w.heap.size w.heap.size w1 (Nat.le_refl _) _ _ _ _ _)).trans (hbl.mono (by omega))
  obtain ⟨q0, q1, q2, q3, q4, q5, q6, qf⟩ := seven hx2
  obtain ⟨p0, p1, p2, p3, p4, p5, p6, pf⟩ := box7 hz2
  have hzl2 : w.heap.size + 1 < w2.heap.size := (Array.getElem?_eq_some_iff.1 hz2).1
  clear hb2 hbl hx2 hz2 HX HZ v0 v1 v2 v3 v4 x5 x6 y0 y1 y2 y3 y4 hfx hg0 HW1
  clear hps hne hzs hgl hd hl hgw qf
  cases hok2 : headOk a b c d e
  · go_wp2_with fail
    all_goals
      first
        | (exfalso; simp_all; done)
        | (refine bodyPost_ret (v := .tuple #[.agg #[.int .i64 a, .int .i64 b, .int .i64 c, .int .i64 d, .int .i64 e, .slice aq n cs, .slice ar m cr], .int .i64 4]) (by simp [results, Tryz.results63, go_sem, p0, p1, p2, p3, p4, p5, p6]) rfl ?_
           exact ⟨rfl, HW2.out.trans (below_put7 _ _ _ (by omega) _ _ _ _ _ _ _)⟩)
  · go_wp2_with fail
    all_goals
      first
        | (exfalso; simp_all; done)
        | (refine bodyPost_ret (v := .tuple #[.agg #[.int .i64 a, .int .i64 b, .int .i64 c, .int .i64 d, .int .i64 e, .slice aq n cs, .slice ar m cr], .int .i64 0]) (by simp [results, Tryz.results63, go_sem, p0, p1, p2, p3, p4, p5, p6]) rfl ?_
           exact ⟨rfl, HW2.out.trans (below_put7 _ _ _ (by omega) _ _ _ _ _ _ _)⟩)
end Go.Proofs.YtebinaopncclgaaGreatDoor
