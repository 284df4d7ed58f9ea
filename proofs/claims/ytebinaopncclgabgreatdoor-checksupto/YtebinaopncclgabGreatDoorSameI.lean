/- Walks of the statements: the same instance? (where it is) -/
import Derived.Test.YtebinaopncclgabGreatDoorRefC
import Derived.Test.YtebinaopncclgabGreatDoorParse
import Derived.Deep.RegionHeld3
namespace Go.Proofs.YtebinaopncclgabGreatDoor
open Go.RowKit Go.IntWalk

theorem cells_of {w : World} {b : Nat} {t : TypeId} (zs : List Int) (h : w.heap[b]? = some (.cells (ints zs).toArray t (0, 0))) : ∀ i, i < zs.length → w.cell? ⟨b, i, none⟩ = some (.int .i64 (zs.getD i 0)) := by
  intro i hi
  rw [cell_of_row w b i _ _ _ h]
  simp [ints, hi]
theorem new_second (w : World) (o o' : Obj) : ((w.alloc o).alloc o').heap[w.heap.size + 1]? = some o' := by
  have h := heap_alloc_new (w.alloc o) o'
  rw [World.size_alloc] at h; exact h
theorem pairs_head (v l c n h : Int) : pairsS [1, v, v, 3, 0, l, l, 10000, 0, c, c, 10000, 1, n, n, 12, 0, h, h, n - 1] 10 = headOk v l c n h := by
  rw [Bool.eq_iff_iff]
  simp only [pairsS, headOk, List.all_eq_true, List.mem_range, decide_eq_true_eq, Bool.and_eq_true, fit_iff]
  constructor
  · intro q
    have q0 := q 0 (by omega); have q1 := q 1 (by omega); have q2 := q 2 (by omega); have q3 := q 3 (by omega); have q4 := q 4 (by omega)
    have q5 := q 5 (by omega); have q6 := q 6 (by omega); have q7 := q 7 (by omega); have q8 := q 8 (by omega); have q9 := q 9 (by omega)
    simp at q0 q1 q2 q3 q4 q5 q6 q7 q8 q9
    omega
  · intro q i hi
    match i, hi with
    | 0, _ => simp; omega
    | 1, _ => simp; omega
    | 2, _ => simp; omega
    | 3, _ => simp; omega
    | 4, _ => simp; omega
    | 5, _ => simp; omega
    | 6, _ => simp; omega
    | 7, _ => simp; omega
    | 8, _ => simp; omega
    | 9, _ => simp; omega
theorem pairs_stop (a b c d e n : Int) : pairsS [0, a, a, n - 1, 0, b, b, 10000, 0, c, c, d, d, 10000, 0, e, e, 10000] 9 = stopOk a b c d e n := by
  rw [Bool.eq_iff_iff]
  simp only [pairsS, stopOk, List.all_eq_true, List.mem_range, decide_eq_true_eq, Bool.and_eq_true, fit_iff]
  constructor
  · intro q
    have q0 := q 0 (by omega); have q1 := q 1 (by omega); have q2 := q 2 (by omega); have q3 := q 3 (by omega); have q4 := q 4 (by omega)
    have q5 := q 5 (by omega); have q6 := q 6 (by omega); have q7 := q 7 (by omega); have q8 := q 8 (by omega)
    simp at q0 q1 q2 q3 q4 q5 q6 q7 q8
    omega
  · intro q i hi
    match i, hi with
    | 0, _ => simp; omega
    | 1, _ => simp; omega
    | 2, _ => simp; omega
    | 3, _ => simp; omega
    | 4, _ => simp; omega
    | 5, _ => simp; omega
    | 6, _ => simp; omega
    | 7, _ => simp; omega
    | 8, _ => simp; omega
theorem pairs_road (a b c n : Int) : pairsS [0, a, a, n - 1, 0, b, b, n - 1, 0, c, c, 10000] 6 = roadOk a b c n := by
  rw [Bool.eq_iff_iff]
  simp only [pairsS, roadOk, List.all_eq_true, List.mem_range, decide_eq_true_eq, Bool.and_eq_true, fit_iff]
  constructor
  · intro q
    have q0 := q 0 (by omega); have q1 := q 1 (by omega); have q2 := q 2 (by omega); have q3 := q 3 (by omega); have q4 := q 4 (by omega); have q5 := q 5 (by omega)
    simp at q0 q1 q2 q3 q4 q5
    omega
  · intro q i hi
    match i, hi with
    | 0, _ => simp; omega
    | 1, _ => simp; omega
    | 2, _ => simp; omega
    | 3, _ => simp; omega
    | 4, _ => simp; omega
    | 5, _ => simp; omega

set_option maxRecDepth 100000 in
set_option maxHeartbeats 1000000 in
theorem headFine_any (v l c n h : Int) (vs vr : Value) (w : World) (hn : -9223372036854775807 ≤ n ∧ n ≤ 9223372036854775807) :
    Calls Tryz.prog 156 #[.agg #[.int .i64 v, .int .i64 l, .int .i64 c, .int .i64 n, .int .i64 h, vs, vr]] w fun e w' => e = .returned (.bool (headOk v l c n h)) ∧ Below w.heap.size w w' := by
  obtain ⟨hn1, hn2⟩ := hn
  go_enter Tryz.func156, Tryz.ntmps156
  go_wp2_with fail
  refine (between_walk (w.heap.size + 1) 10 20 20 [1, v, v, 3, 0, l, l, 10000, 0, c, c, 10000, 1, n, n, 12, 0, h, h, n - 1] _ rfl (by omega) (by simp) (cells_of [1, v, v, 3, 0, l, l, 10000, 0, c, c, 10000, 1, n, n, 12, 0, h, h, n - 1] (t := 3) (new_second _ _ _))).mono ?_
  rintro e1 w1 ⟨rfl, hb1⟩
  rw [pairs_head]
  have HB : Hid (Below w.heap.size w w1) := (below2 w _ _).trans (hb1.mono (by simp; omega))
  clear hb1
  go_wp2
  go_ret
  exact ⟨rfl, HB.out⟩
set_option maxRecDepth 100000 in
set_option maxHeartbeats 1000000 in
theorem stopFine_any (a b c d e n : Int) (w : World) (hn : -9223372036854775807 ≤ n ∧ n ≤ 9223372036854775807) :
    Calls Tryz.prog 157 #[.agg #[.int .i64 a, .int .i64 b, .int .i64 c, .int .i64 d, .int .i64 e], .int .i64 n] w fun r w' => r = .returned (.bool (stopOk a b c d e n)) ∧ Below w.heap.size w w' := by
  obtain ⟨hn1, hn2⟩ := hn
  go_enter Tryz.func157, Tryz.ntmps157
  go_wp2_with fail
  refine (between_walk (w.heap.size + 1) 9 18 18 [0, a, a, n - 1, 0, b, b, 10000, 0, c, c, d, d, 10000, 0, e, e, 10000] _ rfl (by omega) (by simp) (cells_of [0, a, a, n - 1, 0, b, b, 10000, 0, c, c, d, d, 10000, 0, e, e, 10000] (t := 3) (new_second _ _ _))).mono ?_
  rintro e1 w1 ⟨rfl, hb1⟩
  rw [pairs_stop]
  have HB : Hid (Below w.heap.size w w1) := (below2 w _ _).trans (hb1.mono (by simp; omega))
  clear hb1
  go_wp2
  go_ret
  exact ⟨rfl, HB.out⟩
set_option maxRecDepth 100000 in
set_option maxHeartbeats 1000000 in
theorem roadFine_any (a b c n : Int) (w : World) (hn : -9223372036854775807 ≤ n ∧ n ≤ 9223372036854775807) :
    Calls Tryz.prog 158 #[.agg #[.int .i64 a, .int .i64 b, .int .i64 c], .int .i64 n] w fun e w' => e = .returned (.bool (roadOk a b c n)) ∧ Below w.heap.size w w' := by
  obtain ⟨hn1, hn2⟩ := hn
  go_enter Tryz.func158, Tryz.ntmps158
  go_wp2_with fail
  refine (between_walk (w.heap.size + 1) 6 12 12 [0, a, a, n - 1, 0, b, b, n - 1, 0, c, c, 10000] _ rfl (by omega) (by simp) (cells_of [0, a, a, n - 1, 0, b, b, n - 1, 0, c, c, 10000] (t := 3) (new_second _ _ _))).mono ?_
  rintro e1 w1 ⟨rfl, hb1⟩
  rw [pairs_road]
  have HB : Hid (Below w.heap.size w w1) := (below2 w _ _).trans (hb1.mono (by simp; omega))
  clear hb1
  go_wp2
  go_ret
  exact ⟨rfl, HB.out⟩
end Go.Proofs.YtebinaopncclgabGreatDoor
namespace Go.Proofs.YtebinaopncclgabGreatDoor
open Go.RowKit Go.IntWalk

/- the words of a line, in memory -/
structure Words (w : World) (g : Nat) (f : List UInt8) (fs : List (List UInt8)) : Prop where
  lt : g < w.heap.size
  head : w.cell? ⟨g, 0, none⟩ = some (.string ⟨f.toArray⟩)
  rest : ∀ i (hi : i < fs.length), w.cell? ⟨g, i + 1, none⟩ = some (.string ⟨(fs[i]).toArray⟩)
theorem Words.below {w w' : World} {g : Nat} {f : List UInt8} {fs : List (List UInt8)} (h : Words w g f fs) (hb : Below w.heap.size w w') : Words w' g f fs :=
  ⟨Nat.lt_of_lt_of_le h.lt hb.size, by rw [hb.cell (by exact h.lt)]; exact h.head, fun i hi => by rw [hb.cell (by exact h.lt)]; exact h.rest i hi⟩

def put5 (w : World) (b : Nat) (u0 u1 u2 u3 u4 : Value) : World := ((((w.setCell ⟨b, 0, none⟩ u0).setCell ⟨b, 1, none⟩ u1).setCell ⟨b, 2, none⟩ u2).setCell ⟨b, 3, none⟩ u3).setCell ⟨b, 4, none⟩ u4
theorem put5_same {w : World} {b : Nat} {x0 x1 x2 x3 x4 x5 x6 : Value} {t : TypeId} (h : w.heap[b]? = some (.cells #[x0, x1, x2, x3, x4, x5, x6] t (0, 0))) (u0 u1 u2 u3 u4 : Value) :
    (put5 w b u0 u1 u2 u3 u4).heap[b]? = some (.cells #[u0, u1, u2, u3, u4, x5, x6] t (0, 0)) := by
  have k1 := heap_setCell_same w b 0 _ _ u0 h
  have k2 := heap_setCell_same _ b 1 _ _ u1 k1
  have k3 := heap_setCell_same _ b 2 _ _ u2 k2
  have k4 := heap_setCell_same _ b 3 _ _ u3 k3
  have k5 := heap_setCell_same _ b 4 _ _ u4 k4
  exact k5
theorem put5_other {w : World} {b k : Nat} (h : k ≠ b) (u0 u1 u2 u3 u4 : Value) : (put5 w b u0 u1 u2 u3 u4).heap[k]? = w.heap[k]? := by
  unfold put5
  rw [Below.heap_setCell _ _ _ _ h, Below.heap_setCell _ _ _ _ h, Below.heap_setCell _ _ _ _ h, Below.heap_setCell _ _ _ _ h, Below.heap_setCell _ _ _ _ h]
theorem put5_below (B b : Nat) (w : World) (hB : B ≤ b) (u0 u1 u2 u3 u4 : Value) : Below B w (put5 w b u0 u1 u2 u3 u4) :=
  (((((Below.refl B w).setCell hB u0).setCell hB u1).setCell hB u2).setCell hB u3).setCell hB u4
theorem seven {w : World} {b : Nat} {x0 x1 x2 x3 x4 x5 x6 : Value} {t : TypeId} (h : w.heap[b]? = some (.cells #[x0, x1, x2, x3, x4, x5, x6] t (0, 0))) :
    w.cell? ⟨b, 0, none⟩ = some x0 ∧ w.cell? ⟨b, 1, none⟩ = some x1 ∧ w.cell? ⟨b, 2, none⟩ = some x2 ∧ w.cell? ⟨b, 3, none⟩ = some x3 ∧ w.cell? ⟨b, 4, none⟩ = some x4 ∧ w.cell? ⟨b, 5, none⟩ = some x5 ∧ w.cell? ⟨b, 6, none⟩ = some x6 ∧ ∀ o, w.frozen? ⟨b, o, none⟩ = false := by
  refine ⟨?_, ?_, ?_, ?_, ?_, ?_, ?_, fun o => frozen_of_row w b o _ _ h⟩ <;> (rw [cell_of_row w b _ _ _ _ h]; rfl)

set_option maxRecDepth 100000 in
set_option maxHeartbeats 1000000 in
theorem taken_D (g cap : Nat) (r : Rd) (vs vr : Value) (fs : List (List UInt8)) (a b c d e : Int) (w : World) (hw : Words w g [68] fs) (hv : fs.map numV = [a, b, c, d, e]) (hok : fs.all numOk = true)
    (n m : Nat) (aq ar : Option Addr) (cs cr : Nat) (ho1 : vs = .slice aq n cs) (ho2 : vr = .slice ar m cr) :
    Calls Tryz.prog 97 #[inst r vs vr, .slice (some ⟨g, 0, none⟩) 6 cap] w fun q w' => q = .returned (.tuple #[.agg #[.int .i64 a, .int .i64 b, .int .i64 c, .int .i64 d, .int .i64 e, vs, vr], .int .i64 (if headOk a b c d e = true then 0 else 4)]) ∧ Below w.heap.size w w' := by
  subst ho1 ho2
  have hl : fs.length = 5 := by have := congrArg List.length hv; simpa using this
  have hd : 0 ≤ d ∧ d ≤ 99999 := by
    have h := congrArg (fun l => l[3]?) hv
    simp [hl] at h
    rw [← h]; exact numV_range _
  have hcon := fun W (hW : Below w.heap.size w W) => values_walk g cap 6 fs W (by omega) (by omega) hok (hw.below hW).lt (hw.below hW).rest
  rw [hv] at hcon
  have HV := hid hcon
  have HWD := hid hw
  clear hcon hw hv hok
  unfold inst
  go_enter Tryz.func97, Tryz.ntmps97
  go_wp2_with fail
  refine (HV.out _ (below2 w _ _)).mono ?_
  rintro e1 w1 ⟨v, rfl, hown, hb1⟩
  obtain ⟨gv, capv, cur, rfl, hgb, hgv, _⟩ := own_shape hown (by simp)
  have hgl : gv < w1.heap.size := (Array.getElem?_eq_some_iff.1 hgv).1
  have v0 : w1.cell? ⟨gv, 0, none⟩ = some (.int .i64 a) := by rw [hown.cellAt 0 (by simp)]; rfl
  have v1 : w1.cell? ⟨gv, 1, none⟩ = some (.int .i64 b) := by rw [hown.cellAt 1 (by simp)]; rfl
  have v2 : w1.cell? ⟨gv, 2, none⟩ = some (.int .i64 c) := by rw [hown.cellAt 2 (by simp)]; rfl
  have v3 : w1.cell? ⟨gv, 3, none⟩ = some (.int .i64 d) := by rw [hown.cellAt 3 (by simp)]; rfl
  have v4 : w1.cell? ⟨gv, 4, none⟩ = some (.int .i64 e) := by rw [hown.cellAt 4 (by simp)]; rfl
  have hx : w1.heap[w.heap.size]? = some (.cells #[.int .i64 r.vans, .int .i64 r.load, .int .i64 r.close, .int .i64 r.nodes, .int .i64 r.home, .slice aq n cs, .slice ar m cr] 28 (0, 0)) := by
    rw [hb1.block _ (by simp; omega), Below.heap_alloc _ _ _ (by simp)]; exact heap_alloc_new w _
  have hz : w1.heap[w.heap.size + 1]? = some (.cells zero7 28 (0, 0)) := by
    rw [hb1.block _ (by simp)]; exact new_second _ _ _
  have hg0 : w1.cell? ⟨g, 0, none⟩ = some (.string ⟨#[68]⟩) := ((HWD.out.below (below2 w _ _)).below hb1).head
  have hgw : g < w.heap.size := HWD.out.lt
  have HW1 : Hid (Below w.heap.size w w1) := (below2 w _ _).trans (hb1.mono (by simp; omega))
  have hzs : w.heap.size + 1 < w1.heap.size := (Array.getElem?_eq_some_iff.1 hz).1
  have x5 : w1.cell? ⟨w.heap.size, 5, none⟩ = some (.slice aq n cs) := by rw [cell_of_row _ _ _ _ _ _ hx]; rfl
  have x6 : w1.cell? ⟨w.heap.size, 6, none⟩ = some (.slice ar m cr) := by rw [cell_of_row _ _ _ _ _ _ hx]; rfl
  have hne : gv ≠ w.heap.size := by simp at hgb; omega
  have hfx : ∀ o, w1.frozen? ⟨w.heap.size, o, none⟩ = false := fun o => frozen_of_row w1 _ o _ _ hx
  have HX := hid hx
  have HZ := hid hz
  have y0 : w1.cell? ⟨w.heap.size, 0, none⟩ = some (.int .i64 r.vans) := by rw [cell_of_row _ _ _ _ _ _ hx]; rfl
  have y1 : w1.cell? ⟨w.heap.size, 1, none⟩ = some (.int .i64 r.load) := by rw [cell_of_row _ _ _ _ _ _ hx]; rfl
  have y2 : w1.cell? ⟨w.heap.size, 2, none⟩ = some (.int .i64 r.close) := by rw [cell_of_row _ _ _ _ _ _ hx]; rfl
  have y3 : w1.cell? ⟨w.heap.size, 3, none⟩ = some (.int .i64 r.nodes) := by rw [cell_of_row _ _ _ _ _ _ hx]; rfl
  have y4 : w1.cell? ⟨w.heap.size, 4, none⟩ = some (.int .i64 r.home) := by rw [cell_of_row _ _ _ _ _ _ hx]; rfl
  clear hx hz hown hb1 HV hgv hgb HWD
  go_wp2_with fail
  refine (headFine_any a b c d e (.slice aq n cs) (.slice ar m cr) _ (by omega)).mono ?_
  rintro e2 w2 ⟨rfl, hb2⟩
  have hbl : Below (put5 w1 w.heap.size (.int .i64 a) (.int .i64 b) (.int .i64 c) (.int .i64 d) (.int .i64 e)).heap.size (put5 w1 w.heap.size (.int .i64 a) (.int .i64 b) (.int .i64 c) (.int .i64 d) (.int .i64 e)) w2 := hb2
  have hps := (put5_below w.heap.size w.heap.size w1 (Nat.le_refl _) (.int .i64 a) (.int .i64 b) (.int .i64 c) (.int .i64 d) (.int .i64 e)).size
  have hx2 : w2.heap[w.heap.size]? = some (.cells #[.int .i64 a, .int .i64 b, .int .i64 c, .int .i64 d, .int .i64 e, .slice aq n cs, .slice ar m cr] 28 (0, 0)) := by
    rw [hbl.block _ (by omega)]; exact put5_same HX.out _ _ _ _ _
  have hz2 : w2.heap[w.heap.size + 1]? = some (.cells zero7 28 (0, 0)) := by
    rw [hbl.block _ (by omega), put5_other (by omega)]; exact HZ.out
  have HW2 : Hid (Below w.heap.size w w2) := (HW1.out.trans (put5_below w.heap.size w.heap.size w1 (Nat.le_refl _) _ _ _ _ _)).trans (hbl.mono (by omega))
  obtain ⟨q0, q1, q2, q3, q4, q5, q6, qf⟩ := seven hx2
  obtain ⟨p0, p1, p2, p3, p4, p5, p6, pf⟩ := box7 hz2
  have hzl2 : w.heap.size + 1 < w2.heap.size := (Array.getElem?_eq_some_iff.1 hz2).1
  clear hb2 hbl hx2 hz2 HX HZ v0 v1 v2 v3 v4 x5 x6 y0 y1 y2 y3 y4 hfx hg0 HW1
  clear hps hne hzs hgl hd hl hgw qf
  cases hok2 : headOk a b c d e
  · go_wp2_with fail
    all_goals
      first
        | (exfalso; simp_all; done)
        | (refine bodyPost_ret (v := .tuple #[.agg #[.int .i64 a, .int .i64 b, .int .i64 c, .int .i64 d, .int .i64 e, .slice aq n cs, .slice ar m cr], .int .i64 4]) (by simp [results, Tryz.results97, go_sem, p0, p1, p2, p3, p4, p5, p6]) rfl ?_
           exact ⟨rfl, HW2.out.trans (below_put7 _ _ _ (by omega) _ _ _ _ _ _ _)⟩)
  · go_wp2_with fail
    all_goals
      first
        | (exfalso; simp_all; done)
        | (refine bodyPost_ret (v := .tuple #[.agg #[.int .i64 a, .int .i64 b, .int .i64 c, .int .i64 d, .int .i64 e, .slice aq n cs, .slice ar m cr], .int .i64 0]) (by simp [results, Tryz.results97, go_sem, p0, p1, p2, p3, p4, p5, p6]) rfl ?_
           exact ⟨rfl, HW2.out.trans (below_put7 _ _ _ (by omega) _ _ _ _ _ _ _)⟩)
end Go.Proofs.YtebinaopncclgabGreatDoor
namespace Go.Proofs.YtebinaopncclgabGreatDoor
open Go.RowKit Go.IntWalk

def tkStop (r : Rd) (a b c d e : Int) : Rd × Int := if r.stops.length = 7 then (r, 3) else ({ r with stops := r.stops ++ [[a, b, c, d, e]] }, if stopOk a b c d e r.nodes = true then 0 else 4)
def tkRoad (r : Rd) (a b c : Int) : Rd × Int := if r.roads.length = 40 then (r, 3) else ({ r with roads := r.roads ++ [[a, b, c]] }, if roadOk a b c r.nodes = true then 0 else 4)
def tkT : List TypeId := [62, 64]
def TkLeft (w : World) (B : Nat) (x : Rd × Int) (q : Ending) (w' : World) : Prop :=
  ∃ vs' vr', q = .returned (.tuple #[inst x.1 vs' vr', .int .i64 x.2]) ∧ w'.ownsRow B 62 5 vs' x.1.stops.length (ints x.1.stops.flatten) ∧ w'.ownsRow B 64 3 vr' x.1.roads.length (ints x.1.roads.flatten) ∧ Below B w w' ∧ Keep tkT w w'

theorem tk_same {w w' : World} {B : Nat} {x : Rd × Int} {r : Rd} {c : Int} {vs vr : Value} (hx : x = (r, c)) (hB : B ≤ w.heap.size) (hs : w.ownsRow B 62 5 vs r.stops.length (ints r.stops.flatten)) (hr : w.ownsRow B 64 3 vr r.roads.length (ints r.roads.flatten)) (hb : Below w.heap.size w w') :
    TkLeft w B x (.returned (.tuple #[inst r vs vr, .int .i64 c])) w' := by
  subst hx
  exact ⟨vs, vr, rfl, own_below hs hb, own_below hr hb, hb.mono hB, Keep.of_below hb⟩

/- what stands behind the call of values -/
structure TkAt (w w1 : World) (g : Nat) (f : List UInt8) (r : Rd) (vs vr : Value) : Prop where
  x : w1.heap[w.heap.size]? = some (.cells #[.int .i64 r.vans, .int .i64 r.load, .int .i64 r.close, .int .i64 r.nodes, .int .i64 r.home, vs, vr] 28 (0, 0))
  z : w1.heap[w.heap.size + 1]? = some (.cells zero7 28 (0, 0))
  f : w1.cell? ⟨g, 0, none⟩ = some (.string ⟨f.toArray⟩)
  g : g < w.heap.size
  b : Below w.heap.size w w1
theorem tk_at {w W w1 : World} {g : Nat} {f : List UInt8} {fs : List (List UInt8)} {r : Rd} {vs vr : Value} (hW : W = (w.alloc (.cells #[.int .i64 r.vans, .int .i64 r.load, .int .i64 r.close, .int .i64 r.nodes, .int .i64 r.home, vs, vr] 28)).alloc (.cells zero7 28)) (hw : Words w g f fs) (hb1 : Below W.heap.size W w1) : TkAt w w1 g f r vs vr := by
  subst hW
  refine ⟨?_, ?_, ((hw.below (below2 w _ _)).below hb1).head, hw.lt, (below2 w _ _).trans (hb1.mono (by simp; omega))⟩
  · rw [hb1.block _ (by simp; omega), Below.heap_alloc _ _ _ (by simp)]; exact heap_alloc_new w _
  · rw [hb1.block _ (by simp)]; exact new_second _ _ _
set_option maxRecDepth 100000 in
set_option maxHeartbeats 1000000 in
theorem taken_S_many (g cap B : Nat) (r : Rd) (vs vr : Value) (fs : List (List UInt8)) (a b c d e : Int) (w : World) (hw : Words w g [83] fs) (hv : fs.map numV = [a, b, c, d, e]) (hok : fs.all numOk = true) (hB : B ≤ w.heap.size)
    (hs : w.ownsRow B 62 5 vs r.stops.length (ints r.stops.flatten)) (hr : w.ownsRow B 64 3 vr r.roads.length (ints r.roads.flatten)) (hl : r.stops.length = 7) :
    Calls Tryz.prog 97 #[inst r vs vr, .slice (some ⟨g, 0, none⟩) 6 cap] w (TkLeft w B (tkStop r a b c d e)) := by
  have hx : tkStop r a b c d e = (r, 3) := by unfold tkStop; rw [if_pos hl]
  have hl5 : fs.length = 5 := by have := congrArg List.length hv; simpa using this
  have hcon := fun W (hW : Below w.heap.size w W) => values_walk g cap 6 fs W (by omega) (by omega) hok (hw.below hW).lt (hw.below hW).rest
  have HV := hid hcon
  have HWD := hid hw
  have HS := hid hs
  have HR := hid hr
  have HX := hid hx
  obtain ⟨avs, cvs, hvs, _, _⟩ := own_val hs
  obtain ⟨avr, cvr, hvr, _, _⟩ := own_val hr
  subst hvs hvr
  clear hcon hw hv hok hs hr hx
  unfold inst
  go_enter Tryz.func97, Tryz.ntmps97
  go_wp2_with fail
  refine (HV.out _ (below2 w _ _)).mono ?_
  rintro e1 w1 ⟨v, rfl, _, hb1⟩
  have HT := hid (tk_at (r := r) rfl HWD.out hb1)
  obtain ⟨y0, y1, y2, y3, y4, y5, y6, qf⟩ := seven HT.out.x
  obtain ⟨p0, p1, p2, p3, p4, p5, p6, pf⟩ := box7 HT.out.z
  have hg0 := HT.out.f
  have hzl : w.heap.size + 1 < w1.heap.size := (Array.getElem?_eq_some_iff.1 HT.out.z).1
  have hgw := HT.out.g
  have hgl : g < w1.heap.size := by omega
  have HB : Hid (Below w.heap.size w w1) := HT.out.b
  have hn7 : ((r.stops.length : Int) == 7) = true := by simp [hl]
  have HL := hid hl
  clear hb1 HV HWD HT hl5 hl
  go_wp2_with fail
  all_goals
    first
      | (exfalso; simp_all; done)
      | (refine bodyPost_ret (v := .tuple #[.agg #[.int .i64 r.vans, .int .i64 r.load, .int .i64 r.close, .int .i64 r.nodes, .int .i64 r.home, .slice avs r.stops.length cvs, .slice avr r.roads.length cvr], .int .i64 3]) (by simp [results, Tryz.results97, go_sem, p0, p1, p2, p3, p4, p5, p6]; try (have := HL.out; omega)) rfl ?_
         exact tk_same HX.out hB HS.out HR.out (HB.out.trans (below_put7 _ _ _ (by omega) _ _ _ _ _ _ _)))

theorem news_b {w X : World} {cs : Array Value} {t : TypeId} {l : List Value} {b : Nat} (hh : X.heap = (w.alloc (.cells cs t)).heap) (hl : l = cs.toList) (hb : w.heap.size = b) : ∀ j u, l[j]? = some u → X.cell? ((⟨b, 0, none⟩ : Addr).add j) = some u := by
  subst hb; exact news_at hl hh
theorem heap_alloc2_first (w : World) (o o' : Obj) : ((w.alloc o).alloc o').drew.heap[w.heap.size]? = some o := by
  show ((w.alloc o).alloc o').heap[w.heap.size]? = some o
  rw [Below.heap_alloc _ _ _ (by simp)]; exact heap_alloc_new w o
theorem grown_box {w1 X w2 : World} {B k size : Nat} {e : TypeId} {v : Value} {zs : List Value} {o : Obj} (hg : X.grownBy w2 v.ownBlock) (hv : w1.ownsRow B e size v k zs) (h : X.heap[w1.heap.size]? = some o) : w2.heap[w1.heap.size]? = some o := by
  rw [hg.block _ (Array.getElem?_eq_some_iff.1 h).1 (fun he => by have := (hv.lt _ he.symm).2; omega)]; exact h
/- behind an append onto a list of the box, and the store of it -/
theorem tk_append {w w1 X w2 : World} {g : Nat} {f : List UInt8} {r : Rd} {vs vr v : Value} {B k size : Nat} {e : TypeId} {zs : List Value} (h : TkAt w w1 g f r vs vr) (hX : Below w1.heap.size w1 X) (hv : w1.ownsRow B e size v k zs) (he : e ∈ tkT) (hB : B ≤ w.heap.size) (hg : X.grownBy w2 v.ownBlock) :
    w2.heap[w.heap.size]? = some (.cells #[.int .i64 r.vans, .int .i64 r.load, .int .i64 r.close, .int .i64 r.nodes, .int .i64 r.home, vs, vr] 28 (0, 0)) ∧ w2.heap[w.heap.size + 1]? = some (.cells zero7 28 (0, 0)) ∧ Below B w w2 ∧ Keep tkT w w2 := by
  have hk : Keep tkT w1 w2 := (Keep.of_below hX).trans (Keep.grown (own_below hv hX) he hg)
  have hs := h.b.size
  have hs1 := hX.size
  exact ⟨hk _ _ _ _ h.x (by decide), hk _ _ _ _ h.z (by decide), (h.b.mono hB).trans ((hX.mono (by omega)).trans ((Below.refl _ _).grown hg (by omega) (fun k hk => (hv.lt k hk).1))), (Keep.of_below h.b).trans hk⟩
theorem seven_at {w : World} {b : Nat} {cs cs' : Array Value} {t : TypeId} (h : w.heap[b]? = some (.cells cs t (0, 0))) (hc : cs = cs' := by rfl) : w.heap[b]? = some (.cells cs' t (0, 0)) := by subst hc; exact h
/- behind the store, and a call that writes nothing -/
theorem tk_left {w w2 w3 : World} {xs : Array Value} {B k m size size' o : Nat} {e e' : TypeId} {v v' u : Value} {zs zs' : List Value}
    (hx : w2.heap[w.heap.size]? = some (.cells xs 28 (0, 0))) (hz : w2.heap[w.heap.size + 1]? = some (.cells zero7 28 (0, 0))) (hb : Below B w w2) (hk : Keep tkT w w2) (ho : w2.ownsRow B e size v k zs) (hr : w2.ownsRow B e' size' v' m zs')
    (he : e ≠ 28) (he' : e' ≠ 28) (_hl : w.heap.size < w2.heap.size) (hB : B ≤ w.heap.size) (h3 : Below (w2.setCell ⟨w.heap.size, o, none⟩ u).heap.size (w2.setCell ⟨w.heap.size, o, none⟩ u) w3) :
    w3.heap[w.heap.size]? = some (.cells (xs.setIfInBounds o u) 28 (0, 0)) ∧ w3.heap[w.heap.size + 1]? = some (.cells zero7 28 (0, 0)) ∧ Below B w w3 ∧ Keep tkT w w3 ∧ w3.ownsRow B e size v k zs ∧ w3.ownsRow B e' size' v' m zs' := by
  have k1 : (w2.setCell ⟨w.heap.size, o, none⟩ u).heap[w.heap.size]? = some (.cells (xs.setIfInBounds o u) 28 (0, 0)) := heap_setCell_same w2 _ o _ _ u hx
  have k2 : (w2.setCell ⟨w.heap.size, o, none⟩ u).heap[w.heap.size + 1]? = some (.cells zero7 28 (0, 0)) := by rw [Below.heap_setCell _ _ _ _ (by show w.heap.size + 1 ≠ w.heap.size; omega)]; exact hz
  have hsz : w2.heap.size ≤ (w2.setCell ⟨w.heap.size, o, none⟩ u).heap.size := ((Below.refl 0 w2).setCell (Nat.zero_le _) u).size
  refine ⟨by rw [h3.block _ (Array.getElem?_eq_some_iff.1 k1).1]; exact k1, by rw [h3.block _ (Array.getElem?_eq_some_iff.1 k2).1]; exact k2, (hb.setCell hB u).trans (h3.mono ?_), ?_, own_below (own_setCell ho hx he u) h3, own_below (own_setCell hr hx he' u) h3⟩
  · have := hb.size; omega
  · intro kk cur t z hkk ht
    have h2 := hk kk cur t z hkk ht
    have hne : kk ≠ w.heap.size := by have := (Array.getElem?_eq_some_iff.1 hkk).1; omega
    have h2' : (w2.setCell ⟨w.heap.size, o, none⟩ u).heap[kk]? = some (.cells cur t z) := by rw [Below.heap_setCell _ _ _ _ hne]; exact h2
    rw [h3.block _ (Array.getElem?_eq_some_iff.1 h2').1]; exact h2'
/- the copy into the result -/
theorem tk_put7 {w w3 : World} {B : Nat} (hb : Below B w w3) (hk : Keep tkT w w3) (hB : B ≤ w.heap.size) (u0 u1 u2 u3 u4 u5 u6 : Value) :
    Below B w (((((((w3.setCell ⟨w.heap.size + 1, 0, none⟩ u0).setCell ⟨w.heap.size + 1, 1, none⟩ u1).setCell ⟨w.heap.size + 1, 2, none⟩ u2).setCell ⟨w.heap.size + 1, 3, none⟩ u3).setCell ⟨w.heap.size + 1, 4, none⟩ u4).setCell ⟨w.heap.size + 1, 5, none⟩ u5).setCell ⟨w.heap.size + 1, 6, none⟩ u6) ∧
    Keep tkT w (((((((w3.setCell ⟨w.heap.size + 1, 0, none⟩ u0).setCell ⟨w.heap.size + 1, 1, none⟩ u1).setCell ⟨w.heap.size + 1, 2, none⟩ u2).setCell ⟨w.heap.size + 1, 3, none⟩ u3).setCell ⟨w.heap.size + 1, 4, none⟩ u4).setCell ⟨w.heap.size + 1, 5, none⟩ u5).setCell ⟨w.heap.size + 1, 6, none⟩ u6) := by
  refine ⟨hb.trans (below_put7 B _ _ (by omega) _ _ _ _ _ _ _), fun k cur t z hkk ht => ?_⟩
  have hne : k ≠ w.heap.size + 1 := by have := (Array.getElem?_eq_some_iff.1 hkk).1; omega
  rw [Below.heap_setCell _ _ _ _ hne, Below.heap_setCell _ _ _ _ hne, Below.heap_setCell _ _ _ _ hne, Below.heap_setCell _ _ _ _ hne, Below.heap_setCell _ _ _ _ hne, Below.heap_setCell _ _ _ _ hne, Below.heap_setCell _ _ _ _ hne]
  exact hk k cur t z hkk ht
theorem tk_done_s {w w3 : World} {B n5 c5 : Nat} {r : Rd} {a b c d e ec : Int} {x : Rd × Int} {ok : Bool} {g5 : Nat} {vr : Value} {u0 u1 u2 u3 u4 u5 u6 : Value} (hx : x = ({ r with stops := r.stops ++ [[a, b, c, d, e]] }, if stopOk a b c d e r.nodes = true then 0 else 4)) (hok : stopOk a b c d e r.nodes = ok)
    (hz : w3.heap[w.heap.size + 1]? = some (.cells zero7 28 (0, 0))) (hb : Below B w w3) (hk : Keep tkT w w3) (ho : w3.ownsRow B 62 5 (.slice (some ⟨g5, 0, none⟩) n5 c5) n5 (ints r.stops.flatten ++ [.int .i64 a, .int .i64 b, .int .i64 c, .int .i64 d, .int .i64 e])) (hr : w3.ownsRow B 64 3 vr r.roads.length (ints r.roads.flatten)) (hB : B ≤ w.heap.size)
    (hn : n5 = r.stops.length + 1 := by rfl) (hec : ec = if ok = true then 0 else 4 := by rfl) :
    TkLeft w B x (.returned (.tuple #[.agg #[.int .i64 r.vans, .int .i64 r.load, .int .i64 r.close, .int .i64 r.nodes, .int .i64 r.home, .slice (some ⟨g5, 0, none⟩) n5 c5, vr], .int .i64 ec])) (((((((w3.setCell ⟨w.heap.size + 1, 0, none⟩ u0).setCell ⟨w.heap.size + 1, 1, none⟩ u1).setCell ⟨w.heap.size + 1, 2, none⟩ u2).setCell ⟨w.heap.size + 1, 3, none⟩ u3).setCell ⟨w.heap.size + 1, 4, none⟩ u4).setCell ⟨w.heap.size + 1, 5, none⟩ u5).setCell ⟨w.heap.size + 1, 6, none⟩ u6) := by
  subst hx hn hec
  obtain ⟨h1, h2⟩ := tk_put7 hb hk hB u0 u1 u2 u3 u4 u5 u6
  refine ⟨_, _, by rw [hok]; rfl, ?_, own_put7 hz hr (by decide), h1, h2⟩
  have := own_put7 (u0 := u0) (u1 := u1) (u2 := u2) (u3 := u3) (u4 := u4) (u5 := u5) (u6 := u6) hz ho (by decide)
  show World.ownsRow _ _ _ _ _ (r.stops ++ [[a, b, c, d, e]]).length (ints (r.stops ++ [[a, b, c, d, e]]).flatten)
  rw [List.length_append, List.flatten_append, ints_append]; simpa [ints] using this

set_option maxRecDepth 100000 in
set_option maxHeartbeats 1000000 in
theorem taken_S_in (g cap B : Nat) (r : Rd) (vs vr : Value) (fs : List (List UInt8)) (a b c d e : Int) (w : World) (hw : Words w g [83] fs) (hv : fs.map numV = [a, b, c, d, e]) (hok : fs.all numOk = true) (hB : B ≤ w.heap.size) (hnod : 0 ≤ r.nodes ∧ r.nodes ≤ 99999)
    (hs : w.ownsRow B 62 5 vs r.stops.length (ints r.stops.flatten)) (hr : w.ownsRow B 64 3 vr r.roads.length (ints r.roads.flatten)) (hl : r.stops.length < 7) :
    Calls Tryz.prog 97 #[inst r vs vr, .slice (some ⟨g, 0, none⟩) 6 cap] w (TkLeft w B (tkStop r a b c d e)) := by
  have hx : tkStop r a b c d e = ({ r with stops := r.stops ++ [[a, b, c, d, e]] }, if stopOk a b c d e r.nodes = true then 0 else 4) := by unfold tkStop; rw [if_neg (by omega)]
  obtain ⟨i0, hi, hz0, hz1, hz2⟩ := info_parts Tryz.infoStop
  have hl5 : fs.length = 5 := by have := congrArg List.length hv; simpa using this
  have hcon := fun W (hW : Below w.heap.size w W) => values_walk g cap 6 fs W (by omega) (by omega) hok (hw.below hW).lt (hw.below hW).rest
  rw [hv] at hcon
  have HV := hid hcon
  have HWD := hid hw
  have HS := hid hs
  have HR := hid hr
  have HX := hid hx
  obtain ⟨avs, cvs, hvs, _, _⟩ := own_val hs
  obtain ⟨avr, cvr, hvr, _, _⟩ := own_val hr
  subst hvs hvr
  clear hcon hw hv hok hs hr hx
  unfold inst
  go_enter Tryz.func97, Tryz.ntmps97
  go_wp2_with fail
  refine (HV.out _ (below2 w _ _)).mono ?_
  rintro e1 w1 ⟨v, rfl, hown, hb1⟩
  obtain ⟨gv, capv, cur, rfl, hgb, hgv, _⟩ := own_shape hown (by simp)
  have hgl : gv < w1.heap.size := (Array.getElem?_eq_some_iff.1 hgv).1
  have v0 : w1.cell? ⟨gv, 0, none⟩ = some (.int .i64 a) := by rw [hown.cellAt 0 (by simp)]; rfl
  have v1 : w1.cell? ⟨gv, 1, none⟩ = some (.int .i64 b) := by rw [hown.cellAt 1 (by simp)]; rfl
  have v2 : w1.cell? ⟨gv, 2, none⟩ = some (.int .i64 c) := by rw [hown.cellAt 2 (by simp)]; rfl
  have v3 : w1.cell? ⟨gv, 3, none⟩ = some (.int .i64 d) := by rw [hown.cellAt 3 (by simp)]; rfl
  have v4 : w1.cell? ⟨gv, 4, none⟩ = some (.int .i64 e) := by rw [hown.cellAt 4 (by simp)]; rfl
  have HT := hid (tk_at (r := r) rfl HWD.out hb1)
  obtain ⟨y0, y1, y2, y3, y4, y5, y6, qf⟩ := seven HT.out.x
  have hg0 := HT.out.f
  have hzl : w.heap.size + 1 < w1.heap.size := (Array.getElem?_eq_some_iff.1 HT.out.z).1
  have hgw := HT.out.g
  have hgl0 : g < w1.heap.size := by omega
  have hbx : w.heap.size < w1.heap.size := by omega
  have HS1 : Hid (w1.ownsRow B 62 5 (.slice avs r.stops.length cvs) r.stops.length (ints r.stops.flatten)) := own_below HS.out HT.out.b
  have hn7 : ((r.stops.length : Int) == 7) = false := by simp; omega
  clear hb1 HV HWD hown hgv hgb y0 y1 y2 y4 y6
  go_wp2_with fail
  go_region
  go_wp2_with (at_builtin; refine wpList_append_own _ rfl _ _ 25 rfl B 62 i0 (.agg #[.int .i64 0, .int .i64 0, .int .i64 0, .int .i64 0, .int .i64 0]) 5 40 Tryz.underlying25 hi hz0 hz1 hz2 rfl (by decide) _ _ _ rfl ((HS1.out.alloc _).alloc _) ⟨w1.heap.size + 1, 0, none⟩ 1 1 [.int .i64 a, .int .i64 b, .int .i64 c, .int .i64 d, .int .i64 e] rfl rfl ?c1 ?c2 ?c3 ?c4 ?c5 ?_)
  case c1 => exact news_b (w := w1.alloc _) rfl rfl (by simp)
  case c2 => exact ints5 _ _ _ _ _
  case c3 => unfold maxLen; omega
  case c4 => omega
  case c5 => simp; omega
  intro v' w2 hown' hgrow _
  have HO := hid hown'
  obtain ⟨g5, cap5, cur5, hv5, hg5, hg5', _⟩ := own_shape hown' (by omega)
  subst hv5
  obtain ⟨hx2, hzz2, hb2, hk2⟩ := tk_append HT.out ((below2 w1 _ _).drew) HS1.out (by decide) hB hgrow
  have hbox := grown_box hgrow HS1.out (heap_alloc2_first w1 (.cells #[.int .i64 a, .int .i64 b, .int .i64 c, .int .i64 d, .int .i64 e] 62) _)
  have HR2 : Hid (w2.ownsRow B 64 3 (.slice avr r.roads.length cvr) r.roads.length (ints r.roads.flatten)) :=
    (own_below (own_below HR.out HT.out.b) ((below2 w1 _ _).drew)).kept hgrow (own_ne (own_below HR.out HT.out.b) HS1.out (by decide))
  have HB2 := hid hb2
  have HK2 := hid hk2
  have HX2 := hid hx2
  have HZ2 := hid hzz2
  obtain ⟨x0, x1, x2, x3, x4, x5, x6, xf⟩ := seven hx2
  have s0 : w2.cell? ⟨w1.heap.size, 0, none⟩ = some (.int .i64 a) := by rw [cell_of_row _ _ _ _ _ _ hbox]; rfl
  have s1 : w2.cell? ⟨w1.heap.size, 1, none⟩ = some (.int .i64 b) := by rw [cell_of_row _ _ _ _ _ _ hbox]; rfl
  have s2 : w2.cell? ⟨w1.heap.size, 2, none⟩ = some (.int .i64 c) := by rw [cell_of_row _ _ _ _ _ _ hbox]; rfl
  have s3 : w2.cell? ⟨w1.heap.size, 3, none⟩ = some (.int .i64 d) := by rw [cell_of_row _ _ _ _ _ _ hbox]; rfl
  have s4 : w2.cell? ⟨w1.heap.size, 4, none⟩ = some (.int .i64 e) := by rw [cell_of_row _ _ _ _ _ _ hbox]; rfl
  have hl2 : w1.heap.size < w2.heap.size := (Array.getElem?_eq_some_iff.1 hbox).1
  have hl3 : w.heap.size < w2.heap.size := by omega
  have hne : w1.heap.size ≠ w.heap.size := by omega
  clear hown' hgrow hx2 hzz2 hb2 hk2 hbox HS1 HS HR HT v0 v1 v2 v3 v4 y3 y5 qf hg0 hgw hgl0 hgl hn7 hg5 hg5' hi hz0 hz1 hz2 hl5
  go_wp2_with fail
  refine (stopFine_any a b c d e r.nodes _ (by omega)).mono ?_
  rintro e3 w3 ⟨rfl, hb3⟩
  have hw3 := tk_left HX2.out HZ2.out HB2.out HK2.out HO.out HR2.out (u := .slice (some ⟨g5, 0, none⟩) (r.stops.length + 1) cap5) (o := 5) (by decide) (by decide) (by omega) hB hb3
  obtain ⟨kx, kz, kb, kk, ko, kr⟩ := hw3
  have HKX := hid kx
  have HKZ := hid kz
  have HKB := hid kb
  have HKK := hid kk
  have HKO := hid ko
  have HKR := hid kr
  obtain ⟨q0, q1, q2, q3, q4, q5, q6, qf⟩ := seven (seven_at kx)
  obtain ⟨p0, p1, p2, p3, p4, p5, p6, pf⟩ := box7 kz
  have hzl2 : w.heap.size + 1 < w3.heap.size := (Array.getElem?_eq_some_iff.1 kz).1
  clear hb3 kx kz kb kk ko kr HX2 HZ2 HB2 HK2 HO HR2 x0 x1 x2 x3 x4 x5 x6 xf s0 s1 s2 s3 s4 hl2 hl3 hne hzl hbx hl qf
  cases hok2 : stopOk a b c d e r.nodes
  · go_wp2_with fail
    all_goals
      first
        | (exfalso; simp_all; done)
        | (refine bodyPost_ret (v := .tuple #[.agg #[.int .i64 r.vans, .int .i64 r.load, .int .i64 r.close, .int .i64 r.nodes, .int .i64 r.home, .slice (some ⟨g5, 0, none⟩) (r.stops.length + 1) cap5, .slice avr r.roads.length cvr], .int .i64 4]) (by simp [results, Tryz.results97, go_sem, p0, p1, p2, p3, p4, p5, p6]) rfl ?_
           exact tk_done_s HX.out hok2 HKZ.out HKB.out HKK.out HKO.out HKR.out hB)
  · go_wp2_with fail
    all_goals
      first
        | (exfalso; simp_all; done)
        | (refine bodyPost_ret (v := .tuple #[.agg #[.int .i64 r.vans, .int .i64 r.load, .int .i64 r.close, .int .i64 r.nodes, .int .i64 r.home, .slice (some ⟨g5, 0, none⟩) (r.stops.length + 1) cap5, .slice avr r.roads.length cvr], .int .i64 0]) (by simp [results, Tryz.results97, go_sem, p0, p1, p2, p3, p4, p5, p6]) rfl ?_
           exact tk_done_s HX.out hok2 HKZ.out HKB.out HKK.out HKO.out HKR.out hB)
end Go.Proofs.YtebinaopncclgabGreatDoor
namespace Go.Proofs.YtebinaopncclgabGreatDoor
open Go.RowKit Go.IntWalk

set_option maxRecDepth 100000 in
set_option maxHeartbeats 1000000 in
theorem taken_R_many (g cap B : Nat) (r : Rd) (vs vr : Value) (fs : List (List UInt8)) (a b c : Int) (w : World) (hw : Words w g [82] fs) (hv : fs.map numV = [a, b, c]) (hok : fs.all numOk = true) (hB : B ≤ w.heap.size)
    (hs : w.ownsRow B 62 5 vs r.stops.length (ints r.stops.flatten)) (hr : w.ownsRow B 64 3 vr r.roads.length (ints r.roads.flatten)) (hl : r.roads.length = 40) :
    Calls Tryz.prog 97 #[inst r vs vr, .slice (some ⟨g, 0, none⟩) 4 cap] w (TkLeft w B (tkRoad r a b c)) := by
  have hx : tkRoad r a b c = (r, 3) := by unfold tkRoad; rw [if_pos hl]
  have hl5 : fs.length = 3 := by have := congrArg List.length hv; simpa using this
  have hcon := fun W (hW : Below w.heap.size w W) => values_walk g cap 4 fs W (by omega) (by omega) hok (hw.below hW).lt (hw.below hW).rest
  have HV := hid hcon
  have HWD := hid hw
  have HS := hid hs
  have HR := hid hr
  have HX := hid hx
  obtain ⟨avs, cvs, hvs, _, _⟩ := own_val hs
  obtain ⟨avr, cvr, hvr, _, _⟩ := own_val hr
  subst hvs hvr
  clear hcon hw hv hok hs hr hx
  unfold inst
  go_enter Tryz.func97, Tryz.ntmps97
  go_wp2_with fail
  refine (HV.out _ (below2 w _ _)).mono ?_
  rintro e1 w1 ⟨v, rfl, _, hb1⟩
  have HT := hid (tk_at (r := r) rfl HWD.out hb1)
  obtain ⟨y0, y1, y2, y3, y4, y5, y6, qf⟩ := seven HT.out.x
  obtain ⟨p0, p1, p2, p3, p4, p5, p6, pf⟩ := box7 HT.out.z
  have hg0 := HT.out.f
  have hzl : w.heap.size + 1 < w1.heap.size := (Array.getElem?_eq_some_iff.1 HT.out.z).1
  have hgw := HT.out.g
  have hgl : g < w1.heap.size := by omega
  have HB : Hid (Below w.heap.size w w1) := HT.out.b
  have hn7 : ((r.roads.length : Int) == 40) = true := by simp [hl]
  have HL := hid hl
  clear hb1 HV HWD HT hl5 hl
  go_wp2_with fail
  all_goals
    first
      | (exfalso; simp_all; done)
      | (refine bodyPost_ret (v := .tuple #[.agg #[.int .i64 r.vans, .int .i64 r.load, .int .i64 r.close, .int .i64 r.nodes, .int .i64 r.home, .slice avs r.stops.length cvs, .slice avr r.roads.length cvr], .int .i64 3]) (by simp [results, Tryz.results97, go_sem, p0, p1, p2, p3, p4, p5, p6]; try (have := HL.out; omega)) rfl ?_
         exact tk_same HX.out hB HS.out HR.out (HB.out.trans (below_put7 _ _ _ (by omega) _ _ _ _ _ _ _)))

theorem tk_done_r {w w3 : World} {B n5 c5 : Nat} {r : Rd} {a b c ec : Int} {x : Rd × Int} {ok : Bool} {g5 : Nat} {vs : Value} {u0 u1 u2 u3 u4 u5 u6 : Value} (hx : x = ({ r with roads := r.roads ++ [[a, b, c]] }, if roadOk a b c r.nodes = true then 0 else 4)) (hok : roadOk a b c r.nodes = ok)
    (hz : w3.heap[w.heap.size + 1]? = some (.cells zero7 28 (0, 0))) (hb : Below B w w3) (hk : Keep tkT w w3) (ho : w3.ownsRow B 64 3 (.slice (some ⟨g5, 0, none⟩) n5 c5) n5 (ints r.roads.flatten ++ [.int .i64 a, .int .i64 b, .int .i64 c])) (hr : w3.ownsRow B 62 5 vs r.stops.length (ints r.stops.flatten)) (hB : B ≤ w.heap.size)
    (hn : n5 = r.roads.length + 1 := by rfl) (hec : ec = if ok = true then 0 else 4 := by rfl) :
    TkLeft w B x (.returned (.tuple #[.agg #[.int .i64 r.vans, .int .i64 r.load, .int .i64 r.close, .int .i64 r.nodes, .int .i64 r.home, vs, .slice (some ⟨g5, 0, none⟩) n5 c5], .int .i64 ec])) (((((((w3.setCell ⟨w.heap.size + 1, 0, none⟩ u0).setCell ⟨w.heap.size + 1, 1, none⟩ u1).setCell ⟨w.heap.size + 1, 2, none⟩ u2).setCell ⟨w.heap.size + 1, 3, none⟩ u3).setCell ⟨w.heap.size + 1, 4, none⟩ u4).setCell ⟨w.heap.size + 1, 5, none⟩ u5).setCell ⟨w.heap.size + 1, 6, none⟩ u6) := by
  subst hx hn hec
  obtain ⟨h1, h2⟩ := tk_put7 hb hk hB u0 u1 u2 u3 u4 u5 u6
  refine ⟨_, _, by rw [hok]; rfl, own_put7 hz hr (by decide), ?_, h1, h2⟩
  have := own_put7 (u0 := u0) (u1 := u1) (u2 := u2) (u3 := u3) (u4 := u4) (u5 := u5) (u6 := u6) hz ho (by decide)
  show World.ownsRow _ _ _ _ _ (r.roads ++ [[a, b, c]]).length (ints (r.roads ++ [[a, b, c]]).flatten)
  rw [List.length_append, List.flatten_append, ints_append]; simpa [ints] using this

set_option maxRecDepth 100000 in
set_option maxHeartbeats 1000000 in
theorem taken_R_in (g cap B : Nat) (r : Rd) (vs vr : Value) (fs : List (List UInt8)) (a b c : Int) (w : World) (hw : Words w g [82] fs) (hv : fs.map numV = [a, b, c]) (hok : fs.all numOk = true) (hB : B ≤ w.heap.size) (hnod : 0 ≤ r.nodes ∧ r.nodes ≤ 99999)
    (hs : w.ownsRow B 62 5 vs r.stops.length (ints r.stops.flatten)) (hr : w.ownsRow B 64 3 vr r.roads.length (ints r.roads.flatten)) (hl : r.roads.length < 40) :
    Calls Tryz.prog 97 #[inst r vs vr, .slice (some ⟨g, 0, none⟩) 4 cap] w (TkLeft w B (tkRoad r a b c)) := by
  have hx : tkRoad r a b c = ({ r with roads := r.roads ++ [[a, b, c]] }, if roadOk a b c r.nodes = true then 0 else 4) := by unfold tkRoad; rw [if_neg (by omega)]
  obtain ⟨i0, hi, hz0, hz1, hz2⟩ := info_parts Tryz.infoRoad
  have hl5 : fs.length = 3 := by have := congrArg List.length hv; simpa using this
  have hcon := fun W (hW : Below w.heap.size w W) => values_walk g cap 4 fs W (by omega) (by omega) hok (hw.below hW).lt (hw.below hW).rest
  rw [hv] at hcon
  have HV := hid hcon
  have HWD := hid hw
  have HS := hid hs
  have HR := hid hr
  have HX := hid hx
  obtain ⟨avs, cvs, hvs, _, _⟩ := own_val hs
  obtain ⟨avr, cvr, hvr, _, _⟩ := own_val hr
  subst hvs hvr
  clear hcon hw hv hok hs hr hx
  unfold inst
  go_enter Tryz.func97, Tryz.ntmps97
  go_wp2_with fail
  refine (HV.out _ (below2 w _ _)).mono ?_
  rintro e1 w1 ⟨v, rfl, hown, hb1⟩
  obtain ⟨gv, capv, cur, rfl, hgb, hgv, _⟩ := own_shape hown (by simp)
  have hgl : gv < w1.heap.size := (Array.getElem?_eq_some_iff.1 hgv).1
  have v0 : w1.cell? ⟨gv, 0, none⟩ = some (.int .i64 a) := by rw [hown.cellAt 0 (by simp)]; rfl
  have v1 : w1.cell? ⟨gv, 1, none⟩ = some (.int .i64 b) := by rw [hown.cellAt 1 (by simp)]; rfl
  have v2 : w1.cell? ⟨gv, 2, none⟩ = some (.int .i64 c) := by rw [hown.cellAt 2 (by simp)]; rfl
  have HT := hid (tk_at (r := r) rfl HWD.out hb1)
  obtain ⟨y0, y1, y2, y3, y4, y5, y6, qf⟩ := seven HT.out.x
  have hg0 := HT.out.f
  have hzl : w.heap.size + 1 < w1.heap.size := (Array.getElem?_eq_some_iff.1 HT.out.z).1
  have hgw := HT.out.g
  have hgl0 : g < w1.heap.size := by omega
  have hbx : w.heap.size < w1.heap.size := by omega
  have HS1 : Hid (w1.ownsRow B 64 3 (.slice avr r.roads.length cvr) r.roads.length (ints r.roads.flatten)) := own_below HR.out HT.out.b
  have hn7 : ((r.roads.length : Int) == 40) = false := by simp; omega
  clear hb1 HV HWD hown hgv hgb y0 y1 y2 y4 y5
  go_wp2_with fail
  go_region
  go_wp2_with (at_builtin; refine wpList_append_own _ rfl _ _ 26 rfl B 64 i0 (.agg #[.int .i64 0, .int .i64 0, .int .i64 0]) 3 24 Tryz.underlying26 hi hz0 hz1 hz2 rfl (by decide) _ _ _ rfl ((HS1.out.alloc _).alloc _) ⟨w1.heap.size + 1, 0, none⟩ 1 1 [.int .i64 a, .int .i64 b, .int .i64 c] rfl rfl ?c1 ?c2 ?c3 ?c4 ?c5 ?_)
  case c1 => exact news_b (w := w1.alloc _) rfl rfl (by simp)
  case c2 => exact ints3 _ _ _
  case c3 => unfold maxLen; omega
  case c4 => omega
  case c5 => simp; omega
  intro v' w2 hown' hgrow _
  have HO := hid hown'
  obtain ⟨g5, cap5, cur5, hv5, hg5, hg5', _⟩ := own_shape hown' (by omega)
  subst hv5
  obtain ⟨hx2, hzz2, hb2, hk2⟩ := tk_append HT.out ((below2 w1 _ _).drew) HS1.out (by decide) hB hgrow
  have hbox := grown_box hgrow HS1.out (heap_alloc2_first w1 (.cells #[.int .i64 a, .int .i64 b, .int .i64 c] 64) _)
  have HR2 : Hid (w2.ownsRow B 62 5 (.slice avs r.stops.length cvs) r.stops.length (ints r.stops.flatten)) :=
    (own_below (own_below HS.out HT.out.b) ((below2 w1 _ _).drew)).kept hgrow (own_ne (own_below HS.out HT.out.b) HS1.out (by decide))
  have HB2 := hid hb2
  have HK2 := hid hk2
  have HX2 := hid hx2
  have HZ2 := hid hzz2
  obtain ⟨x0, x1, x2, x3, x4, x5, x6, xf⟩ := seven hx2
  have s0 : w2.cell? ⟨w1.heap.size, 0, none⟩ = some (.int .i64 a) := by rw [cell_of_row _ _ _ _ _ _ hbox]; rfl
  have s1 : w2.cell? ⟨w1.heap.size, 1, none⟩ = some (.int .i64 b) := by rw [cell_of_row _ _ _ _ _ _ hbox]; rfl
  have s2 : w2.cell? ⟨w1.heap.size, 2, none⟩ = some (.int .i64 c) := by rw [cell_of_row _ _ _ _ _ _ hbox]; rfl
  have hl2 : w1.heap.size < w2.heap.size := (Array.getElem?_eq_some_iff.1 hbox).1
  have hl3 : w.heap.size < w2.heap.size := by omega
  have hne : w1.heap.size ≠ w.heap.size := by omega
  clear hown' hgrow hx2 hzz2 hb2 hk2 hbox HS1 HS HR HT v0 v1 v2 y3 y6 qf hg0 hgw hgl0 hgl hn7 hg5 hg5' hi hz0 hz1 hz2 hl5
  go_wp2_with fail
  refine (roadFine_any a b c r.nodes _ (by omega)).mono ?_
  rintro e3 w3 ⟨rfl, hb3⟩
  have hw3 := tk_left HX2.out HZ2.out HB2.out HK2.out HO.out HR2.out (u := .slice (some ⟨g5, 0, none⟩) (r.roads.length + 1) cap5) (o := 6) (by decide) (by decide) (by omega) hB hb3
  obtain ⟨kx, kz, kb, kk, ko, kr⟩ := hw3
  have HKX := hid kx
  have HKZ := hid kz
  have HKB := hid kb
  have HKK := hid kk
  have HKO := hid ko
  have HKR := hid kr
  obtain ⟨q0, q1, q2, q3, q4, q5, q6, qf⟩ := seven (seven_at kx)
  obtain ⟨p0, p1, p2, p3, p4, p5, p6, pf⟩ := box7 kz
  have hzl2 : w.heap.size + 1 < w3.heap.size := (Array.getElem?_eq_some_iff.1 kz).1
  clear hb3 kx kz kb kk ko kr HX2 HZ2 HB2 HK2 HO HR2 x0 x1 x2 x3 x4 x5 x6 xf s0 s1 s2 hl2 hl3 hne hzl hbx hl qf
  cases hok2 : roadOk a b c r.nodes
  · go_wp2_with fail
    all_goals
      first
        | (exfalso; simp_all; done)
        | (refine bodyPost_ret (v := .tuple #[.agg #[.int .i64 r.vans, .int .i64 r.load, .int .i64 r.close, .int .i64 r.nodes, .int .i64 r.home, .slice avs r.stops.length cvs, .slice (some ⟨g5, 0, none⟩) (r.roads.length + 1) cap5], .int .i64 4]) (by simp [results, Tryz.results97, go_sem, p0, p1, p2, p3, p4, p5, p6]) rfl ?_
           exact tk_done_r HX.out hok2 HKZ.out HKB.out HKK.out HKO.out HKR.out hB)
  · go_wp2_with fail
    all_goals
      first
        | (exfalso; simp_all; done)
        | (refine bodyPost_ret (v := .tuple #[.agg #[.int .i64 r.vans, .int .i64 r.load, .int .i64 r.close, .int .i64 r.nodes, .int .i64 r.home, .slice avs r.stops.length cvs, .slice (some ⟨g5, 0, none⟩) (r.roads.length + 1) cap5], .int .i64 0]) (by simp [results, Tryz.results97, go_sem, p0, p1, p2, p3, p4, p5, p6]) rfl ?_
           exact tk_done_r HX.out hok2 HKZ.out HKB.out HKK.out HKO.out HKR.out hB)

end Go.Proofs.YtebinaopncclgabGreatDoor
namespace Go.Proofs.YtebinaopncclgabGreatDoor
open Go.RowKit Go.IntWalk

structure RdGood (r : Rd) : Prop where
  fine : RdFine r
  none : r.head = false → r = Rd0
  lo : 0 ≤ r.nodes
  hi : r.nodes ≤ 99999
theorem good0 : RdGood Rd0 := ⟨⟨by simp [Rd0], by simp [Rd0]⟩, fun _ => rfl, by simp [Rd0], by simp [Rd0]⟩
theorem headOk_nodes {a b c d e : Int} (h : headOk a b c d e = true) : 1 ≤ d ∧ d ≤ 12 := by
  unfold headOk at h; simp at h; omega
theorem rdVals_good {r : Rd} (h : RdGood r) (f : List UInt8) (vs : List Int) : RdGood (rdVals r f vs).1 := by
  refine ⟨rdVals_fine h.fine f vs, ?_, ?_, ?_⟩
  all_goals
    unfold rdVals
    split
    · split
      · unfold rdDepot
        split
        · first | exact h.none | exact h.lo | exact h.hi
        · split
          · rename_i hh; have := headOk_nodes hh; first | (intro h'; cases h'; done) | (show _ ≤ _; simp; omega)
          · first | exact h.none | exact h.lo | exact h.hi
      · first | exact h.none | exact h.lo | exact h.hi
    · split
      · split
        · unfold rdStop
          split
          · first | exact h.none | exact h.lo | exact h.hi
          · split
            · first | exact h.none | exact h.lo | exact h.hi
            · split
              · rename_i hh _ _; first | exact fun h' => absurd h' hh | exact h.lo | exact h.hi
              · first | exact h.none | exact h.lo | exact h.hi
        · first | exact h.none | exact h.lo | exact h.hi
      · split
        · split
          · unfold rdRoad
            split
            · first | exact h.none | exact h.lo | exact h.hi
            · split
              · first | exact h.none | exact h.lo | exact h.hi
              · split
                · rename_i hh _ _; first | exact fun h' => absurd h' hh | exact h.lo | exact h.hi
                · first | exact h.none | exact h.lo | exact h.hi
          · first | exact h.none | exact h.lo | exact h.hi
        · first | exact h.none | exact h.lo | exact h.hi

def TkGood (w : World) (B : Nat) (y : Rd × Int) (q : Ending) (w' : World) : Prop :=
  ∃ x vs' vr', q = .returned (.tuple #[inst x vs' vr', .int .i64 y.2]) ∧ (∃ n a c m b d, vs' = .slice a n c ∧ vr' = .slice b m d) ∧ Below B w w' ∧ Keep tkT w w' ∧ (y.2 = 0 → inst x vs' vr' = inst y.1 vs' vr' ∧ w'.ownsRow B 62 5 vs' y.1.stops.length (ints y.1.stops.flatten) ∧ w'.ownsRow B 64 3 vr' y.1.roads.length (ints y.1.roads.flatten))
theorem left_good {w w' : World} {B : Nat} {x y : Rd × Int} {q : Ending} (h : TkLeft w B x q w') (he : x.2 = y.2) (hx : y.2 = 0 → x.1 = y.1) : TkGood w B y q w' := by
  obtain ⟨vs, vr, rfl, h1, h2, h3, h4⟩ := h
  obtain ⟨_, _, e1, _, _⟩ := own_val h1
  obtain ⟨_, _, e2, _, _⟩ := own_val h2
  refine ⟨x.1, vs, vr, by rw [he], ⟨_, _, _, _, _, _, e1, e2⟩, h3, h4, fun hy => ?_⟩
  rw [← hx hy]; exact ⟨rfl, h1, h2⟩

theorem need_letters {f : List UInt8} {n : Nat} (h : n + 1 = needS f) : f = [68] ∧ n = 5 ∨ f = [83] ∧ n = 5 ∨ f = [82] ∧ n = 3 := by
  unfold needS at h
  split at h
  · rename_i hf; exact .inl ⟨hf, by omega⟩
  · split at h
    · rename_i hf; exact .inr (.inl ⟨hf, by omega⟩)
    · split at h
      · rename_i hf; exact .inr (.inr ⟨hf, by omega⟩)
      · omega
theorem formed_yes {f : List UInt8} {fs : List (List UInt8)} {b : Bool} (h : formedS f fs b = true) : fs.length + 1 = needS f ∧ b = (f == [68]) ∧ fs.all numOk = true := by
  unfold formedS at h
  simp only [Bool.and_eq_true, decide_eq_true_eq] at h
  exact ⟨h.1.1, by simpa using h.1.2, h.2⟩
theorem vals5 {fs : List (List UInt8)} (h : fs.length = 5) : ∃ a b c d e, fs.map numV = [a, b, c, d, e] := by
  match fs, h with
  | [x0, x1, x2, x3, x4], _ => exact ⟨_, _, _, _, _, rfl⟩
theorem vals3 {fs : List (List UInt8)} (h : fs.length = 3) : ∃ a b c, fs.map numV = [a, b, c] := by
  match fs, h with
  | [x0, x1, x2], _ => exact ⟨_, _, _, rfl⟩

theorem tkS_eq {r : Rd} {a b c d e : Int} (hh : r.head = true) (h7 : r.stops.length < 7) : (tkStop r a b c d e).2 = (rdStop r a b c d e).2 ∧ ((rdStop r a b c d e).2 = 0 → (tkStop r a b c d e).1 = (rdStop r a b c d e).1) := by
  have e1 : tkStop r a b c d e = ({ r with stops := r.stops ++ [[a, b, c, d, e]] }, if stopOk a b c d e r.nodes = true then 0 else 4) := if_neg (by omega)
  have e2 : rdStop r a b c d e = if stopOk a b c d e r.nodes = true then ({ r with stops := r.stops ++ [[a, b, c, d, e]] }, 0) else (r, 4) := by
    unfold rdStop; rw [if_neg (by simp [hh] : ¬ r.head = false), if_neg (by omega : ¬ 7 ≤ r.stops.length)]
  rw [e1, e2]
  cases stopOk a b c d e r.nodes <;> simp
theorem tkR_eq {r : Rd} {a b c : Int} (hh : r.head = true) (h7 : r.roads.length < 40) : (tkRoad r a b c).2 = (rdRoad r a b c).2 ∧ ((rdRoad r a b c).2 = 0 → (tkRoad r a b c).1 = (rdRoad r a b c).1) := by
  have e1 : tkRoad r a b c = ({ r with roads := r.roads ++ [[a, b, c]] }, if roadOk a b c r.nodes = true then 0 else 4) := if_neg (by omega)
  have e2 : rdRoad r a b c = if roadOk a b c r.nodes = true then ({ r with roads := r.roads ++ [[a, b, c]] }, 0) else (r, 4) := by
    unfold rdRoad; rw [if_neg (by simp [hh] : ¬ r.head = false), if_neg (by omega : ¬ 40 ≤ r.roads.length)]
  rw [e1, e2]
  cases roadOk a b c r.nodes <;> simp
theorem taken_any (g cap N B : Nat) (r : Rd) (vs vr : Value) (f : List UInt8) (fs : List (List UInt8)) (w : World) (hN : N = fs.length + 1) (hw : Words w g f fs) (hf : formedS f fs (!r.head) = true) (hB : B ≤ w.heap.size) (hg : RdGood r)
    (hs : w.ownsRow B 62 5 vs r.stops.length (ints r.stops.flatten)) (hr : w.ownsRow B 64 3 vr r.roads.length (ints r.roads.flatten)) :
    Calls Tryz.prog 97 #[inst r vs vr, .slice (some ⟨g, 0, none⟩) N cap] w (TkGood w B (rdVals r f (fs.map numV))) := by
  obtain ⟨h1, h2, h3⟩ := formed_yes hf
  rcases need_letters h1 with ⟨rfl, hl⟩ | ⟨rfl, hl⟩ | ⟨rfl, hl⟩
  · obtain ⟨a, b, c, d, e, hv⟩ := vals5 hl
    have hh : r.head = false := by simpa using h2
    have hr0 := hg.none hh
    obtain ⟨aq, cs, e1, _, _⟩ := own_val hs
    obtain ⟨ar, cr, e2, _, _⟩ := own_val hr
    obtain rfl : N = 6 := by omega
    refine (taken_D g cap r vs vr fs a b c d e w hw hv h3 _ _ _ _ _ _ e1 e2).mono ?_
    rintro q w' ⟨rfl, hb⟩
    have hy : rdVals r [68] (fs.map numV) = rdDepot r a b c d e := by rw [hv]; rfl
    rw [hy]
    cases hok : headOk a b c d e
    · have hz : rdDepot r a b c d e = (r, 4) := by unfold rdDepot; rw [if_neg (by simp [hh]), if_neg (by simp [hok])]
      rw [hz]
      exact ⟨{ r with vans := a, load := b, close := c, nodes := d, home := e }, vs, vr, rfl, ⟨_, _, _, _, _, _, e1, e2⟩, hb.mono hB, Keep.of_below hb, fun h => by cases h⟩
    · have hz : rdDepot r a b c d e = ({ vans := a, load := b, close := c, nodes := d, home := e, stops := [], roads := [], head := true }, 0) := by unfold rdDepot; rw [if_neg (by simp [hh]), if_pos hok]
      rw [hz]
      refine ⟨{ r with vans := a, load := b, close := c, nodes := d, home := e }, vs, vr, rfl, ⟨_, _, _, _, _, _, e1, e2⟩, hb.mono hB, Keep.of_below hb, fun _ => ⟨rfl, ?_, ?_⟩⟩
      · have := own_below hs hb; rw [hr0] at this; exact this
      · have := own_below hr hb; rw [hr0] at this; exact this
  · obtain ⟨a, b, c, d, e, hv⟩ := vals5 hl
    have hh : r.head = true := by simpa using h2
    obtain rfl : N = 6 := by omega
    have hy : rdVals r [83] (fs.map numV) = rdStop r a b c d e := by rw [hv]; rfl
    rw [hy]
    have hlen := hg.fine.1
    by_cases h7 : r.stops.length = 7
    · refine (taken_S_many g cap B r vs vr fs a b c d e w hw hv h3 hB hs hr h7).mono fun q w' h => left_good h ?_ ?_
      · unfold tkStop rdStop; rw [if_pos h7, if_neg (by simp [hh]), if_pos (by omega)]
      · unfold rdStop; rw [if_neg (by simp [hh]), if_pos (by omega)]; intro h'; cases h'
    · refine (taken_S_in g cap B r vs vr fs a b c d e w hw hv h3 hB ⟨hg.lo, hg.hi⟩ hs hr (by omega)).mono fun q w' h => left_good h ?_ ?_
      · exact (tkS_eq hh (by omega)).1
      · exact (tkS_eq hh (by omega)).2
  · obtain ⟨a, b, c, hv⟩ := vals3 hl
    have hh : r.head = true := by simpa using h2
    obtain rfl : N = 4 := by omega
    have hy : rdVals r [82] (fs.map numV) = rdRoad r a b c := by rw [hv]; rfl
    rw [hy]
    have hlen := hg.fine.2
    by_cases h7 : r.roads.length = 40
    · refine (taken_R_many g cap B r vs vr fs a b c w hw hv h3 hB hs hr h7).mono fun q w' h => left_good h ?_ ?_
      · unfold tkRoad rdRoad; rw [if_pos h7, if_neg (by simp [hh]), if_pos (by omega)]
      · unfold rdRoad; rw [if_neg (by simp [hh]), if_pos (by omega)]; intro h'; cases h'
    · refine (taken_R_in g cap B r vs vr fs a b c w hw hv h3 hB ⟨hg.lo, hg.hi⟩ hs hr (by omega)).mono fun q w' h => left_good h ?_ ?_
      · exact (tkR_eq hh (by omega)).1
      · exact (tkR_eq hh (by omega)).2

/- a line that is not of the form -/
theorem not_formed {r : Rd} {f : List UInt8} {fs : List (List UInt8)} {l : List UInt8} (hl : flds l = f :: fs) (h : formedS f fs (!r.head) = false) : (rdLine r l).2 = 2 := by
  unfold rdLine; rw [hl]
  show (if fs.all numOk = true then rdVals r f (fs.map numV) else (r, 2)).2 = 2
  split
  · rename_i hok
    rcases letters f with rfl | rfl | rfl | ⟨e1, e2, e3⟩
    · by_cases h5 : fs.length = 5
      · have hh : r.head = true := by
          cases hh : r.head
          · simp [formedS, needS, h5, hh, hok] at h
          · rfl
        obtain ⟨a, b, c, d, e, hv⟩ := vals5 h5
        rw [hv]; show (rdDepot r a b c d e).2 = 2; unfold rdDepot; rw [if_pos hh]
      · unfold rdVals; rw [if_pos rfl]; split
        · rename_i hv; exact absurd (by have := congrArg List.length hv; simpa using this) h5
        · rfl
    · by_cases h5 : fs.length = 5
      · have hh : r.head = false := by
          cases hh : r.head
          · rfl
          · simp [formedS, needS, h5, hh, hok] at h
        obtain ⟨a, b, c, d, e, hv⟩ := vals5 h5
        rw [hv]; show (rdStop r a b c d e).2 = 2; unfold rdStop; rw [if_pos hh]
      · unfold rdVals; rw [if_neg (by decide), if_pos rfl]; split
        · rename_i hv; exact absurd (by have := congrArg List.length hv; simpa using this) h5
        · rfl
    · by_cases h5 : fs.length = 3
      · have hh : r.head = false := by
          cases hh : r.head
          · rfl
          · simp [formedS, needS, h5, hh, hok] at h
        obtain ⟨a, b, c, hv⟩ := vals3 h5
        rw [hv]; show (rdRoad r a b c).2 = 2; unfold rdRoad; rw [if_pos hh]
      · unfold rdVals; rw [if_neg (by decide), if_neg (by decide), if_pos rfl]; split
        · rename_i hv; exact absurd (by have := congrArg List.length hv; simpa using this) h5
        · rfl
    · unfold rdVals; rw [if_neg e1, if_neg e2, if_neg e3]
  · rfl
theorem is_formed {r : Rd} {f : List UInt8} {fs : List (List UInt8)} {l : List UInt8} (hl : flds l = f :: fs) (h : formedS f fs (!r.head) = true) : rdLine r l = rdVals r f (fs.map numV) := by
  unfold rdLine; rw [hl]; show (if fs.all numOk = true then rdVals r f (fs.map numV) else (r, 2)) = _; rw [if_pos (formed_yes h).2.2]
end Go.Proofs.YtebinaopncclgabGreatDoor
namespace Go.Proofs.YtebinaopncclgabGreatDoor
open Go.RowKit Go.IntWalk

set_option maxRecDepth 100000 in
set_option maxHeartbeats 1000000 in
theorem rparse_long (s : ByteArray) (w : World) (hlong : 2000 < s.size) (hs : s.size ≤ maxLen) : Calls Tryz.prog 45 #[.string s] w (Parsed w (parseS s.data.toList)) := by
  unfold maxLen at hs
  have hx : parseS s.data.toList = (Rd0, 0, 1) := by unfold parseS; rw [if_pos (by simpa using hlong)]
  have HX := hide hx
  clear hx
  go_enter Tryz.func45, Tryz.ntmps45
  go_wp2
  refine bodyPost_ret (v := .tuple #[.agg zero7, .int .i64 0, .int .i64 1]) (by simp [results, Tryz.results45, go_sem, zero7]) rfl ?_
  exact parsed_none HX.out (below2 _ _ _)

def seven7 (r : Rd) (vs vr : Value) : Array Value := #[.int .i64 r.vans, .int .i64 r.load, .int .i64 r.close, .int .i64 r.nodes, .int .i64 r.home, vs, vr]
structure RfIs (w wr : World) (r : Rd) (vs vr : Value) : Prop where
  z : wr.heap[w.heap.size]? = some (.cells zero7 28 (0, 0))
  x : wr.heap[w.heap.size + 1]? = some (.cells (seven7 r vs vr) 28 (0, 0))
  s : wr.ownsRow w.heap.size 62 5 vs r.stops.length (ints r.stops.flatten)
  r : wr.ownsRow w.heap.size 64 3 vr r.roads.length (ints r.roads.flatten)
  b : Below w.heap.size w wr
theorem RfIs.below {w wr w2 : World} {r : Rd} {vs vr : Value} (h : RfIs w wr r vs vr) (hb : Below wr.heap.size wr w2) : RfIs w w2 r vs vr :=
  ⟨by rw [hb.block _ (Array.getElem?_eq_some_iff.1 h.z).1]; exact h.z, by rw [hb.block _ (Array.getElem?_eq_some_iff.1 h.x).1]; exact h.x, own_below h.s hb, own_below h.r hb, h.b.trans (hb.mono h.b.size)⟩
def put7 (w : World) (b : Nat) (u0 u1 u2 u3 u4 u5 u6 : Value) : World := ((((((w.setCell ⟨b, 0, none⟩ u0).setCell ⟨b, 1, none⟩ u1).setCell ⟨b, 2, none⟩ u2).setCell ⟨b, 3, none⟩ u3).setCell ⟨b, 4, none⟩ u4).setCell ⟨b, 5, none⟩ u5).setCell ⟨b, 6, none⟩ u6
theorem put7_same {w : World} {b : Nat} {x0 x1 x2 x3 x4 x5 x6 : Value} {t : TypeId} (h : w.heap[b]? = some (.cells #[x0, x1, x2, x3, x4, x5, x6] t (0, 0))) (u0 u1 u2 u3 u4 u5 u6 : Value) :
    (put7 w b u0 u1 u2 u3 u4 u5 u6).heap[b]? = some (.cells #[u0, u1, u2, u3, u4, u5, u6] t (0, 0)) := by
  have k1 := heap_setCell_same w b 0 _ _ u0 h
  have k2 := heap_setCell_same _ b 1 _ _ u1 k1
  have k3 := heap_setCell_same _ b 2 _ _ u2 k2
  have k4 := heap_setCell_same _ b 3 _ _ u3 k3
  have k5 := heap_setCell_same _ b 4 _ _ u4 k4
  have k6 := heap_setCell_same _ b 5 _ _ u5 k5
  have k7 := heap_setCell_same _ b 6 _ _ u6 k6
  show (((((((w.setCell ⟨b, 0, none⟩ u0).setCell ⟨b, 1, none⟩ u1).setCell ⟨b, 2, none⟩ u2).setCell ⟨b, 3, none⟩ u3).setCell ⟨b, 4, none⟩ u4).setCell ⟨b, 5, none⟩ u5).setCell ⟨b, 6, none⟩ u6).heap[b]? = _
  rw [k7]; simp
theorem put7_other {w : World} {b k : Nat} (h : k ≠ b) (u0 u1 u2 u3 u4 u5 u6 : Value) : (put7 w b u0 u1 u2 u3 u4 u5 u6).heap[k]? = w.heap[k]? := by
  unfold put7
  rw [Below.heap_setCell _ _ _ _ h, Below.heap_setCell _ _ _ _ h, Below.heap_setCell _ _ _ _ h, Below.heap_setCell _ _ _ _ h, Below.heap_setCell _ _ _ _ h, Below.heap_setCell _ _ _ _ h, Below.heap_setCell _ _ _ _ h]
/- a line more is taken in -/
theorem rf_next {w wr w2 w3 : World} {r : Rd} {vs vr : Value} {x y : Rd} {vs' vr' : Value} {B n : Nat} {v : Value} {xs : List Value} (h : RfIs w wr r vs vr) (h2 : Below wr.heap.size wr w2) (hb : Below w.heap.size w2 w3) (hk : Keep tkT w2 w3) (hi : inst x vs' vr' = inst y vs' vr')
    (hs : w3.ownsRow w.heap.size 62 5 vs' y.stops.length (ints y.stops.flatten)) (hr : w3.ownsRow w.heap.size 64 3 vr' y.roads.length (ints y.roads.flatten)) (hv : wr.ownsRow B 9 1 v n xs) :
    RfIs w (put7 w3 (w.heap.size + 1) (.int .i64 x.vans) (.int .i64 x.load) (.int .i64 x.close) (.int .i64 x.nodes) (.int .i64 x.home) vs' vr') y vs' vr' ∧ (put7 w3 (w.heap.size + 1) (.int .i64 x.vans) (.int .i64 x.load) (.int .i64 x.close) (.int .i64 x.nodes) (.int .i64 x.home) vs' vr').ownsRow B 9 1 v n xs := by
  have hx3 := hk _ _ _ _ (h.below h2).x (by decide)
  have hz3 := hk _ _ _ _ (h.below h2).z (by decide)
  refine ⟨⟨?_, ?_, own_put7 hx3 hs (by decide), own_put7 hx3 hr (by decide), ((h.below h2).b.trans hb).trans (below_put7 _ _ _ (by omega) _ _ _ _ _ _ _)⟩, own_put7 hx3 (own_keep (own_below hv h2) hk (by decide)) (by decide)⟩
  · rw [put7_other (by omega)]; exact hz3
  · have e : seven7 x vs' vr' = seven7 y vs' vr' := by unfold inst at hi; unfold seven7; injection hi
    rw [← e]; exact put7_same hx3 _ _ _ _ _ _ _

theorem head_of {r : Rd} {f : List UInt8} {fs : List (List UInt8)} {l : List UInt8} (hl : flds l = f :: fs) (h : formedS f fs (!r.head) = true) (he : (rdLine r l).2 = 0) : (rdLine r l).1.head = true := by
  rw [is_formed hl h] at he ⊢
  obtain ⟨h1, h2, h3⟩ := formed_yes h
  rcases need_letters h1 with ⟨rfl, hn⟩ | ⟨rfl, hn⟩ | ⟨rfl, hn⟩
  · obtain ⟨a, b, c, d, e, hv⟩ := vals5 hn
    rw [hv] at he ⊢
    have hh : r.head = false := by simpa using h2
    show (rdDepot r a b c d e).1.head = true
    have he' : (rdDepot r a b c d e).2 = 0 := he
    unfold rdDepot at he' ⊢
    rw [if_neg (by simp [hh])] at he' ⊢
    split at he'
    · rename_i ho; rw [if_pos ho]
    · cases he'
  · obtain ⟨a, b, c, d, e, hv⟩ := vals5 hn
    rw [hv] at he ⊢
    have hh : r.head = true := by simpa using h2
    show (rdStop r a b c d e).1.head = true
    unfold rdStop
    split
    · exact hh
    · split
      · exact hh
      · split <;> exact hh
  · obtain ⟨a, b, c, hv⟩ := vals3 hn
    rw [hv] at he ⊢
    have hh : r.head = true := by simpa using h2
    show (rdRoad r a b c).1.head = true
    unfold rdRoad
    split
    · exact hh
    · split
      · exact hh
      · split <;> exact hh

set_option maxRecDepth 100000 in
set_option maxHeartbeats 1000000 in
theorem rparse_any (s : ByteArray) (w : World) (hsm : s.size ≤ maxLen) : Calls Tryz.prog 45 #[.string s] w (Parsed w (parseS s.data.toList)) := by
  by_cases hlong : 2000 < s.size
  · exact rparse_long s w hlong hsm
  · have hs : s.size ≤ 2000 := by omega
    have HLL : Hid (s.data.toList.length ≤ 2000) := by show _ ≤ _; simpa using hs
    obtain ⟨ls, hls⟩ : ∃ ls, ls = splitB 10 s.data.toList := ⟨_, rfl⟩
    have hlen := splitB_len 10 s.data.toList
    have hcnt := splitB_count 10 s.data.toList
    rw [← hls] at hlen hcnt
    have hn : ls.length ≤ 2001 := by have := HLL.out; omega
    have hn1 : 1 ≤ ls.length := by rw [hls]; unfold splitB; simp
    have HL := hide hlen
    have HLS := hide hls
    clear hlen hcnt hsm
    have hcon := rsplit_any 10 s ((w.alloc (.cells zero7 28)).alloc (.cells zero7 28)) (by omega)
    rw [← hls] at hcon
    have HC := hide hcon
    clear hcon hls hlong
    go_enter Tryz.func45, Tryz.ntmps45
    go_wp2_with fail
    refine HC.out.mono ?_
    rintro e1 w1 ⟨v, rfl, hown, hbel⟩
    obtain ⟨g, cap, cur, rfl, _, hg, hcap⟩ := own_shape hown (by omega)
    have hgl : g < w1.heap.size := (Array.getElem?_eq_some_iff.1 hg).1
    have hI : RfIs w w1 Rd0 (.slice none 0 0) (.slice none 0 0) := by
      refine ⟨?_, ?_, World.ownsRow_nil _ _ _ _, World.ownsRow_nil _ _ _ _, (below2 w _ _).trans (hbel.mono (by simp; omega))⟩
      · rw [hbel.block _ (by simp; omega), Below.heap_alloc _ _ _ (by simp)]; exact heap_alloc_new w _
      · rw [hbel.block _ (by simp)]; exact new_second _ _ _
    have HI := hide hI
    have HO := hide hown
    clear hI hown hbel hg HC
    go_wp2_with fail
    go_loopw [7, 8] (fun fi i wr => ∃ (k : Nat) (r : Rd) (vs vr : Value), k ≤ ls.length ∧ i = .int .i64 k ∧ fi = .bool (!r.head) ∧ Hid (rdGo Rd0 0 ls = rdGo r k (ls.drop k)) ∧ Hid (RdGood r) ∧ Hid (RfIs w wr r vs vr) ∧ Hid (wr.ownsRow (w.heap.size + 1 + 1) 9 1 (.slice (some ⟨g, 0, none⟩) ls.length cap) ls.length (strs ls))) (fun _ i _ => ls.length - (intOf i).toNat)
    case atStart => exact ⟨0, Rd0, _, _, Nat.zero_le _, rfl, rfl, rfl, good0, HI, by have h := HO.out; simp only [World.size_alloc] at h; exact h⟩
    case round =>
      clear HI HO
      obtain ⟨k, r, vs, vr, hk, rfl, rfl, HG, HF, HI, HO⟩ := hrel
      by_cases hlt : k < ls.length
      · have hcell : wr.cell? ⟨g, k, none⟩ = some (.string ⟨(ls[k]).toArray⟩) := by
          rw [HO.out.cellAt k (by omega)]; simp [strs, hlt]
        obtain ⟨l, hl⟩ : ∃ l, l = ls[k] := ⟨_, rfl⟩
        rw [← hl] at hcell
        have HLk := hide hl
        have hll : l.length ≤ 2000 := by have h1 := HL.out l (by rw [hl]; exact List.getElem_mem _); have h2 := HLL.out; omega
        clear hl
        have hcon := words_any ⟨l.toArray⟩ wr (by show l.toArray.size ≤ _; simp; omega)
        have HC : Hid (Calls Tryz.prog 95 #[.string ⟨l.toArray⟩] wr fun e w' => ∃ v, e = .returned v ∧ w'.ownsRow wr.heap.size 9 1 v (flds l).length (strs (flds l)) ∧ Below wr.heap.size wr w') := by
          show Calls _ _ _ _ _; simpa using hcon
        have HFC : Hid ((flds l).length ≤ l.length) := flds_count l
        have HFL : Hid (∀ f ∈ flds l, f.length ≤ l.length) := flds_len_le l
        clear hcon
        go_wp2_with fail
        refine HC.out.mono ?_
        rintro e2 w2 ⟨vw, rfl, hown2, hb2⟩
        obtain ⟨ws, hws⟩ : ∃ ws, ws = flds l := ⟨_, rfl⟩
        rw [← hws] at hown2 HFC HFL
        have HWS := hide hws
        have HO2 := hide hown2
        have HB2 := hide hb2
        have hwl : ws.length ≤ 2000 := by have := HFC.out; omega
        clear hws hown2 hb2 HC
        cases ws with
        | nil =>
          obtain ⟨avw, cvw, rfl, _, _⟩ := own_val HO2.out
          have HN : Hid (rdLine r l = (r, 0)) := by show _ = _; unfold rdLine; rw [← HWS.out]
          have HG' : Hid (rdGo Rd0 0 ls = rdGo r (k + 1) (ls.drop (k + 1))) := by
            show _ = _; rw [HG.out, rdGo_step hlt (by rw [← HLk.out, HN.out]), ← HLk.out, HN.out]
          have HI2 : Hid (RfIs w w2 r vs vr) := HI.out.below HB2.out
          have HO' : Hid (w2.ownsRow (w.heap.size + 1 + 1) 9 1 (.slice (some ⟨g, 0, none⟩) ls.length cap) ls.length (strs ls)) := own_below HO.out HB2.out
          clear HO HI hcell HO2 HB2
          go_wp2
          go_roundw
          case rel => exact ⟨k + 1, r, vs, vr, by omega, by go_num, rfl, HG', HF, HI2, HO'⟩
          case measure => simp [intOf]; omega
        | cons f fs =>
          obtain ⟨gw, capw, curw, rfl, _, hgw, _⟩ := own_shape HO2.out (by simp)
          have hw2 : Words w2 gw f fs := by
            refine ⟨(Array.getElem?_eq_some_iff.1 hgw).1, ?_, fun i hi => ?_⟩
            · rw [HO2.out.cellAt 0 (by simp)]; rfl
            · rw [HO2.out.cellAt (i + 1) (by simp; omega)]; simp [strs, hi]
          have HW2 := hide hw2
          have HFO : Hid (Calls Tryz.prog 96 #[.slice (some ⟨gw, 0, none⟩) (f :: fs).length capw, .bool (!r.head)] w2 fun e w' => e = .returned (.bool (formedS f fs (!r.head))) ∧ w' = w2) :=
            formed_walk gw capw (f :: fs).length f fs (!r.head) w2 rfl (by simp at hwl; omega) (fun x hx => by have := HFL.out x (by simp [hx]); omega) hw2.head hw2.rest
          have HI2 : Hid (RfIs w w2 r vs vr) := HI.out.below HB2.out
          clear hw2 hgw
          go_wp2_with fail
          refine HFO.out.mono ?_
          rintro e3 w3 ⟨rfl, rfl⟩
          cases hfo : formedS f fs (!r.head)
          · have HX : Hid (parseS s.data.toList = (Rd0, k + 1, 2)) := by
              have he := not_formed (l := l) HWS.out.symm hfo
              refine parse_fault HLL.out ?_ (by decide)
              rw [← HLS.out, HG.out, rdGo_stop hlt (by rw [← HLk.out, he]; decide), ← HLk.out, he]
            obtain ⟨b0, b1, b2, b3, b4, b5, b6, hfz⟩ := box7 HI2.out.z
            clear HO HI hcell
            go_wp2
            refine bodyPost_ret (v := .tuple #[.agg zero7, .int .i64 ((k + 1 : Nat) : Int), .int .i64 2]) (by simp [results, Tryz.results45, go_sem, zero7, b0, b1, b2, b3, b4, b5, b6]) rfl ?_
            exact parsed_none HX.out (HI2.out.b.trans (below_put7 _ _ _ (Nat.le_refl _) _ _ _ _ _ _ _))
          · obtain ⟨y0, y1, y2, y3, y4, y5, y6, yf⟩ := seven HI2.out.x
            have HLV : Hid (rdLine r l = rdVals r f (fs.map numV)) := is_formed HWS.out.symm hfo
            have hcon := taken_any gw capw (f :: fs).length w.heap.size r vs vr f fs w3 rfl HW2.out hfo HI2.out.b.size HF.out HI2.out.s HI2.out.r
            rw [← HLV.out] at hcon
            have HC : Hid (Calls Tryz.prog 97 #[.agg #[.int .i64 r.vans, .int .i64 r.load, .int .i64 r.close, .int .i64 r.nodes, .int .i64 r.home, vs, vr], .slice (some ⟨gw, 0, none⟩) (fs.length + 1) capw] w3 (TkGood w3 w.heap.size (rdLine r l))) := hcon
            have HF' : Hid (RdGood (rdLine r l).1) := by show RdGood _; rw [HLV.out]; exact rdVals_good HF.out _ _
            clear hcon HLV hcell
            obtain ⟨_, _, hvs, _, _⟩ := own_val HI2.out.s
            obtain ⟨_, _, hvr, _, _⟩ := own_val HI2.out.r
            subst hvs hvr
            go_wp2_with fail
            refine HC.out.mono ?_
            rintro e4 w4 ⟨x, vs', vr', rfl, ⟨n5, a5, c5, n6, a6, c6, rfl, rfl⟩, hb4, hk4, hok4⟩
            have hz4 := hk4 _ _ _ _ HI2.out.z (by decide)
            have hx4 := hk4 _ _ _ _ HI2.out.x (by decide)
            have hbx : w.heap.size + 1 < w4.heap.size := (Array.getElem?_eq_some_iff.1 hx4).1
            have HB4 := hide hb4
            have HK4 := hide hk4
            have HOK4 := hide hok4
            clear hb4 hk4 hok4 HC HFO HO2 HW2 y0 y1 y2 y3 y4 y5 y6 yf
            unfold inst
            by_cases he : (rdLine r l).2 = 0
            · obtain ⟨hi1, hs1, hr1⟩ := HOK4.out he
              obtain ⟨hn1', hn2'⟩ := rf_next HI.out HB2.out HB4.out HK4.out hi1 hs1 hr1 HO.out
              have HN1 := hide hn1'
              have HN2 := hide hn2'
              have HG' : Hid (rdGo Rd0 0 ls = rdGo (rdLine r l).1 (k + 1) (ls.drop (k + 1))) := by
                show _ = _; rw [HG.out, HLk.out]; exact rdGo_step hlt (by rw [← HLk.out]; exact he)
              have hhd : (rdLine r l).1.head = true := head_of HWS.out.symm hfo he
              obtain ⟨q0, q1, q2, q3, q4, q5, q6, qf⟩ := seven hx4
              rw [he]
              clear hi1 hs1 hr1 hn1' hn2' hz4 hx4 HOK4 HB4 HK4 HI HI2 HB2 HO
              go_wp2_with fail
              go_roundw
              case rel =>
                have hfi : Value.bool false = .bool (!(rdLine r l).1.head) := by rw [hhd]; rfl
                refine ⟨k + 1, (rdLine r l).1, .slice a5 n5 c5, .slice a6 n6 c6, by omega, by go_num, hfi, HG', HF', ?_, ?_⟩
                · exact HN1.out.below (below1 _ _)
                · exact own_below HN2.out (below1 _ _)
              case measure => simp [intOf]; omega
            · have HX : Hid (parseS s.data.toList = (Rd0, k + 1, (rdLine r l).2)) := by
                refine parse_fault HLL.out ?_ he
                rw [← HLS.out, HG.out, HLk.out]; exact rdGo_stop hlt (by rw [← HLk.out]; exact he)
              have hne : ((rdLine r l).2 != 0) = true := by simp [he]
              obtain ⟨b0, b1, b2, b3, b4, b5, b6, hfz⟩ := box7 hz4
              have HB5 : Hid (Below w.heap.size w w4) := HI2.out.b.trans HB4.out
              clear he hz4 hx4 HOK4 HB4 HK4 HI HI2 HB2 HO HF' HF
              generalize (rdLine r l).2 = er at *
              have hb0 : w.heap.size < w4.heap.size := by omega
              go_wp2
              refine bodyPost_ret (v := .tuple #[.agg zero7, .int .i64 ((k + 1 : Nat) : Int), .int .i64 er]) (by simp [results, Tryz.results45, go_sem, zero7, b0, b1, b2, b3, b4, b5, b6, hb0]) rfl ?_
              exact parsed_none HX.out ((HB5.out.trans (below_put7 _ _ _ (Nat.le_refl _) _ _ _ _ _ _ _)).trans ((below1 _ _).mono (by have := HB5.out.size; have := (below_put7 w.heap.size w.heap.size w4 (Nat.le_refl _) (.int .i64 0) (.int .i64 0) (.int .i64 0) (.int .i64 0) (.int .i64 0) (.slice none 0 0) (.slice none 0 0)).size; omega)))
      · have hke : k = ls.length := by omega
        subst hke
        have HG' : Hid (rdGo Rd0 0 (splitB 10 s.data.toList) = (r, 0, 0)) := by
          show _ = _; rw [← HLS.out, HG.out]; exact rdGo_end (Nat.le_refl _)
        obtain ⟨b0, b1, b2, b3, b4, b5, b6, hfz⟩ := box7 HI.out.z
        obtain ⟨c0, c1, c2, c3, c4, c5, c6, hfr⟩ := seven HI.out.x
        have hrl : w.heap.size + 1 < wr.heap.size := (Array.getElem?_eq_some_iff.1 HI.out.x).1
        cases hh : r.head
        · have HX : Hid (parseS s.data.toList = (Rd0, ls.length, 2)) := by show _ = _; rw [parse_none HLL.out HG'.out hh, HLS.out]
          clear c0 c1 c2 c3 c4 c5 c6 hfr
          go_wp2
          refine bodyPost_ret (v := .tuple #[.agg zero7, .int .i64 ls.length, .int .i64 2]) (by simp [results, Tryz.results45, go_sem, zero7, b0, b1, b2, b3, b4, b5, b6]) rfl ?_
          exact parsed_none HX.out (HI.out.b.trans (below_put7 _ _ _ (Nat.le_refl _) _ _ _ _ _ _ _))
        · have HX : Hid (parseS s.data.toList = (r, 0, 0)) := parse_ok HLL.out HG'.out hh
          obtain ⟨aos, caps, hvs, _, _⟩ := own_val HI.out.s
          obtain ⟨aor, capr, hvr, _, _⟩ := own_val HI.out.r
          subst hvs hvr
          go_wp2
          rw [HX.out]
          refine bodyPost_ret (v := .tuple #[inst r (.slice aos r.stops.length caps) (.slice aor r.roads.length capr), .int .i64 0, .int .i64 0]) (by simp [results, Tryz.results45, go_sem, inst, b0, b1, b2, b3, b4, b5, b6]) rfl ?_
          exact ⟨_, _, rfl, own_put7 HI.out.z HI.out.s (by decide), own_put7 HI.out.z HI.out.r (by decide), HI.out.b.trans (below_put7 _ _ _ (Nat.le_refl _) _ _ _ _ _ _ _)⟩
end Go.Proofs.YtebinaopncclgabGreatDoor
namespace Go.Proofs.YtebinaopncclgabGreatDoor
open Go.RowKit Go.IntWalk

/- a list of structs of numbers: its cells, of whatever address -/
def Lies (w : World) (ao : Option Addr) (n size : Nat) (S : Nat → Nat → Int) : Prop :=
  0 < n → ∃ b o, ao = some ⟨b, o, none⟩ ∧ b < w.heap.size ∧ ∀ i j, i < n → j < size → w.cell? ⟨b, o + i * size + j, none⟩ = some (.int .i64 (S i j))
theorem Lies.below {w w' : World} {ao : Option Addr} {n size : Nat} {S : Nat → Nat → Int} (h : Lies w ao n size S) (hb : Below w.heap.size w w') : Lies w' ao n size S := fun hn => by
  obtain ⟨b, o, h1, h2, h3⟩ := h hn
  exact ⟨b, o, h1, Nat.lt_of_lt_of_le h2 hb.size, fun i j hi hj => (hb.cell (by exact h2)).trans (h3 i j hi hj)⟩

end Go.Proofs.YtebinaopncclgabGreatDoor
