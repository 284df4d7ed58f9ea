/- Walks: the area of an instance. -/
import Derived.Test.YtebinaopncclgabGreatDoorJArea
import Derived.Test.YtebinaopncclgabGreatDoorOnZ
namespace Go.Proofs.YtebinaopncclgabGreatDoor
open Go.RowKit Go.IntWalk

theorem GridO.keep {T : List TypeId} {w w' : World} {B : Nat} {v : Value} {n : Nat} {D : Nat → Nat → Int} (h : GridO w B v n D) (hk : Keep T w w') (h1 : 3 ∉ T) (h2 : 40 ∉ T) : GridO w' B v n D := by
  obtain ⟨g, G, e1, e2, e3, e4⟩ := h
  refine ⟨g, G, e1, own_keep e2 hk h2, fun i hi => ?_, e4⟩
  obtain ⟨k1, ci, k2, k3⟩ := e3 i hi
  exact ⟨k1, ci, hk _ _ _ _ k2 h1, k3⟩
theorem StR.own {w : World} {B : Nat} {v : Value} {r : Rd} (h : w.ownsRow B 62 5 v r.stops.length (ints r.stops.flatten)) (hs : ∀ s ∈ r.stops, s.length = 5) : StR w v r := by
  obtain ⟨ao, c, hv, h1, h2⟩ := own_val h
  refine ⟨ao, c, hv, fun i hi => ?_⟩
  cases ao with
  | none => exact absurd (h2 rfl) (by omega)
  | some a =>
    subst hv
    obtain ⟨g, rfl, _, hg⟩ := h1 a rfl
    refine ⟨g, rfl, hg, fun j z hj hz => ?_⟩
    have hij : i * 5 + j < r.stops.length * 5 := by omega
    rw [h.cellAt (i * 5 + j) hij]
    exact flat_ints hs hi hj hz
theorem alloc2_one (w : World) (o o' : Obj) : ((w.alloc o).alloc o').heap[w.heap.size]? = some o := by
  have h := (below1 (w.alloc o) o').block w.heap.size (by simp)
  rw [h]; exact heap_alloc_new w o

set_option maxRecDepth 100000 in
set_option maxHeartbeats 2000000 in
theorem of_any (B B' : Nat) (r : Rd) (vs vr : Value) (w : World) (hn : RdOk r) (hs : w.ownsRow B 62 5 vs r.stops.length (ints r.stops.flatten)) (hr : w.ownsRow B' 64 3 vr r.roads.length (ints r.roads.flatten)) :
    Calls Tryz.prog 39 #[inst r vs vr] w fun e w' => ∃ v, e = .returned (.agg (ground r vs vr v)) ∧ GridO w' w.heap.size v (r.stops.length + 1) (siteD r) ∧ Below w.heap.size w w' := by
  have HCB : Hid (∀ W, Below w.heap.size w W → Calls Tryz.prog 38 #[inst r vs vr] W fun e w' => ∃ v, e = .returned v ∧ GridO w' W.heap.size v (r.stops.length + 1) (siteD r) ∧ Below W.heap.size W w') := fun W hW => between_own B B' r vs vr W hn (own_below hs hW) (own_below hr hW)
  have hns := hn.nstops
  have hnr := hn.nroads
  obtain ⟨aos, caps, rfl, _, _⟩ := own_val hs
  obtain ⟨aor, capr, rfl, _, _⟩ := own_val hr
  clear hs hr hn
  unfold inst at *
  go_enter Tryz.func39, Tryz.ntmps39
  go_wp2_with fail
  refine (HCB.out _ (below2 w _ _)).mono ?_
  rintro e1 w1 ⟨v1, rfl, hg1, hb1⟩
  have HW1 : Hid (Below w.heap.size w w1) := (below2 w _ _).trans (hb1.mono (by simp; omega))
  have hx1 : w1.heap[w.heap.size]? = some (.cells #[.int .i64 r.vans, .int .i64 r.load, .int .i64 r.close, .int .i64 r.nodes, .int .i64 r.home, .slice aos r.stops.length caps, .slice aor r.roads.length capr] 28 (0, 0)) := (hb1.block _ (by simp; omega)).trans (alloc2_one w _ _)
  have hz1 : w1.heap[w.heap.size + 1]? = some (.cells zero8 82 (0, 0)) := (hb1.block _ (by simp)).trans (by
    have h := heap_alloc_new (w.alloc (.cells #[.int .i64 r.vans, .int .i64 r.load, .int .i64 r.close, .int .i64 r.nodes, .int .i64 r.home, .slice aos r.stops.length caps, .slice aor r.roads.length capr] 28)) (.cells zero8 82)
    rw [show (w.alloc (.cells #[.int .i64 r.vans, .int .i64 r.load, .int .i64 r.close, .int .i64 r.nodes, .int .i64 r.home, .slice aos r.stops.length caps, .slice aor r.roads.length capr] 28)).heap.size = w.heap.size + 1 by simp] at h; exact h)
  obtain ⟨q0, q1, q2, q3, q4, q5, q6, _⟩ := seven hx1
  obtain ⟨b0, b1, b2, b3, b4, b5, b6, b7, bf⟩ := eight hz1
  have hxl : w.heap.size < w1.heap.size := (Array.getElem?_eq_some_iff.1 hx1).1
  have hzl2 : w.heap.size + 1 < w1.heap.size := (Array.getElem?_eq_some_iff.1 hz1).1
  have HG1 : Hid (GridO w1 w.heap.size v1 (r.stops.length + 1) (siteD r)) := hg1.base (show w.heap.size ≤ _ by simp; omega)
  obtain ⟨avw, _, rfl, _⟩ := hg1
  have HZ1 := hid hz1
  clear hb1 hx1 hz1 HCB
  go_wp2
  refine bodyPost_ret (v := .agg (ground r (.slice aos r.stops.length caps) (.slice aor r.roads.length capr) (.slice (some ⟨avw, 0, none⟩) (r.stops.length + 1) (r.stops.length + 1)))) (by simp [results, Tryz.results39, go_sem, ground, b0, b1, b2, b3, b4, b5, b6, b7]) rfl ?_
  exact ⟨_, rfl, HG1.out.keep (put8_keep HZ1.out _ _ _ _ _ _ _ _) (by decide) (by decide), below_put8 HW1.out (by omega) _ _ _ _ _ _ _ _⟩

end Go.Proofs.YtebinaopncclgabGreatDoor
