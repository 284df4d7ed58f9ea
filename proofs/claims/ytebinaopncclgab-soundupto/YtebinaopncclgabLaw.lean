/- Walks: the law. -/
import Derived.Test.YtebinaopncclgabPlainK
namespace Go.Proofs.Ytebinaopncclgab
open Go.RowKit Go.IntWalk

def yCells (r : Rd) (vs vr : Value) : Array Value := #[.int .i64 r.vans, .int .i64 r.load, .int .i64 r.close, .int .i64 r.nodes, .int .i64 r.home, vs, vr]
/- the instance in its variable, its lists -/
structure YIs (w : World) (yb B : Nat) (r : Rd) (vs vr : Value) : Prop where
  heap : w.heap[yb]? = some (.cells (yCells r vs vr) 25 (0, 0))
  stops : w.ownsRow B 38 5 vs r.stops.length (ints r.stops.flatten)
  roads : w.ownsRow B 40 3 vr r.roads.length (ints r.roads.flatten)
theorem y_cells {w : World} {yb B : Nat} {r : Rd} {vs vr : Value} (h : YIs w yb B r vs vr) :
    w.cell? ⟨yb, 0, none⟩ = some (.int .i64 r.vans) ∧ w.cell? ⟨yb, 1, none⟩ = some (.int .i64 r.load) ∧ w.cell? ⟨yb, 2, none⟩ = some (.int .i64 r.close) ∧ w.cell? ⟨yb, 3, none⟩ = some (.int .i64 r.nodes) ∧ w.cell? ⟨yb, 4, none⟩ = some (.int .i64 r.home) ∧
    w.cell? ⟨yb, 5, none⟩ = some vs ∧ w.cell? ⟨yb, 6, none⟩ = some vr ∧ w.frozen? ⟨yb, 6, none⟩ = false ∧ yb < w.heap.size := by
  refine ⟨?_, ?_, ?_, ?_, ?_, ?_, ?_, frozen_of_row w yb 6 _ _ h.heap, (Array.getElem?_eq_some_iff.1 h.heap).1⟩ <;> (rw [cell_of_row w yb _ _ _ _ h.heap]; rfl)
theorem YIs.below {w w' : World} {yb B : Nat} {r : Rd} {vs vr : Value} (h : YIs w yb B r vs vr) (hb : Below w.heap.size w w') : YIs w' yb B r vs vr :=
  ⟨by rw [hb.block yb (Array.getElem?_eq_some_iff.1 h.heap).1]; exact h.heap, own_below h.stops hb, own_below h.roads hb⟩
theorem y_new {w : World} {B : Nat} {r : Rd} {vs vr : Value} (hs : w.ownsRow B 38 5 vs r.stops.length (ints r.stops.flatten)) (hr : w.ownsRow B 40 3 vr r.roads.length (ints r.roads.flatten)) :
    YIs (w.alloc (.cells (yCells r vs vr) 25)) w.heap.size B r vs vr := ⟨heap_alloc_new w _, hs.alloc _, hr.alloc _⟩
/- another list of roads is stored -/
theorem y_put {w : World} {yb B : Nat} {r : Rd} {vs vr vr' : Value} {rs : List (List Int)} (hh : w.heap[yb]? = some (.cells (yCells r vs vr) 25 (0, 0))) (hs : w.ownsRow B 38 5 vs r.stops.length (ints r.stops.flatten)) (hr : w.ownsRow B 40 3 vr' rs.length (ints rs.flatten)) :
    YIs (w.setCell ⟨yb, 6, none⟩ vr') yb B (withRoads r rs) vs vr' :=
  ⟨by rw [heap_setCell_same w yb 6 _ _ _ hh]; rfl, own_setCell hs hh (by decide) _, own_setCell hr hh (by decide) _⟩
/- a list is cut -/
theorem own_cut {w : World} {B g n cap size n' : Nat} {e : TypeId} {xs : List Value} (h : w.ownsRow B e size (.slice (some ⟨g, 0, none⟩) n cap) n xs) (hn : n' ≤ n) : w.ownsRow B e size (.slice (some ⟨g, 0, none⟩) n' cap) n' (xs.take (n' * size)) := by
  have hm : n' * size ≤ n * size := Nat.mul_le_mul_right _ hn
  rcases h.2 with ⟨h0, _⟩ | ⟨g', cap', cur, hv, hb, hg, h1, h2, h3, h4⟩
  · cases h0
  · cases hv
    refine ⟨by rw [List.length_take, h.1]; omega, .inr ⟨g, cap, cur, rfl, hb, hg, by omega, h2, h3, ?_⟩⟩
    rw [← h4, List.take_take, Nat.min_eq_left hm]
theorem flat_take {ss : List (List Int)} (h : ∀ s ∈ ss, s.length = 3) (k : Nat) : (ints ss.flatten).take (k * 3) = ints (ss.take k).flatten := by
  unfold ints
  rw [← List.map_take]
  congr 1
  induction k generalizing ss with
  | zero => simp
  | succ k ih =>
    cases ss with
    | nil => simp
    | cons s t =>
      have hs : s.length = 3 := h s (by simp)
      rw [List.take_succ_cons, List.flatten_cons, List.flatten_cons, List.take_append, hs, List.take_of_length_le (by omega), show (k + 1) * 3 - 3 = k * 3 by omega, ih (fun s hs => h s (by simp [hs]))]
def siteZ (r : Rd) (i : Nat) : Int := (sites r).getD i 0
theorem ways_text {r : Rd} (h : RdOk r) (w : World) :
    Calls Try.prog 11 #[.string ⟨(textL r).toArray⟩] w fun e w' => ∃ v, e = .returned (.tuple #[v, .int .i64 0]) ∧ Grid w' w.heap.size v (r.stops.length + 1) (fun i j => wayF r (siteN r i) (siteN r j)) ∧ Below w.heap.size w w' := by
  refine ways_ok ⟨(textL r).toArray⟩ r w ?_ ?_ h
  · have := textL_length h; show (textL r).toArray.size ≤ _; unfold maxLen; simp; omega
  · show parseS (textL r).toArray.toList = _; simpa using parse_text h
theorem heap_cells7 {w : World} {yb : Nat} {r : Rd} {vs vr : Value} (h : w.heap[yb]? = some (.cells (yCells r vs vr) 25 (0, 0))) :
    w.cell? ⟨yb, 0, none⟩ = some (.int .i64 r.vans) ∧ w.cell? ⟨yb, 1, none⟩ = some (.int .i64 r.load) ∧ w.cell? ⟨yb, 2, none⟩ = some (.int .i64 r.close) ∧ w.cell? ⟨yb, 3, none⟩ = some (.int .i64 r.nodes) ∧ w.cell? ⟨yb, 4, none⟩ = some (.int .i64 r.home) ∧
    w.cell? ⟨yb, 5, none⟩ = some vs ∧ w.cell? ⟨yb, 6, none⟩ = some vr ∧ w.frozen? ⟨yb, 6, none⟩ = false ∧ yb < w.heap.size := by
  refine ⟨?_, ?_, ?_, ?_, ?_, ?_, ?_, frozen_of_row w yb 6 _ _ h, (Array.getElem?_eq_some_iff.1 h).1⟩ <;> (rw [cell_of_row w yb _ _ _ _ h]; rfl)
/- behind the append of a road -/
theorem y_append {w w' : World} {yb B : Nat} {r : Rd} {vs vr v' : Value} {o : Obj} {p q l : Int} (h : YIs w yb B r vs vr) (hg : (w.alloc o).grownBy w' vr.ownBlock)
    (hown : w'.ownsRow B 40 3 v' (r.roads.length + 1) (ints r.roads.flatten ++ [.int .i64 p, .int .i64 q, .int .i64 l])) :
    w'.heap[yb]? = some (.cells (yCells r vs vr) 25 (0, 0)) ∧ YIs (w'.setCell ⟨yb, 6, none⟩ v') yb B (withRoads r (r.roads ++ [[p, q, l]])) vs v' := by
  have hX : (w.alloc o).heap[yb]? = some (.cells (yCells r vs vr) 25 (0, 0)) := by rw [Below.heap_alloc _ _ _ (Array.getElem?_eq_some_iff.1 h.heap).1]; exact h.heap
  have h1 : w'.heap[yb]? = some (.cells (yCells r vs vr) 25 (0, 0)) := Keep.grown (T := [40]) (h.roads.alloc o) (by simp) hg yb _ _ _ hX (by decide)
  refine ⟨h1, y_put h1 ((h.stops.alloc o).kept hg (own_ne h.stops h.roads (by decide))) ?_⟩
  rw [List.length_append, List.flatten_append, ints_append]; simpa [ints] using hown
theorem came_below {w W : World} {ao : Option Addr} {n size : Nat} {S : Nat → Nat → Int} (h : Came w ao n size S) (hb : Below w.heap.size w W) : Came W ao n size S := fun hn => by
  obtain ⟨b, o, e, hl, hc⟩ := h hn
  have := hb.size
  exact ⟨b, o, e, by omega, fun i j hi hj => ⟨by rw [hb.cell (p := ⟨b, o + i * size + j, none⟩) hl]; exact (hc i j hi hj).1, (hc i j hi hj).2⟩⟩
end Go.Proofs.Ytebinaopncclgab
