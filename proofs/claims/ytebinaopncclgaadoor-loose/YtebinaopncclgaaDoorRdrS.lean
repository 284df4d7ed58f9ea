/- Walks: the reader's stops. -/
import Derived.Test.YtebinaopncclgaaDoorRdr
namespace Go.Proofs.YtebinaopncclgaaDoor
open Go.RowKit Go.IntWalk
theorem Tryd.infoStop : (Tryd.prog.info? 37).map (fun i => (i.zero, i.size, i.bytes)) = some (some (.agg #[.int .i64 0, .int .i64 0, .int .i64 0, .int .i64 0, .int .i64 0]), 5, 40) := by kernel_rfl
theorem Tryd.infoRoad : (Tryd.prog.info? 39).map (fun i => (i.zero, i.size, i.bytes)) = some (some (.agg #[.int .i64 0, .int .i64 0, .int .i64 0]), 3, 24) := by kernel_rfl

theorem hide {p : Prop} (h : p) : Hid p := h
theorem box_facts {w w0 w1 : World} {cs : Array Value} {t : TypeId} (hb : Below w0.heap.size w0 w1) (hh : w0.heap = (w.alloc (.cells cs t)).heap) (ho : w0.os = w.os) (ht : w0.tape = w.tape) (hu : w0.output = w.output) :
    Below w.heap.size w w1 ∧ w.heap.size < w1.heap.size ∧ ∀ j, w1.cell? ⟨w.heap.size, j, none⟩ = cs[j]? := by
  have hs0 : w0.heap.size = w.heap.size + 1 := by rw [hh]; show (w.heap.push _).size = _; simp
  have hs1 := hb.size
  refine ⟨⟨hb.os.trans ho, hb.tape.trans ht, hb.output.trans hu, by omega, fun k hk => ?_⟩, by omega, fun j => ?_⟩
  · rw [hb.block k (by omega), hh]; exact Below.heap_alloc _ _ _ hk
  · rw [hb.cell (p := ⟨w.heap.size, j, none⟩) (show w.heap.size < w0.heap.size by omega)]
    refine cell_of_row w0 w.heap.size j cs t (0, 0) ?_
    rw [hh]; exact heap_alloc_new w _

theorem own_heap {w X : World} {v : Value} {B n size : Nat} {e : TypeId} {xs : List Value} (h : w.ownsRow B e size v n xs) (hh : X.heap = w.heap) : X.ownsRow B e size v n xs := by
  unfold World.ownsRow at *; rw [hh]; exact h
theorem own_new {w X : World} {v v' : Value} {B n size : Nat} {e : TypeId} {xs : List Value} {o : Obj} (hv : v = v') (h : w.ownsRow B e size v n xs) (hh : X.heap = (w.alloc o).heap) : X.ownsRow B e size v' n xs := by
  subst hv; exact own_heap (h.alloc o) hh
theorem news_at {w X : World} {cs : Array Value} {t : TypeId} {l : List Value} (hl : l = cs.toList) (hh : X.heap = (w.alloc (.cells cs t)).heap) : ∀ j u, l[j]? = some u → X.cell? ((⟨w.heap.size, 0, none⟩ : Addr).add j) = some u := by
  intro j u hu
  subst hl
  rw [Addr.add_lit, Nat.zero_add, cell_of_row X w.heap.size j cs t (0, 0) (by rw [hh]; exact heap_alloc_new w _)]
  simpa using hu
theorem ints5 (a b c d e : Int) : ∀ u ∈ [Value.int .i64 a, .int .i64 b, .int .i64 c, .int .i64 d, .int .i64 e], u.oneCell' = true := by
  intro u hu; simp at hu; rcases hu with rfl | rfl | rfl | rfl | rfl <;> rfl
theorem ints3 (a b c : Int) : ∀ u ∈ [Value.int .i64 a, .int .i64 b, .int .i64 c], u.oneCell' = true := by
  intro u hu; simp at hu; rcases hu with rfl | rfl | rfl <;> rfl
theorem lt_new {w X : World} {o : Obj} {B rb : Nat} (hh : X.heap = (w.alloc o).heap) (hB : B ≤ rb) (h : rb < w.heap.size) : B ≤ X.heap.size := by
  rw [hh]; show B ≤ (w.heap.push o).size; simp; omega

/- the reader behind an append onto one of its lists -/
theorem rd_after {w X w' : World} {o : Obj} {B rb n size : Nat} {r : Rd} {vs vr v : Value} {e : TypeId} {xs : List Value} (hg : X.grownBy w' v.ownBlock) (hr : RdAt w B rb r vs vr) (hh : X.heap = (w.alloc o).heap) (hv : w.ownsRow B e size v n xs) (he : e ≠ 46) : w'.heap[rb]? = some (.cells (rdCells r vs vr) 46 (0, 0)) := by
  have hX : X.heap[rb]? = some (.cells (rdCells r vs vr) 46 (0, 0)) := by
    rw [hh, Below.heap_alloc _ _ _ (Array.getElem?_eq_some_iff.1 hr.2.1).1]; exact hr.2.1
  exact Keep.grown (T := [e]) (own_heap (hv.alloc o) hh) (by simp) hg rb _ _ _ hX (by simp; exact fun h => he h.symm)
theorem rd_after_cells {w' : World} {rb : Nat} {r : Rd} {vs vr : Value} (h : w'.heap[rb]? = some (.cells (rdCells r vs vr) 46 (0, 0))) :
    w'.cell? ⟨rb, 5, none⟩ = some vs ∧ w'.cell? ⟨rb, 6, none⟩ = some vr ∧ w'.frozen? ⟨rb, 5, none⟩ = false ∧ w'.frozen? ⟨rb, 6, none⟩ = false :=
  ⟨by rw [cell_of_row w' rb 5 _ _ _ h]; rfl, by rw [cell_of_row w' rb 6 _ _ _ h]; rfl, frozen_of_row w' rb 5 _ _ h, frozen_of_row w' rb 6 _ _ h⟩
theorem keep_of {w w' : World} {e : TypeId} (h : Keep [e] w w') (he : e ∈ rdT) : Keep rdT w w' := fun k cur t z hk ht => h k cur t z hk (by intro h'; simp at h'; subst h'; exact ht he)
theorem keep_new {w X : World} {o : Obj} (hh : X.heap = (w.alloc o).heap) : Keep rdT w X := fun k cur t z hk _ => by
  rw [hh, Below.heap_alloc _ _ _ (Array.getElem?_eq_some_iff.1 hk).1]; exact hk
theorem below_new {w X : World} {o : Obj} (hh : X.heap = (w.alloc o).heap) (ho : X.os = w.os) (ht : X.tape = w.tape) (hu : X.output = w.output) : Below w.heap.size w X :=
  ⟨ho, ht, hu, by rw [hh]; show _ ≤ (w.heap.push o).size; simp, fun k hk => by rw [hh]; exact Below.heap_alloc _ _ _ hk⟩

theorem ints_append (a b : List Int) : ints (a ++ b) = ints a ++ ints b := by simp [ints]
theorem stop_eq {r : Rd} {a b c d e : Int} (hh : r.head = true) (hlen : r.stops.length < 7) (hok : stopOk a b c d e r.nodes = true) : rdStop r a b c d e = ({ r with stops := r.stops ++ [[a, b, c, d, e]] }, 0) := by
  unfold rdStop; rw [if_neg (by simp [hh]), if_neg (by omega), if_pos hok]
theorem stop_left {w w1 X w2 : World} {o : Obj} {B rb : Nat} {r : Rd} {vs vr v' : Value} {a b c d e : Int} (hg : X.grownBy w2 vs.ownBlock) (hr : RdAt w B rb r vs vr) (hw1 : Below w.heap.size w w1) (hh : X.heap = (w1.alloc o).heap) (ho : X.os = w1.os) (ht : X.tape = w1.tape) (hu : X.output = w1.output)
    (hown : w2.ownsRow B 37 5 v' (r.stops.length + 1) (ints r.stops.flatten ++ [.int .i64 a, .int .i64 b, .int .i64 c, .int .i64 d, .int .i64 e]))
    (hx : rdStop r a b c d e = ({ r with stops := r.stops ++ [[a, b, c, d, e]] }, 0)) :
    RdLeft w B rb (rdStop r a b c d e) (.returned (.int .i64 0)) (w2.setCell ⟨rb, 5, none⟩ v') := by
  have hr1 := rd_same hr hw1
  have hrb := rd_after hg hr1 hh hr1.2.2.1 (by decide)
  have hsz : B ≤ w.heap.size := by have := (Array.getElem?_eq_some_iff.1 hr.2.1).1; have := hr.1; omega
  have hX : Below w1.heap.size w1 X := below_new hh ho ht hu
  have hwX : Below w.heap.size w X := hw1.trans (hX.mono hw1.size)
  have hbX : Below B X w2 := (Below.refl _ _).grown hg (by have := hwX.size; omega) (fun k hk => (hr1.2.2.1.lt k hk).1)
  have hrd : w2.ownsRow B 39 3 vr r.roads.length (ints r.roads.flatten) :=
    (own_below hr1.2.2.2 hX).kept hg (own_ne hr1.2.2.2 hr1.2.2.1 (by decide))
  rw [hx]
  have hown' : w2.ownsRow B 37 5 v' (r.stops ++ [[a, b, c, d, e]]).length (ints (r.stops ++ [[a, b, c, d, e]]).flatten) := by
    rw [List.length_append, List.flatten_append, ints_append]; simpa [ints] using hown
  refine ⟨v', vr, rfl, ⟨hr.1, ?_, own_setCell hown' hrb (by decide) _, own_setCell hrd hrb (by decide) _⟩, ?_, ?_⟩
  · rw [heap_setCell_same w2 rb 5 _ _ _ hrb]; rfl
  · exact ((hwX.mono hsz).trans hbX).setCell hr.1 _
  · exact (((Keep.of_below hw1).trans (keep_new hh)).trans (keep_of (Keep.grown (T := [37]) (own_below hr1.2.2.1 hX) (by simp) hg) (by decide))).trans (keep_of (e := 46) (Keep.setCell hrb (by simp) _) (by decide))

end Go.Proofs.YtebinaopncclgaaDoor
