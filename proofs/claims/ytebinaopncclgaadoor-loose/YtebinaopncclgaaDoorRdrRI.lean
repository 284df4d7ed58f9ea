/- The reader takes a road in. -/
import Derived.Test.YtebinaopncclgaaDoorRdrS
namespace Go.Proofs.YtebinaopncclgaaDoor
open Go.RowKit Go.IntWalk

theorem road_eq {r : Rd} {a b c : Int} (hh : r.head = true) (hlen : r.roads.length < 40) (hok : roadOk a b c r.nodes = true) : rdRoad r a b c = ({ r with roads := r.roads ++ [[a, b, c]] }, 0) := by
  unfold rdRoad; rw [if_neg (by simp [hh]), if_neg (by omega), if_pos hok]
theorem road_left {w w1 X w2 : World} {o : Obj} {B rb : Nat} {r : Rd} {vs vr v' : Value} {a b c : Int} (hg : X.grownBy w2 vr.ownBlock) (hr : RdAt w B rb r vs vr) (hw1 : Below w.heap.size w w1) (hh : X.heap = (w1.alloc o).heap) (ho : X.os = w1.os) (ht : X.tape = w1.tape) (hu : X.output = w1.output)
    (hown : w2.ownsRow B 39 3 v' (r.roads.length + 1) (ints r.roads.flatten ++ [.int .i64 a, .int .i64 b, .int .i64 c]))
    (hx : rdRoad r a b c = ({ r with roads := r.roads ++ [[a, b, c]] }, 0)) :
    RdLeft w B rb (rdRoad r a b c) (.returned (.int .i64 0)) (w2.setCell ⟨rb, 6, none⟩ v') := by
  have hr1 := rd_same hr hw1
  have hrb := rd_after hg hr1 hh hr1.2.2.2 (by decide)
  have hsz : B ≤ w.heap.size := by have := (Array.getElem?_eq_some_iff.1 hr.2.1).1; have := hr.1; omega
  have hX : Below w1.heap.size w1 X := below_new hh ho ht hu
  have hwX : Below w.heap.size w X := hw1.trans (hX.mono hw1.size)
  have hbX : Below B X w2 := (Below.refl _ _).grown hg (by have := hwX.size; omega) (fun k hk => (hr1.2.2.2.lt k hk).1)
  have hrd : w2.ownsRow B 37 5 vs r.stops.length (ints r.stops.flatten) :=
    (own_below hr1.2.2.1 hX).kept hg (own_ne hr1.2.2.1 hr1.2.2.2 (by decide))
  rw [hx]
  have hown' : w2.ownsRow B 39 3 v' (r.roads ++ [[a, b, c]]).length (ints (r.roads ++ [[a, b, c]]).flatten) := by
    rw [List.length_append, List.flatten_append, ints_append]; simpa [ints] using hown
  refine ⟨vs, v', rfl, ⟨hr.1, ?_, own_setCell hrd hrb (by decide) _, own_setCell hown' hrb (by decide) _⟩, ?_, ?_⟩
  · rw [heap_setCell_same w2 rb 6 _ _ _ hrb]; rfl
  · exact ((hwX.mono hsz).trans hbX).setCell hr.1 _
  · exact (((Keep.of_below hw1).trans (keep_new hh)).trans (keep_of (Keep.grown (T := [39]) (own_below hr1.2.2.2 hX) (by simp) hg) (by decide))).trans (keep_of (e := 46) (Keep.setCell hrb (by simp) _) (by decide))

set_option maxRecDepth 100000 in
set_option maxHeartbeats 1000000 in
theorem road_in (B rb g cap : Nat) (r : Rd) (vs vr : Value) (a b c : Int) (w : World) (hr : RdAt w B rb r vs vr) (hh : r.head = true) (hlen : r.roads.length < 40) (hok : roadOk a b c r.nodes = true)
    (hg : g < w.heap.size) (h0 : w.cell? ⟨g, 0, none⟩ = some (.int .i64 a)) (h1 : w.cell? ⟨g, 1, none⟩ = some (.int .i64 b)) (h2 : w.cell? ⟨g, 2, none⟩ = some (.int .i64 c)) :
    Calls Tryd.prog 22 #[.pointer (some ⟨rb, 0, none⟩), .slice (some ⟨g, 0, none⟩) 3 cap] w (RdLeft w B rb (rdRoad r a b c)) := by
  obtain ⟨c0, c1, c2, c3, c4, c5, c6, c7, hfz, hrl⟩ := rd_cells hr
  obtain ⟨i0, hi, hz0, hz1, hz2⟩ := info_parts Tryd.infoRoad
  obtain ⟨aos, caps, rfl, _, _⟩ := own_val hr.2.2.2
  rw [hh] at c7
  clear c0 c1 c2 c4 c5
  go_enter Tryd.func22, Tryd.ntmps22
  go_wp2
  go_region
  go_wp2_with fail
  go_region_with (go_at_call 25; refine (roadFits_any _ _ _ _ _).mono ?_; rintro e1 w1 ⟨rfl, hb1⟩)
  all_goals
    obtain ⟨hw1, hz, hbox⟩ := box_facts (w := w) (cs := #[.int .i64 a, .int .i64 b, .int .i64 c]) (t := 39) hb1 rfl rfl rfl rfl
    clear hb1
    have b0 : w1.cell? ⟨w.heap.size, 0, none⟩ = some (.int .i64 a) := hbox 0
    have b1 : w1.cell? ⟨w.heap.size, 1, none⟩ = some (.int .i64 b) := hbox 1
    have b2 : w1.cell? ⟨w.heap.size, 2, none⟩ = some (.int .i64 c) := hbox 2
    clear hbox h0 h1 h2
    have HR := hide (rd_same hr hw1)
    have HW := hide hw1
    have HX : Hid (rdRoad r a b c = ({ r with roads := r.roads ++ [[a, b, c]] }, 0)) := road_eq hh hlen hok
    have d5 : w1.cell? ⟨rb, 6, none⟩ = some (.slice aos r.roads.length caps) := (hw1.cell (by exact hrl)).trans c6
    have hf5 : w1.frozen? ⟨rb, 6, none⟩ = false := (hw1.frozen (by exact hrl)).trans (hfz 6)
    have hrl1 : rb < w1.heap.size := by omega
    clear hw1 c6 c7 c3 hfz
    go_wp2
    go_region_law (refine step_append_own rfl (.tmp 46) (.tmp 48) 23 rfl B 39 i0 (.agg #[.int .i64 0, .int .i64 0, .int .i64 0]) 3 24 Tryd.underlying23 hi hz0 hz1 hz2 rfl (by decide) (.slice aos r.roads.length caps) r.roads.length (ints r.roads.flatten) (by simp [Act.eval]) (by exact own_new rfl HR.out.2.2.2 rfl) ⟨w1.heap.size, 0, none⟩ 1 1 [.int .i64 a, .int .i64 b, .int .i64 c] (by simp [Act.eval]) rfl (by exact news_at rfl rfl) (by exact ints3 _ _ _) (by unfold maxLen; omega) (by omega) (by exact lt_new rfl HR.out.1 hrl1) ?_; intro v' w2 hown2 hgrow2; have HO := hide hown2; have HG := hide hgrow2; obtain ⟨g5, cap5, cur5, hv5, _, _, _⟩ := own_shape hown2 (by omega); clear hown2 hgrow2; subst hv5; obtain ⟨_, e5, _, f5⟩ := rd_after_cells (rd_after HG.out HR.out rfl HR.out.2.2.2 (by decide)))
    all_goals
      go_wp2
      go_ret
      exact road_left HG.out hr HW.out rfl rfl rfl rfl HO.out HX.out

end Go.Proofs.YtebinaopncclgaaDoor
