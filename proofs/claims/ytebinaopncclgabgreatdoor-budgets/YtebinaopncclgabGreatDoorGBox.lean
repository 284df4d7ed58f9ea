/- Walks: the box of a walk along a tree, as it is made. -/
import Derived.Test.YtebinaopncclgabGreatDoorCSq
import Derived.Deep.WholeRow
import Derived.Test.YtebinaopncclgabGreatDoorGTake
import Derived.Test.YtebinaopncclgabGreatDoorJOf
namespace Go.Proofs.YtebinaopncclgabGreatDoor
open Go.RowKit Go.IntWalk

def arcsZ (x : Int) (vf : Value) : Array Value := #[.int .i64 x, vf] ++ Array.replicate 64 (.int .i64 0)
theorem zero_arcs (W : World) : (zeroValue 87).run Tryz.prog W = .ok (.agg (arcsZ 0 (.slice none 0 0))) W := by kernel_rfl
theorem arcsZ_ne (x : Int) (vf : Value) : ¬ arcsZ x vf = #[] := by
  intro h; have := congrArg Array.size h; simp [arcsZ] at this

theorem agg_arcs (W : World) : (isAgg 87).run Tryz.prog W = .ok true W := by kernel_rfl
theorem size_arcs (W : World) : (sizeOf 87).run Tryz.prog W = .ok 66 W := by kernel_rfl
/- a result that lies in a box, read as a whole -/
theorem results_box {P : Program} {fn : Func} {tmps : Array Value} {a : Nat} {t : TypeId} {p : Addr} {c : Array Value} {n : Nat} {w : World} (hr : fn.results = #[.cell a t]) (ha : tmps.getD a undef = .pointer (some p)) (hg : (isAgg t).run P w = .ok true w) (hz : (sizeOf t).run P w = .ok n w) (hl : (loadCellsFrom p 0 n #[]).run P w = .ok c w) : (results fn tmps).run P w = .ok (.agg c) w := by
  have ha2 : tmps[a]?.getD undef = .pointer (some p) := by simpa using ha
  unfold results; rw [hr]
  simp [loadVar, loadCells, ha2, hg, hz, hl, asAddr]
set_option maxRecDepth 100000 in
set_option maxHeartbeats 4000000 in
theorem copen_any (B B' : Nat) (r : Rd) (vs vr : Value) (w : World) (hn : RdOk r) (hs : w.ownsRow B 62 5 vs r.stops.length (ints r.stops.flatten)) (hr : w.ownsRow B' 64 3 vr r.roads.length (ints r.roads.flatten)) :
    Calls Tryz.prog 87 #[inst r vs vr] w fun e w' => ∃ v, e = .returned (.agg (arcsZ r.vans v)) ∧ GridO w' w.heap.size v (r.stops.length + 1) (fun i j => wayF r (siteN r i) (siteN r j)) ∧ Below w.heap.size w w' := by
  have HCB : Hid (∀ W, Below w.heap.size w W → Calls Tryz.prog 38 #[inst r vs vr] W fun e w' => ∃ v, e = .returned v ∧ GridO w' W.heap.size v (r.stops.length + 1) (fun i j => wayF r (siteN r i) (siteN r j)) ∧ Below W.heap.size W w') := fun W hW => between_own B B' r vs vr W hn (own_below hs hW) (own_below hr hW)
  have hns := hn.nstops
  obtain ⟨aos, caps, rfl, _, _⟩ := own_val hs
  obtain ⟨aor, capr, rfl, _, _⟩ := own_val hr
  clear hs hr hn
  unfold inst at *
  have hzv := zero_arcs
  have hzn := arcsZ_ne
  go_enter Tryz.func87, Tryz.ntmps87
  go_wp2_with fail
  refine (HCB.out _ (below2 w _ _)).mono ?_
  rintro e1 w1 ⟨v1, rfl, hg1, hb1⟩
  have HG1 := hid hg1
  have HW1 : Hid (Below w.heap.size w w1) := (below2 w _ _).trans (hb1.mono (by simp; omega))
  have d0 : w1.cell? ⟨w.heap.size, 0, none⟩ = some (.int .i64 r.vans) := (hb1.cell (by simp; omega)).trans (by simp [go_sem])
  have hz : w.heap.size + 2 ≤ w1.heap.size := by have := hb1.size; simp at this; omega
  have hrow : w1.heap[w.heap.size + 1]? = some (.cells (arcsZ 0 (.slice none 0 0)) 87 (0, 0)) := (hb1.block _ (by simp)).trans (by have h := heap_alloc_new (w.alloc (.cells #[.int .i64 r.vans, .int .i64 r.load, .int .i64 r.close, .int .i64 r.nodes, .int .i64 r.home, .slice aos r.stops.length caps, .slice aor r.roads.length capr] 28)) (.cells (arcsZ 0 (.slice none 0 0)) 87); rw [show (w.alloc (.cells #[.int .i64 r.vans, .int .i64 r.load, .int .i64 r.close, .int .i64 r.nodes, .int .i64 r.home, .slice aos r.stops.length caps, .slice aor r.roads.length capr] 28)).heap.size = w.heap.size + 1 by simp] at h; exact h)
  obtain ⟨g7, _, rfl, _⟩ := hg1
  clear hb1
  have hsl : (((arcsZ 0 (.slice none 0 0)).toList.set 0 (Value.int .i64 r.vans)).set 1 (.slice (some ⟨g7, 0, none⟩) (r.stops.length + 1) (r.stops.length + 1))) = (arcsZ r.vans (.slice (some ⟨g7, 0, none⟩) (r.stops.length + 1) (r.stops.length + 1))).toList := by unfold arcsZ; rw [Array.toList_append, Array.toList_append]; rfl
  obtain ⟨vx, hvx⟩ : ∃ vx, vx = Value.slice (some ⟨g7, 0, none⟩) (r.stops.length + 1) (r.stops.length + 1) := ⟨_, rfl⟩
  have hone : vx.oneCell' = true := by rw [hvx]; rfl
  have hst : Sem.run Tryz.prog (storeCells ⟨w.heap.size + 1, 0, none⟩ (((arcsZ 0 (.slice none 0 0)).toList.set 0 (Value.int .i64 r.vans)).set 1 (.slice (some ⟨g7, 0, none⟩) (r.stops.length + 1) (r.stops.length + 1)))) w1 = .ok () (w1.setRow (w.heap.size + 1) (arcsZ r.vans (.slice (some ⟨g7, 0, none⟩) (r.stops.length + 1) (r.stops.length + 1)))) := by
    rw [hsl, ← hvx]
    have h := run_storeCells_from (P := Tryz.prog) (w.heap.size + 1) 87 (arcsZ r.vans vx).toList 0 _ w1 hrow (by rw [Nat.zero_add, Array.length_toList]; unfold arcsZ; rw [Array.size_append, Array.size_append]; rfl) (by
      intro u hu
      simp only [arcsZ, Array.toList_append, List.mem_append, Array.toList_replicate, List.mem_replicate] at hu
      rcases hu with hu | hu
      · simp at hu; rcases hu with rfl | rfl
        · rfl
        · exact hone
      · rw [hu.2]; rfl)
    rw [List.take_zero, List.nil_append, Array.toArray_toList] at h; exact h
  obtain ⟨w2, hw2⟩ : ∃ w2, w2 = w1.setRow (w.heap.size + 1) (arcsZ r.vans (.slice (some ⟨g7, 0, none⟩) (r.stops.length + 1) (r.stops.length + 1))) := ⟨_, rfl⟩
  rw [← hw2] at hst
  have hld : Sem.run Tryz.prog (loadCellsFrom ⟨w.heap.size + 1, 0, none⟩ 0 66 #[]) w2 = .ok (arcsZ r.vans (.slice (some ⟨g7, 0, none⟩) (r.stops.length + 1) (r.stops.length + 1))) w2 := by
    have h := run_loadCells_list (P := Tryz.prog) w2 ⟨w.heap.size + 1, 0, none⟩ (arcsZ r.vans (.slice (some ⟨g7, 0, none⟩) (r.stops.length + 1) (r.stops.length + 1))).toList (fun j v hv => by
      have hadd : (⟨w.heap.size + 1, 0, none⟩ : Addr).add j = ⟨w.heap.size + 1, j, none⟩ := by unfold Addr.add; split <;> simp_all
      rw [hadd, hw2, cell_setRow_same _ _ _ _ _ _ _ hrow]
      simpa using hv)
    rw [show (arcsZ r.vans (.slice (some ⟨g7, 0, none⟩) (r.stops.length + 1) (r.stops.length + 1))).toList.length = 66 by rw [Array.length_toList]; unfold arcsZ; rw [Array.size_append, Array.size_replicate]; rfl, Array.toArray_toList] at h
    exact h
  have HB2 : Hid (Below w.heap.size w w2) := by
    show Below _ _ _
    rw [hw2]
    exact HW1.out.trans ⟨rfl, rfl, rfl, by simp, fun k hk => setRow_other w1 _ k _ (by omega)⟩
  have HW2 := hid hw2
  clear hw2 hsl hrow hvx hone
  go_wp2
  refine bodyPost_ret (v := .agg (arcsZ r.vans (.slice (some ⟨g7, 0, none⟩) (r.stops.length + 1) (r.stops.length + 1)))) (results_box (t := 87) Tryz.results87 ?ra (agg_arcs _) (size_arcs _) hld) rfl ?_
  case ra => simp
  refine ⟨_, rfl, ?_, HB2.out⟩
  obtain ⟨g, G, h1, h2, h3, h4⟩ := HG1.out
  cases h1
  have hlb : ∀ k, w.heap.size + 2 ≤ k → w2.heap[k]? = w1.heap[k]? := fun k hk => by rw [HW2.out]; exact setRow_other w1 _ k _ (by omega)
  refine (show GridO w2 (w.heap.size + 2) _ _ _ from ⟨g7, G, rfl, ?_, fun i hi => ?_, h4⟩).base (by omega)
  · have h2' := own_base (B' := w.heap.size + 2) h2 (by simp)
    rcases h2'.2 with ⟨hh, _⟩ | ⟨g', cap, cur, hv, hb, hg, hrest⟩
    · cases hh
    · exact ⟨h2'.1, .inr ⟨g', cap, cur, hv, hb, (by rw [hlb g' hb]; exact hg), hrest⟩⟩
  · obtain ⟨k1, ci, k2, k3⟩ := h3 i hi
    have k1' : w.heap.size + 2 ≤ G i := by simp at k1; omega
    exact ⟨k1', ci, by rw [hlb _ k1']; exact k2, k3⟩
end Go.Proofs.YtebinaopncclgabGreatDoor
namespace Go.Proofs.YtebinaopncclgabGreatDoor
open Go.RowKit Go.IntWalk

def placeZ (x : Int) (vf : Value) : Array Value := arcsZ x vf ++ #[.slice none 0 0]
theorem zero_place (W : World) : (zeroValue 90).run Tryz.prog W = .ok (.agg (placeZ 0 (.slice none 0 0))) W := by kernel_rfl
theorem agg_place (W : World) : (isAgg 90).run Tryz.prog W = .ok true W := by kernel_rfl
theorem size_place (W : World) : (sizeOf 90).run Tryz.prog W = .ok 67 W := by kernel_rfl
theorem fold_place (x : Int) (vf : Value) : Array.foldl (fun (cs : Array Value) (x : Value × Nat) => cs.setIfInBounds x.snd x.fst) (placeZ 0 (.slice none 0 0)) (arcsZ x vf).zipIdx 0 66 = placeZ x vf := by kernel_rfl
theorem placeZ_size (x : Int) (vf : Value) : (placeZ x vf).size = 67 := by unfold placeZ arcsZ; rw [Array.size_append, Array.size_append, Array.size_replicate]; rfl
theorem placeZ_one {x : Int} {vf : Value} (h : vf.oneCell' = true) : ∀ u ∈ (placeZ x vf).toList, u.oneCell' = true := by
  intro u hu
  simp only [placeZ, arcsZ, Array.toList_append, List.mem_append, Array.toList_replicate, List.mem_replicate] at hu
  rcases hu with (hu | hu) | hu
  · simp at hu; rcases hu with rfl | rfl
    · rfl
    · exact h
  · rw [hu.2]; rfl
  · simp at hu; rw [hu]; rfl
theorem placeZ_ne (x : Int) (vf : Value) : ¬ placeZ x vf = #[] := by
  intro h; have := congrArg Array.size h; simp [placeZ] at this

set_option maxRecDepth 100000 in
set_option maxHeartbeats 4000000 in
theorem root_any (B B' : Nat) (r : Rd) (vs vr : Value) (w : World) (hn : RdOk r) (hs : w.ownsRow B 62 5 vs r.stops.length (ints r.stops.flatten)) (hr : w.ownsRow B' 64 3 vr r.roads.length (ints r.roads.flatten)) :
    Calls Tryz.prog 40 #[inst r vs vr] w fun e w' => ∃ v, e = .returned (.agg (placeZ r.vans v)) ∧ GridO w' w.heap.size v (r.stops.length + 1) (fun i j => wayF r (siteN r i) (siteN r j)) ∧ Below w.heap.size w w' := by
  have HCB : Hid (∀ W, Below w.heap.size w W → Calls Tryz.prog 87 #[inst r vs vr] W fun e w' => ∃ v, e = .returned (.agg (arcsZ r.vans v)) ∧ GridO w' W.heap.size v (r.stops.length + 1) (fun i j => wayF r (siteN r i) (siteN r j)) ∧ Below W.heap.size W w') := fun W hW => copen_any B B' r vs vr W hn (own_below hs hW) (own_below hr hW)
  have hns := hn.nstops
  obtain ⟨aos, caps, rfl, _, _⟩ := own_val hs
  obtain ⟨aor, capr, rfl, _, _⟩ := own_val hr
  clear hs hr hn
  unfold inst at *
  have hzv := zero_place
  have hzn := placeZ_ne
  go_enter Tryz.func40, Tryz.ntmps40
  go_wp2_with fail
  refine (HCB.out _ (below2 w _ _)).mono ?_
  rintro e1 w1 ⟨v1, rfl, hg1, hb1⟩
  have HG1 := hid hg1
  have HW1 : Hid (Below w.heap.size w w1) := (below2 w _ _).trans (hb1.mono (by simp; omega))
  have hz : w.heap.size + 2 ≤ w1.heap.size := by have := hb1.size; simp at this; omega
  have hrow : w1.heap[w.heap.size + 1]? = some (.cells (placeZ 0 (.slice none 0 0)) 90 (0, 0)) := (hb1.block _ (by simp)).trans (by have h := heap_alloc_new (w.alloc (.cells #[.int .i64 r.vans, .int .i64 r.load, .int .i64 r.close, .int .i64 r.nodes, .int .i64 r.home, .slice aos r.stops.length caps, .slice aor r.roads.length capr] 28)) (.cells (placeZ 0 (.slice none 0 0)) 90); rw [show (w.alloc (.cells #[.int .i64 r.vans, .int .i64 r.load, .int .i64 r.close, .int .i64 r.nodes, .int .i64 r.home, .slice aos r.stops.length caps, .slice aor r.roads.length capr] 28)).heap.size = w.heap.size + 1 by simp] at h; exact h)
  obtain ⟨g7, _, rfl, _⟩ := hg1
  clear hb1
  obtain ⟨cz, hcz⟩ : ∃ cz, cz = arcsZ r.vans (.slice (some ⟨g7, 0, none⟩) (r.stops.length + 1) (r.stops.length + 1)) := ⟨_, rfl⟩
  have hcs : cz.size = 66 := by rw [hcz]; unfold arcsZ; rw [Array.size_append, Array.size_replicate]; rfl
  have hfl : Array.foldl (fun (cs : Array Value) (x : Value × Nat) => cs.setIfInBounds x.snd x.fst) (placeZ 0 (.slice none 0 0)) cz.zipIdx 0 66 = placeZ r.vans (.slice (some ⟨g7, 0, none⟩) (r.stops.length + 1) (r.stops.length + 1)) := by rw [hcz]; exact fold_place _ _
  rw [← hcz]
  obtain ⟨c2, hc2⟩ : ∃ c2, c2 = placeZ r.vans (.slice (some ⟨g7, 0, none⟩) (r.stops.length + 1) (r.stops.length + 1)) := ⟨_, rfl⟩
  rw [← hc2] at hfl
  have hc2s : c2.size = 67 := by rw [hc2]; exact placeZ_size _ _
  have hz67 : (placeZ 0 (.slice none 0 0)).size = 67 := placeZ_size _ _
  have h1c : ∀ u ∈ c2.toList, u.oneCell' = true := by rw [hc2]; exact placeZ_one rfl
  have hst : Sem.run Tryz.prog (storeCells ⟨w.heap.size + 1, 0, none⟩ c2.toList) w1 = .ok () (w1.setRow (w.heap.size + 1) c2) := by
    have h := run_storeCells_from (P := Tryz.prog) (w.heap.size + 1) 90 c2.toList 0 _ w1 hrow (by rw [Nat.zero_add, Array.length_toList, hc2s, hz67]) h1c
    rw [List.take_zero, List.nil_append, Array.toArray_toList] at h; exact h
  obtain ⟨w2, hw2⟩ : ∃ w2, w2 = w1.setRow (w.heap.size + 1) c2 := ⟨_, rfl⟩
  rw [← hw2] at hst
  have hld : Sem.run Tryz.prog (loadCellsFrom ⟨w.heap.size + 1, 0, none⟩ 0 67 #[]) w2 = .ok c2 w2 := by
    have h := run_loadCells_list (P := Tryz.prog) w2 ⟨w.heap.size + 1, 0, none⟩ c2.toList (fun j v hv => by
      have hadd : (⟨w.heap.size + 1, 0, none⟩ : Addr).add j = ⟨w.heap.size + 1, j, none⟩ := by unfold Addr.add; split <;> simp_all
      rw [hadd, hw2, cell_setRow_same _ _ _ _ _ _ _ hrow]
      simpa using hv)
    rw [Array.length_toList, hc2s, Array.toArray_toList] at h
    exact h
  have HB2 : Hid (Below w.heap.size w w2) := by
    show Below _ _ _
    rw [hw2]
    exact HW1.out.trans ⟨rfl, rfl, rfl, by simp, fun k hk => setRow_other w1 _ k _ (by omega)⟩
  have HW2 := hid hw2
  have HC2 := hid hc2
  have HC2S := hid hc2s
  clear hw2 hrow hcz hc2 h1c
  go_wp2_with fail
  refine bodyPost_ret (v := .agg c2) (results_box (t := 90) Tryz.results40 ?ra (agg_place _) (size_place _) hld) rfl ?_
  case ra => simp
  refine ⟨.slice (some ⟨g7, 0, none⟩) (r.stops.length + 1) (r.stops.length + 1), by rw [HC2.out], ?_, HB2.out⟩
  obtain ⟨g, G, h1, h2, h3, h4⟩ := HG1.out
  cases h1
  have hlb : ∀ k, w.heap.size + 2 ≤ k → w2.heap[k]? = w1.heap[k]? := fun k hk => by rw [HW2.out]; exact setRow_other w1 _ k _ (by omega)
  refine (show GridO w2 (w.heap.size + 2) _ _ _ from ⟨g7, G, rfl, ?_, fun i hi => ?_, h4⟩).base (by omega)
  · have h2' := own_base (B' := w.heap.size + 2) h2 (by simp)
    rcases h2'.2 with ⟨hh, _⟩ | ⟨g', cap, cur, hv, hb, hg, hrest⟩
    · cases hh
    · exact ⟨h2'.1, .inr ⟨g', cap, cur, hv, hb, (by rw [hlb g' hb]; exact hg), hrest⟩⟩
  · obtain ⟨k1, ci, k2, k3⟩ := h3 i hi
    have k1' : w.heap.size + 2 ≤ G i := by simp at k1; omega
    exact ⟨k1', ci, by rw [hlb _ k1']; exact k2, k3⟩
end Go.Proofs.YtebinaopncclgabGreatDoor
namespace Go.Proofs.YtebinaopncclgabGreatDoor
open Go.RowKit Go.IntWalk

def walkO : Array Value := #[.int .i64 0, .int .i64 0, .int .i64 0, .int .i64 0, .int .i64 0, .slice none 0 0, .slice none 0 0, .slice none 0 0] ++ placeZ 0 (.slice none 0 0) ++ #[.bool false, .int .i64 0]
theorem zero_walk (W : World) : (zeroValue 222).run Tryz.prog W = .ok (.agg walkO) W := by kernel_rfl
theorem walkO_size : walkO.size = 77 := by kernel_rfl
def walkZ (r : Rd) (vs vr vf v2 : Value) : Array Value := ground r vs vr vf ++ placeZ r.vans v2 ++ #[.bool false, .int .i64 0]
theorem fold_walk (a0 a1 a2 a3 a4 x : Int) (v5 v6 v7 v2 : Value) : Array.foldl (fun (cs : Array Value) (x : Value × Nat) => cs.setIfInBounds (8 + x.snd) x.fst) ((((((((walkO.setIfInBounds 0 (.int .i64 a0)).setIfInBounds 1 (.int .i64 a1)).setIfInBounds 2 (.int .i64 a2)).setIfInBounds 3 (.int .i64 a3)).setIfInBounds 4 (.int .i64 a4)).setIfInBounds 5 v5).setIfInBounds 6 v6).setIfInBounds 7 v7) (placeZ x v2).zipIdx 0 67 = #[.int .i64 a0, .int .i64 a1, .int .i64 a2, .int .i64 a3, .int .i64 a4, v5, v6, v7] ++ placeZ x v2 ++ #[.bool false, .int .i64 0] := by kernel_rfl
theorem walkZ_at (w0 : World) (r : Rd) (vs vr vf v2 : Value) (t : TypeId) : WalkAt w0 (w0.alloc (.cells (walkZ r vs vr vf v2) t)) w0.heap.size r none [] vs vf v2 := by
  have hb := heap_alloc_new w0 (.cells (walkZ r vs vr vf v2) t)
  refine ⟨rfl, below1 w0 _, ?_, ?_, ?_, ?_, ?_, ⟨⟨_, _, hb⟩, ?_, ?_, fun a b ha hb' => ?_⟩, ⟨.slice none 0 0, ?_, World.ownsRow_nil _ _ _ _⟩, fun k u hk1 hk2 => ?_⟩
  · rw [cell_of_row _ _ _ _ _ _ hb]; kernel_rfl
  · rw [cell_of_row _ _ _ _ _ _ hb]; kernel_rfl
  · rw [cell_of_row _ _ _ _ _ _ hb]; kernel_rfl
  · rw [cell_of_row _ _ _ _ _ _ hb]; kernel_rfl
  · rw [cell_of_row _ _ _ _ _ _ hb]; kernel_rfl
  · rw [cell_of_row _ _ _ _ _ _ hb]; kernel_rfl
  · rw [cell_of_row _ _ _ _ _ _ hb]; kernel_rfl
  · rw [cell_of_row _ _ _ _ _ _ hb]
    have e1 : walkZ r vs vr vf v2 = (ground r vs vr vf ++ #[.int .i64 r.vans, v2]) ++ (Array.replicate 64 (.int .i64 0) ++ #[.slice none 0 0, .bool false, .int .i64 0]) := by unfold walkZ placeZ arcsZ; simp
    rw [e1, Array.getElem?_append_right (by simp [ground]; omega), Array.getElem?_append_left (by simp [ground]; omega), Array.getElem?_replicate, if_pos (by simp [ground]; omega)]
    rfl
  · rw [cell_of_row _ _ _ _ _ _ hb]; kernel_rfl
  · unfold exW at hk2
    by_cases e1 : k = 75
    · rw [if_pos e1] at hk2; cases hk2; subst e1; rw [cell_of_row _ _ _ _ _ _ hb]; kernel_rfl
    · rw [if_neg e1] at hk2
      by_cases e2 : k = 76
      · rw [if_pos e2] at hk2; cases hk2; subst e2; rw [cell_of_row _ _ _ _ _ _ hb]; kernel_rfl
      · rw [if_neg e2] at hk2; cases hk2
theorem ground_cells {w : World} {b : Nat} {t : TypeId} {r : Rd} {vs vr vf : Value} (h : w.heap[b]? = some (.cells (ground r vs vr vf) t (0, 0))) :
    w.cell? ⟨b, 0, none⟩ = some (.int .i64 r.vans) ∧ w.cell? ⟨b, 1, none⟩ = some (.int .i64 r.load) ∧ w.cell? ⟨b, 2, none⟩ = some (.int .i64 r.close) ∧ w.cell? ⟨b, 3, none⟩ = some (.int .i64 r.nodes) ∧ w.cell? ⟨b, 4, none⟩ = some (.int .i64 r.home) ∧ w.cell? ⟨b, 5, none⟩ = some vs ∧ w.cell? ⟨b, 6, none⟩ = some vr ∧ w.cell? ⟨b, 7, none⟩ = some vf := by
  refine ⟨?_, ?_, ?_, ?_, ?_, ?_, ?_, ?_⟩ <;> (rw [cell_of_row w b _ _ _ _ h]; rfl)
end Go.Proofs.YtebinaopncclgabGreatDoor
