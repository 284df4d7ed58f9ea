/- Walks: Check of any text. -/
import Derived.Test.YtebinaopncclgabGreatDoorCSq
import Derived.Deep.WholeRow
import Derived.Test.YtebinaopncclgabGreatDoorGNodes
import Derived.Test.YtebinaopncclgabGreatDoorJOf
import Derived.Test.YtebinaopncclgabGreatDoorRNode
import Derived.Test.YtebinaopncclgabGreatDoorTRead
import Derived.Test.YtebinaopncclgabGreatDoorRFirst
import Derived.Test.YtebinaopncclgabGreatDoorDJudge
import Derived.Test.YtebinaopncclgabGreatDoorUpTo
namespace Go.Proofs.YtebinaopncclgabGreatDoor
open Go.RowKit Go.IntWalk

def arcsZ (x : Int) (vf : Value) : Array Value := #[.int .i64 x, vf] ++ Array.replicate 64 (.int .i64 0)
theorem zero_arcs (W : World) : (zeroValue 87).run Tryz.prog W = .ok (.agg (arcsZ 0 (.slice none 0 0))) W := by kernel_rfl
theorem arcsZ_ne (x : Int) (vf : Value) : ¬ arcsZ x vf = #[] := by
  intro h; have := congrArg Array.size h; simp [arcsZ] at this

theorem agg_arcs (W : World) : (isAgg 87).run Tryz.prog W = .ok true W := by kernel_rfl
theorem size_arcs (W : World) : (sizeOf 87).run Tryz.prog W = .ok 66 W := by kernel_rfl
/- a result that lies in a box, read as a whole -/
theorem results_box {P : Program} {fn : Func} {tmps : Array Value} {a : Nat} {t : TypeId} {p : Addr} {c : Array Value} {n : Nat} {w : World} (hr : fn.results = #[.cell a t]) (ha : tmps.getD a undef = .pointer (some p)) (hg : (isAgg t).run P w = .ok true w) (hz : (sizeOf t).run P w = .ok n w) (hl : (loadCellsFrom p 0 n #[]).run P w = .ok c w) : (results fn tmps).run P w = .ok (.agg c) w := by
  have ha2 : tmps[a]?.getD undef = .pointer (some p) := by simpa using ha
  unfold results; rw [hr]
  simp [loadVar, loadCells, ha2, hg, hz, hl, asAddr]
set_option maxRecDepth 100000 in
set_option maxHeartbeats 4000000 in
theorem copen_any (B B' : Nat) (r : Rd) (vs vr : Value) (w : World) (hn : RdOk r) (hs : w.ownsRow B 62 5 vs r.stops.length (ints r.stops.flatten)) (hr : w.ownsRow B' 64 3 vr r.roads.length (ints r.roads.flatten)) :
    Calls Tryz.prog 87 #[inst r vs vr] w fun e w' => ∃ v, e = .returned (.agg (arcsZ r.vans v)) ∧ GridO w' w.heap.size v (r.stops.length + 1) (fun i j => wayF r (siteN r i) (siteN r j)) ∧ Below w.heap.size w w' := by
  have HCB : Hid (∀ W, Below w.heap.size w W → Calls Tryz.prog 38 #[inst r vs vr] W fun e w' => ∃ v, e = .returned v ∧ GridO w' W.heap.size v (r.stops.length + 1) (fun i j => wayF r (siteN r i) (siteN r j)) ∧ Below W.heap.size W w') := fun W hW => between_own B B' r vs vr W hn (own_below hs hW) (own_below hr hW)
  have hns := hn.nstops
  obtain ⟨aos, caps, rfl, _, _⟩ := own_val hs
  obtain ⟨aor, capr, rfl, _, _⟩ := own_val hr
  clear hs hr hn
  unfold inst at *
  have hzv := zero_arcs
  have hzn := arcsZ_ne
  go_enter Tryz.func87, Tryz.ntmps87
  go_wp2_with fail
  refine (HCB.out _ (below2 w _ _)).mono ?_
  rintro e1 w1 ⟨v1, rfl, hg1, hb1⟩
  have HG1 := hid hg1
  have HW1 : Hid (Below w.heap.size w w1) := (below2 w _ _).trans (hb1.mono (by simp; omega))
  have d0 : w1.cell? ⟨w.heap.size, 0, none⟩ = some (.int .i64 r.vans) := (hb1.cell (by simp; omega)).trans (by simp [go_sem])
  have hz : w.heap.size + 2 ≤ w1.heap.size := by have := hb1.size; simp at this; omega
  have hrow : w1.heap[w.heap.size + 1]? = some (.cells (arcsZ 0 (.slice none 0 0)) 87 (0, 0)) := (hb1.block _ (by simp)).trans (by have h := heap_alloc_new (w.alloc (.cells #[.int .i64 r.vans, .int .i64 r.load, .int .i64 r.close, .int .i64 r.nodes, .int .i64 r.home, .slice aos r.stops.length caps, .slice aor r.roads.length capr] 28)) (.cells (arcsZ 0 (.slice none 0 0)) 87); rw [show (w.alloc (.cells #[.int .i64 r.vans, .int .i64 r.load, .int .i64 r.close, .int .i64 r.nodes, .int .i64 r.home, .slice aos r.stops.length caps, .slice aor r.roads.length capr] 28)).heap.size = w.heap.size + 1 by simp] at h; exact h)
  obtain ⟨g7, _, rfl, _⟩ := hg1
  clear hb1
  have hsl : (((arcsZ 0 (.slice none 0 0)).toList.set 0 (Value.int .i64 r.vans)).set 1 (.slice (some ⟨g7, 0, none⟩) (r.stops.length + 1) (r.stops.length + 1))) = (arcsZ r.vans (.slice (some ⟨g7, 0, none⟩) (r.stops.length + 1) (r.stops.length + 1))).toList := by unfold arcsZ; rw [Array.toList_append, Array.toList_append]; rfl
  obtain ⟨vx, hvx⟩ : ∃ vx, vx = Value.slice (some ⟨g7, 0, none⟩) (r.stops.length + 1) (r.stops.length + 1) := ⟨_, rfl⟩
  have hone : vx.oneCell' = true := by rw [hvx]; rfl
  have hst : Sem.run Tryz.prog (storeCells ⟨w.heap.size + 1, 0, none⟩ (((arcsZ 0 (.slice none 0 0)).toList.set 0 (Value.int .i64 r.vans)).set 1 (.slice (some ⟨g7, 0, none⟩) (r.stops.length + 1) (r.stops.length + 1)))) w1 = .ok () (w1.setRow (w.heap.size + 1) (arcsZ r.vans (.slice (some ⟨g7, 0, none⟩) (r.stops.length + 1) (r.stops.length + 1)))) := by
    rw [hsl, ← hvx]
    have h := run_storeCells_from (P := Tryz.prog) (w.heap.size + 1) 87 (arcsZ r.vans vx).toList 0 _ w1 hrow (by rw [Nat.zero_add, Array.length_toList]; unfold arcsZ; rw [Array.size_append, Array.size_append]; rfl) (by
      intro u hu
      simp only [arcsZ, Array.toList_append, List.mem_append, Array.toList_replicate, List.mem_replicate] at hu
      rcases hu with hu | hu
      · simp at hu; rcases hu with rfl | rfl
        · rfl
        · exact hone
      · rw [hu.2]; rfl)
    rw [List.take_zero, List.nil_append, Array.toArray_toList] at h; exact h
  obtain ⟨w2, hw2⟩ : ∃ w2, w2 = w1.setRow (w.heap.size + 1) (arcsZ r.vans (.slice (some ⟨g7, 0, none⟩) (r.stops.length + 1) (r.stops.length + 1))) := ⟨_, rfl⟩
  rw [← hw2] at hst
  have hld : Sem.run Tryz.prog (loadCellsFrom ⟨w.heap.size + 1, 0, none⟩ 0 66 #[]) w2 = .ok (arcsZ r.vans (.slice (some ⟨g7, 0, none⟩) (r.stops.length + 1) (r.stops.length + 1))) w2 := by
    have h := run_loadCells_list (P := Tryz.prog) w2 ⟨w.heap.size + 1, 0, none⟩ (arcsZ r.vans (.slice (some ⟨g7, 0, none⟩) (r.stops.length + 1) (r.stops.length + 1))).toList (fun j v hv => by
      have hadd : (⟨w.heap.size + 1, 0, none⟩ : Addr).add j = ⟨w.heap.size + 1, j, none⟩ := by unfold Addr.add; split <;> simp_all
      rw [hadd, hw2, cell_setRow_same _ _ _ _ _ _ _ hrow]
      simpa using hv)
    rw [show (arcsZ r.vans (.slice (some ⟨g7, 0, none⟩) (r.stops.length + 1) (r.stops.length + 1))).toList.length = 66 by rw [Array.length_toList]; unfold arcsZ; rw [Array.size_append, Array.size_replicate]; rfl, Array.toArray_toList] at h
    exact h
  have HB2 : Hid (Below w.heap.size w w2) := by
    show Below _ _ _
    rw [hw2]
    exact HW1.out.trans ⟨rfl, rfl, rfl, by simp, fun k hk => setRow_other w1 _ k _ (by omega)⟩
  have HW2 := hid hw2
  clear hw2 hsl hrow hvx hone
  go_wp2
  refine bodyPost_ret (v := .agg (arcsZ r.vans (.slice (some ⟨g7, 0, none⟩) (r.stops.length + 1) (r.stops.length + 1)))) (results_box (t := 87) Tryz.results87 ?ra (agg_arcs _) (size_arcs _) hld) rfl ?_
  case ra => simp
  refine ⟨_, rfl, ?_, HB2.out⟩
  obtain ⟨g, G, h1, h2, h3, h4⟩ := HG1.out
  cases h1
  have hlb : ∀ k, w.heap.size + 2 ≤ k → w2.heap[k]? = w1.heap[k]? := fun k hk => by rw [HW2.out]; exact setRow_other w1 _ k _ (by omega)
  refine (show GridO w2 (w.heap.size + 2) _ _ _ from ⟨g7, G, rfl, ?_, fun i hi => ?_, h4⟩).base (by omega)
  · have h2' := own_base (B' := w.heap.size + 2) h2 (by simp)
    rcases h2'.2 with ⟨hh, _⟩ | ⟨g', cap, cur, hv, hb, hg, hrest⟩
    · cases hh
    · exact ⟨h2'.1, .inr ⟨g', cap, cur, hv, hb, (by rw [hlb g' hb]; exact hg), hrest⟩⟩
  · obtain ⟨k1, ci, k2, k3⟩ := h3 i hi
    have k1' : w.heap.size + 2 ≤ G i := by simp at k1; omega
    exact ⟨k1', ci, by rw [hlb _ k1']; exact k2, k3⟩
end Go.Proofs.YtebinaopncclgabGreatDoor
namespace Go.Proofs.YtebinaopncclgabGreatDoor
open Go.RowKit Go.IntWalk

def placeZ (x : Int) (vf : Value) : Array Value := arcsZ x vf ++ #[.slice none 0 0]
theorem zero_place (W : World) : (zeroValue 90).run Tryz.prog W = .ok (.agg (placeZ 0 (.slice none 0 0))) W := by kernel_rfl
theorem agg_place (W : World) : (isAgg 90).run Tryz.prog W = .ok true W := by kernel_rfl
theorem size_place (W : World) : (sizeOf 90).run Tryz.prog W = .ok 67 W := by kernel_rfl
theorem fold_place (x : Int) (vf : Value) : Array.foldl (fun (cs : Array Value) (x : Value × Nat) => cs.setIfInBounds x.snd x.fst) (placeZ 0 (.slice none 0 0)) (arcsZ x vf).zipIdx 0 66 = placeZ x vf := by kernel_rfl
theorem placeZ_size (x : Int) (vf : Value) : (placeZ x vf).size = 67 := by unfold placeZ arcsZ; rw [Array.size_append, Array.size_append, Array.size_replicate]; rfl
theorem placeZ_one {x : Int} {vf : Value} (h : vf.oneCell' = true) : ∀ u ∈ (placeZ x vf).toList, u.oneCell' = true := by
  intro u hu
  simp only [placeZ, arcsZ, Array.toList_append, List.mem_append, Array.toList_replicate, List.mem_replicate] at hu
  rcases hu with (hu | hu) | hu
  · simp at hu; rcases hu with rfl | rfl
    · rfl
    · exact h
  · rw [hu.2]; rfl
  · simp at hu; rw [hu]; rfl
theorem placeZ_ne (x : Int) (vf : Value) : ¬ placeZ x vf = #[] := by
  intro h; have := congrArg Array.size h; simp [placeZ] at this

set_option maxRecDepth 100000 in
set_option maxHeartbeats 4000000 in
theorem root_any (B B' : Nat) (r : Rd) (vs vr : Value) (w : World) (hn : RdOk r) (hs : w.ownsRow B 62 5 vs r.stops.length (ints r.stops.flatten)) (hr : w.ownsRow B' 64 3 vr r.roads.length (ints r.roads.flatten)) :
    Calls Tryz.prog 40 #[inst r vs vr] w fun e w' => ∃ v, e = .returned (.agg (placeZ r.vans v)) ∧ GridO w' w.heap.size v (r.stops.length + 1) (fun i j => wayF r (siteN r i) (siteN r j)) ∧ Below w.heap.size w w' := by
  have HCB : Hid (∀ W, Below w.heap.size w W → Calls Tryz.prog 87 #[inst r vs vr] W fun e w' => ∃ v, e = .returned (.agg (arcsZ r.vans v)) ∧ GridO w' W.heap.size v (r.stops.length + 1) (fun i j => wayF r (siteN r i) (siteN r j)) ∧ Below W.heap.size W w') := fun W hW => copen_any B B' r vs vr W hn (own_below hs hW) (own_below hr hW)
  have hns := hn.nstops
  obtain ⟨aos, caps, rfl, _, _⟩ := own_val hs
  obtain ⟨aor, capr, rfl, _, _⟩ := own_val hr
  clear hs hr hn
  unfold inst at *
  have hzv := zero_place
  have hzn := placeZ_ne
  go_enter Tryz.func40, Tryz.ntmps40
  go_wp2_with fail
  refine (HCB.out _ (below2 w _ _)).mono ?_
  rintro e1 w1 ⟨v1, rfl, hg1, hb1⟩
  have HG1 := hid hg1
  have HW1 : Hid (Below w.heap.size w w1) := (below2 w _ _).trans (hb1.mono (by simp; omega))
  have hz : w.heap.size + 2 ≤ w1.heap.size := by have := hb1.size; simp at this; omega
  have hrow : w1.heap[w.heap.size + 1]? = some (.cells (placeZ 0 (.slice none 0 0)) 90 (0, 0)) := (hb1.block _ (by simp)).trans (by have h := heap_alloc_new (w.alloc (.cells #[.int .i64 r.vans, .int .i64 r.load, .int .i64 r.close, .int .i64 r.nodes, .int .i64 r.home, .slice aos r.stops.length caps, .slice aor r.roads.length capr] 28)) (.cells (placeZ 0 (.slice none 0 0)) 90); rw [show (w.alloc (.cells #[.int .i64 r.vans, .int .i64 r.load, .int .i64 r.close, .int .i64 r.nodes, .int .i64 r.home, .slice aos r.stops.length caps, .slice aor r.roads.length capr] 28)).heap.size = w.heap.size + 1 by simp] at h; exact h)
  obtain ⟨g7, _, rfl, _⟩ := hg1
  clear hb1
  obtain ⟨cz, hcz⟩ : ∃ cz, cz = arcsZ r.vans (.slice (some ⟨g7, 0, none⟩) (r.stops.length + 1) (r.stops.length + 1)) := ⟨_, rfl⟩
  have hcs : cz.size = 66 := by rw [hcz]; unfold arcsZ; rw [Array.size_append, Array.size_replicate]; rfl
  have hfl : Array.foldl (fun (cs : Array Value) (x : Value × Nat) => cs.setIfInBounds x.snd x.fst) (placeZ 0 (.slice none 0 0)) cz.zipIdx 0 66 = placeZ r.vans (.slice (some ⟨g7, 0, none⟩) (r.stops.length + 1) (r.stops.length + 1)) := by rw [hcz]; exact fold_place _ _
  rw [← hcz]
  obtain ⟨c2, hc2⟩ : ∃ c2, c2 = placeZ r.vans (.slice (some ⟨g7, 0, none⟩) (r.stops.length + 1) (r.stops.length + 1)) := ⟨_, rfl⟩
  rw [← hc2] at hfl
  have hc2s : c2.size = 67 := by rw [hc2]; exact placeZ_size _ _
  have hz67 : (placeZ 0 (.slice none 0 0)).size = 67 := placeZ_size _ _
  have h1c : ∀ u ∈ c2.toList, u.oneCell' = true := by rw [hc2]; exact placeZ_one rfl
  have hst : Sem.run Tryz.prog (storeCells ⟨w.heap.size + 1, 0, none⟩ c2.toList) w1 = .ok () (w1.setRow (w.heap.size + 1) c2) := by
    have h := run_storeCells_from (P := Tryz.prog) (w.heap.size + 1) 90 c2.toList 0 _ w1 hrow (by rw [Nat.zero_add, Array.length_toList, hc2s, hz67]) h1c
    rw [List.take_zero, List.nil_append, Array.toArray_toList] at h; exact h
  obtain ⟨w2, hw2⟩ : ∃ w2, w2 = w1.setRow (w.heap.size + 1) c2 := ⟨_, rfl⟩
  rw [← hw2] at hst
  have hld : Sem.run Tryz.prog (loadCellsFrom ⟨w.heap.size + 1, 0, none⟩ 0 67 #[]) w2 = .ok c2 w2 := by
    have h := run_loadCells_list (P := Tryz.prog) w2 ⟨w.heap.size + 1, 0, none⟩ c2.toList (fun j v hv => by
      have hadd : (⟨w.heap.size + 1, 0, none⟩ : Addr).add j = ⟨w.heap.size + 1, j, none⟩ := by unfold Addr.add; split <;> simp_all
      rw [hadd, hw2, cell_setRow_same _ _ _ _ _ _ _ hrow]
      simpa using hv)
    rw [Array.length_toList, hc2s, Array.toArray_toList] at h
    exact h
  have HB2 : Hid (Below w.heap.size w w2) := by
    show Below _ _ _
    rw [hw2]
    exact HW1.out.trans ⟨rfl, rfl, rfl, by simp, fun k hk => setRow_other w1 _ k _ (by omega)⟩
  have HW2 := hid hw2
  have HC2 := hid hc2
  have HC2S := hid hc2s
  clear hw2 hrow hcz hc2 h1c
  go_wp2_with fail
  refine bodyPost_ret (v := .agg c2) (results_box (t := 90) Tryz.results40 ?ra (agg_place _) (size_place _) hld) rfl ?_
  case ra => simp
  refine ⟨.slice (some ⟨g7, 0, none⟩) (r.stops.length + 1) (r.stops.length + 1), by rw [HC2.out], ?_, HB2.out⟩
  obtain ⟨g, G, h1, h2, h3, h4⟩ := HG1.out
  cases h1
  have hlb : ∀ k, w.heap.size + 2 ≤ k → w2.heap[k]? = w1.heap[k]? := fun k hk => by rw [HW2.out]; exact setRow_other w1 _ k _ (by omega)
  refine (show GridO w2 (w.heap.size + 2) _ _ _ from ⟨g7, G, rfl, ?_, fun i hi => ?_, h4⟩).base (by omega)
  · have h2' := own_base (B' := w.heap.size + 2) h2 (by simp)
    rcases h2'.2 with ⟨hh, _⟩ | ⟨g', cap, cur, hv, hb, hg, hrest⟩
    · cases hh
    · exact ⟨h2'.1, .inr ⟨g', cap, cur, hv, hb, (by rw [hlb g' hb]; exact hg), hrest⟩⟩
  · obtain ⟨k1, ci, k2, k3⟩ := h3 i hi
    have k1' : w.heap.size + 2 ≤ G i := by simp at k1; omega
    exact ⟨k1', ci, by rw [hlb _ k1']; exact k2, k3⟩
end Go.Proofs.YtebinaopncclgabGreatDoor
namespace Go.Proofs.YtebinaopncclgabGreatDoor
open Go.RowKit Go.IntWalk

theorem walk_put {w0 w : World} {p : Nat} {r : Rd} {cl : Option Int} {P : PathT} {vs vf vf2 : Value} (hw : WalkAt w0 w p r cl P vs vf vf2) (c : Int) :
    WalkAt w0 ((w.setCell ⟨p, 75, none⟩ (.bool true)).setCell ⟨p, 76, none⟩ (.int .i64 c)) p r (some c) P vs vf vf2 := by
  obtain ⟨cs, ty, hbox⟩ := hw.arcs.box
  have hs1 := heap_setCell_same w p 75 _ _ (.bool true) hbox
  have hs2 := heap_setCell_same (w.setCell ⟨p, 75, none⟩ (.bool true)) p 76 _ _ (.int .i64 c) hs1
  have hk : ∀ k, k ≠ 75 → k ≠ 76 → ((w.setCell ⟨p, 75, none⟩ (.bool true)).setCell ⟨p, 76, none⟩ (.int .i64 c)).cell? ⟨p, k, none⟩ = w.cell? ⟨p, k, none⟩ := fun k h1 h2 => by
    rw [World.cell?_setCell_other _ _ _ _ (by intro h; simp only [Addr.mk.injEq] at h; omega), World.cell?_setCell_other _ _ _ _ (by intro h; simp only [Addr.mk.injEq] at h; omega)]
  have h75 : 75 < cs.size := by
    have h1 := hw.c75
    rw [cell_of_row w p 75 _ _ _ hbox] at h1
    exact (Array.getElem?_eq_some_iff.1 h1).1
  have h76 : 76 < cs.size := by
    have h1 := hw.c76
    rw [cell_of_row w p 76 _ _ _ hbox] at h1
    exact (Array.getElem?_eq_some_iff.1 h1).1
  obtain ⟨va, g1, g2⟩ := hw.above
  refine ⟨hw.size, (hw.below.setCell (Nat.le_refl _) _).setCell (Nat.le_refl _) _, (hk 0 (by omega) (by omega)).trans hw.c0, (hk 1 (by omega) (by omega)).trans hw.c1, (hk 2 (by omega) (by omega)).trans hw.c2, (hk 5 (by omega) (by omega)).trans hw.c5, (hk 7 (by omega) (by omega)).trans hw.c7, ⟨⟨_, _, hs2⟩, (hk 8 (by omega) (by omega)).trans hw.arcs.c0, (hk 9 (by omega) (by omega)).trans hw.arcs.c1, fun a b ha hb => (hk _ (by omega) (by omega)).trans (hw.arcs.said a b ha hb)⟩, ⟨va, (hk 74 (by omega) (by omega)).trans g1, ?_⟩, ?_, ?_⟩
  · have hne : va.ownBlock ≠ some p := fun h => by have := (g2.lt p h).1; omega
    exact ownsRow_setCell_other (ownsRow_setCell_other g2 hne _) hne _
  · rw [World.cell?_setCell_other _ _ _ _ (by intro h; simp only [Addr.mk.injEq] at h; omega), cell_of_row _ p 75 _ _ _ hs1]
    simp [h75]
  · rw [cell_of_row _ p 76 _ _ _ hs2]
    simp [h76]

set_option maxRecDepth 100000 in
set_option maxHeartbeats 4000000 in
theorem take_any (w0 w : World) (p : Nat) (r : Rd) (t : ByteArray) (vs vf vf2 : Value) (hok : RdOk r) (ht : t.size ≤ maxLen) (hw : WalkAt w0 w p r none [] vs vf vf2) (hs : StR w0 vs r) (hq : SqR w0 vf (r.stops.length + 1) (siteD r)) :
    Calls Tryz.prog 152 #[.pointer (some ⟨p, 0, none⟩), .string t] w fun e w' => e = .returned (.int .i64 (claimS r t.data.toList).2) ∧ ((claimS r t.data.toList).2 = 0 → WalkAt w0 w' p r (claimS r t.data.toList).1 [] vs vf vf2) ∧ Below p w0 w' := by
  have HJ := hid (ajudge_any p r (siteD r) t vs vf w ht hok (hw.area hs hq) (site_range hok))
  have hpl := hw.arcs.lt
  have HW := hid hw
  by_cases hn : t.data.toList = noneB
  · have HC : Hid (claimS r t.data.toList = (none, 0)) := by show _ = _; unfold claimS; rw [if_pos hn]
    have htt : t = ⟨#[110, 111, 110, 101]⟩ := by
      apply ByteArray.ext
      apply Array.toList_inj.1
      rw [hn]; rfl
    rw [HC.out]
    subst htt
    clear hw hn HJ
    go_enter Tryz.func152, Tryz.ntmps152
    go_wp2_with fail
    go_ret
    exact ⟨rfl, HW.out, HW.out.below⟩
  · have z2 : (t.toList == [110, 111, 110, 101]) = false := by rw [tn_list]; exact beq_eq_false_iff_ne.2 hn
    have HC : Hid (claimS r t.data.toList = if (judgeS r (siteD r) t.data.toList).2.2 ≠ 0 then (none, (judgeS r (siteD r) t.data.toList).2.2) else (some (judgeS r (siteD r) t.data.toList).1, 0)) := by show _ = _; unfold claimS; rw [if_neg hn]
    have HVS : Hid (∀ e w', JudgeLeft w r.stops.length (judgeS r (siteD r) t.data.toList) e w' → ∃ ao n c, e = .returned (.tuple #[.int .i64 (judgeS r (siteD r) t.data.toList).1, .slice ao n c, .int .i64 (judgeS r (siteD r) t.data.toList).2.2]) ∧ Below w.heap.size w w') := fun e w' hj => by
      obtain ⟨v, he, h1, h2, h3⟩ := hj
      cases hx : (judgeS r (siteD r) t.data.toList).2.1 with
      | none => exact ⟨none, 0, 0, by rw [he, h1 hx], h3⟩
      | some S =>
        obtain ⟨ao, c, hv, _, _⟩ := own_val (h2 S hx).1
        exact ⟨ao, _, c, by rw [he, hv], h3⟩
    generalize judgeS r (siteD r) t.data.toList = x at *
    obtain ⟨x1, x2, x3⟩ := x
    dsimp only at HC HVS
    generalize claimS r t.data.toList = cl at *
    by_cases h3 : x3 = 0
    · subst h3
      rw [if_neg (by simp)] at HC
      rw [HC.out]
      clear hw hn HC
      go_enter Tryz.func152, Tryz.ntmps152
      go_wp2_with fail
      refine HJ.out.mono ?_
      intro e1 w1 hj
      obtain ⟨ao, n, c, rfl, hb1⟩ := HVS.out e1 w1 hj
      have HW1 := hid (HW.out.mv hb1)
      have f75 := HW1.out.arcs.frozen 75
      have f76 := HW1.out.arcs.frozen 76
      have c75 := HW1.out.c75
      have c76 := HW1.out.c76
      have hpl1 := HW1.out.arcs.lt
      clear hj hb1 HJ HVS HW hpl
      go_wp2_with fail
      go_ret
      exact ⟨rfl, fun _ => walk_put HW1.out x1, (walk_put HW1.out x1).below⟩
    · rw [if_pos h3] at HC
      rw [HC.out]
      have b3 : (x3 != 0) = true := by simpa using h3
      have H3 := hid h3
      clear hw hn HC h3
      go_enter Tryz.func152, Tryz.ntmps152
      go_wp2_with fail
      refine HJ.out.mono ?_
      intro e1 w1 hj
      obtain ⟨ao, n, c, rfl, hb1⟩ := HVS.out e1 w1 hj
      have HW1 := hid (HW.out.mv hb1)
      clear hj hb1 HJ HVS HW hpl
      go_wp2_with fail
      go_ret
      exact ⟨rfl, fun h => absurd h H3.out, HW1.out.below⟩
end Go.Proofs.YtebinaopncclgabGreatDoor
namespace Go.Proofs.YtebinaopncclgabGreatDoor
open Go.RowKit Go.IntWalk

def walkO : Array Value := #[.int .i64 0, .int .i64 0, .int .i64 0, .int .i64 0, .int .i64 0, .slice none 0 0, .slice none 0 0, .slice none 0 0] ++ placeZ 0 (.slice none 0 0) ++ #[.bool false, .int .i64 0]
theorem zero_walk (W : World) : (zeroValue 222).run Tryz.prog W = .ok (.agg walkO) W := by kernel_rfl
theorem walkO_size : walkO.size = 77 := by kernel_rfl
def walkZ (r : Rd) (vs vr vf v2 : Value) : Array Value := ground r vs vr vf ++ placeZ r.vans v2 ++ #[.bool false, .int .i64 0]
theorem fold_walk (a0 a1 a2 a3 a4 x : Int) (v5 v6 v7 v2 : Value) : Array.foldl (fun (cs : Array Value) (x : Value × Nat) => cs.setIfInBounds (8 + x.snd) x.fst) ((((((((walkO.setIfInBounds 0 (.int .i64 a0)).setIfInBounds 1 (.int .i64 a1)).setIfInBounds 2 (.int .i64 a2)).setIfInBounds 3 (.int .i64 a3)).setIfInBounds 4 (.int .i64 a4)).setIfInBounds 5 v5).setIfInBounds 6 v6).setIfInBounds 7 v7) (placeZ x v2).zipIdx 0 67 = #[.int .i64 a0, .int .i64 a1, .int .i64 a2, .int .i64 a3, .int .i64 a4, v5, v6, v7] ++ placeZ x v2 ++ #[.bool false, .int .i64 0] := by kernel_rfl
theorem walkZ_at (w0 : World) (r : Rd) (vs vr vf v2 : Value) (t : TypeId) : WalkAt w0 (w0.alloc (.cells (walkZ r vs vr vf v2) t)) w0.heap.size r none [] vs vf v2 := by
  have hb := heap_alloc_new w0 (.cells (walkZ r vs vr vf v2) t)
  refine ⟨rfl, below1 w0 _, ?_, ?_, ?_, ?_, ?_, ⟨⟨_, _, hb⟩, ?_, ?_, fun a b ha hb' => ?_⟩, ⟨.slice none 0 0, ?_, World.ownsRow_nil _ _ _ _⟩, ?_, ?_⟩
  · rw [cell_of_row _ _ _ _ _ _ hb]; kernel_rfl
  · rw [cell_of_row _ _ _ _ _ _ hb]; kernel_rfl
  · rw [cell_of_row _ _ _ _ _ _ hb]; kernel_rfl
  · rw [cell_of_row _ _ _ _ _ _ hb]; kernel_rfl
  · rw [cell_of_row _ _ _ _ _ _ hb]; kernel_rfl
  · rw [cell_of_row _ _ _ _ _ _ hb]; kernel_rfl
  · rw [cell_of_row _ _ _ _ _ _ hb]; kernel_rfl
  · rw [cell_of_row _ _ _ _ _ _ hb]
    have e1 : walkZ r vs vr vf v2 = (ground r vs vr vf ++ #[.int .i64 r.vans, v2]) ++ (Array.replicate 64 (.int .i64 0) ++ #[.slice none 0 0, .bool false, .int .i64 0]) := by unfold walkZ placeZ arcsZ; simp
    rw [e1, Array.getElem?_append_right (by simp [ground]; omega), Array.getElem?_append_left (by simp [ground]; omega), Array.getElem?_replicate, if_pos (by simp [ground]; omega)]
    rfl
  · rw [cell_of_row _ _ _ _ _ _ hb]; kernel_rfl
  · rw [cell_of_row _ _ _ _ _ _ hb]; kernel_rfl
  · rw [cell_of_row _ _ _ _ _ _ hb]; kernel_rfl
theorem ground_cells {w : World} {b : Nat} {t : TypeId} {r : Rd} {vs vr vf : Value} (h : w.heap[b]? = some (.cells (ground r vs vr vf) t (0, 0))) :
    w.cell? ⟨b, 0, none⟩ = some (.int .i64 r.vans) ∧ w.cell? ⟨b, 1, none⟩ = some (.int .i64 r.load) ∧ w.cell? ⟨b, 2, none⟩ = some (.int .i64 r.close) ∧ w.cell? ⟨b, 3, none⟩ = some (.int .i64 r.nodes) ∧ w.cell? ⟨b, 4, none⟩ = some (.int .i64 r.home) ∧ w.cell? ⟨b, 5, none⟩ = some vs ∧ w.cell? ⟨b, 6, none⟩ = some vr ∧ w.cell? ⟨b, 7, none⟩ = some vf := by
  refine ⟨?_, ?_, ?_, ?_, ?_, ?_, ?_, ?_⟩ <;> (rw [cell_of_row w b _ _ _ _ h]; rfl)
end Go.Proofs.YtebinaopncclgabGreatDoor
namespace Go.Proofs.YtebinaopncclgabGreatDoor
open Go.RowKit Go.IntWalk

set_option maxRecDepth 100000 in
set_option maxHeartbeats 8000000 in
theorem gcheck_ok (s l t : ByteArray) (r : Rd) (w : World) (hs : s.size ≤ maxLen) (hl : l.size ≤ maxLen) (ht : t.size ≤ 2000000) (hp : parseS s.data.toList = (r, 0, 0)) (hok : RdOk r) :
    Calls Tryz.prog 93 #[.string s, .string l, .string t] w fun e w' => e = .returned (.tuple #[.int .i64 (checkS r l.data.toList t.data.toList).1, .int .i64 (checkS r l.data.toList t.data.toList).2]) ∧ Below w.heap.size w w' := by
  have HCP : Hid (∀ W, Calls Tryz.prog 37 #[.string s] W (Parsed W (r, 0, 0))) := fun W => by rw [← hp]; exact parse_any s W hs
  have HOK := hid hok
  have hns := HOK.out.nstops
  have hnr := HOK.out.nroads
  clear hok hs hp
  go_enter Tryz.func93, Tryz.ntmps93
  go_wp2_with fail
  refine (HCP.out _).mono ?_
  rintro e1 w1 ⟨vs, vr, rfl, hos, hor, hb1⟩
  unfold inst
  obtain ⟨aos, caps, hv1, _, _⟩ := own_val hos
  obtain ⟨aor, capr, hv2, _, _⟩ := own_val hor
  subst hv1 hv2
  have HB1 : Hid (Below w.heap.size w w1) := by first | exact hb1 | exact (below1 w _).trans (hb1.mono (by simp))
  have HS1 := hid hos
  have HR1 := hid hor
  clear hos hor hb1 HCP
  go_wp2_with fail
  refine (of_any w.heap.size w.heap.size r (.slice aos r.stops.length caps) (.slice aor r.roads.length capr) _ HOK.out (HS1.out.alloc _) (HR1.out.alloc _)).mono ?_
  rintro e2 w2 ⟨v2, rfl, hg2, hb2⟩
  have hb12 : Below w1.heap.size w1 w2 := (below1 w1 _).trans (hb2.mono (by simp))
  have hbx2 : w2.heap[w1.heap.size]? = some (.cells #[.int .i64 r.vans, .int .i64 r.load, .int .i64 r.close, .int .i64 r.nodes, .int .i64 r.home, .slice aos r.stops.length caps, .slice aor r.roads.length capr] 28 (0, 0)) := (hb2.block _ (by simp)).trans (heap_alloc_new w1 _)
  obtain ⟨q0, q1, q2, q3, q4, q5, q6, _⟩ := seven hbx2
  have hxl : w1.heap.size < w2.heap.size := (Array.getElem?_eq_some_iff.1 hbx2).1
  have HB2 : Hid (Below w.heap.size w w2) := HB1.out.trans (hb12.mono HB1.out.size)
  have HSQ2 : Hid (SqR w2 v2 (r.stops.length + 1) (siteD r)) := hg2.sq (by omega)
  have HS2 := hid (own_below HS1.out hb12)
  have HR2 := hid (own_below HR1.out hb12)
  obtain ⟨g7, _, rfl, _⟩ := hg2
  clear hb2 hb12 HS1 HR1 HB1 hbx2
  unfold ground
  go_wp2_with fail
  obtain ⟨W2, hW2⟩ : ∃ W2, W2 = w2.alloc (.cells (ground r (.slice aos r.stops.length caps) (.slice aor r.roads.length capr) (.slice (some ⟨g7, 0, none⟩) (r.stops.length + 1) (r.stops.length + 1))) 82) := ⟨_, rfl⟩
  have hW2' := hW2
  unfold ground at hW2'
  rw [← hW2']
  have hbW2 : Below w2.heap.size w2 W2 := by rw [hW2]; exact below1 w2 _
  have hbx3 : W2.heap[w2.heap.size]? = some (.cells (ground r (.slice aos r.stops.length caps) (.slice aor r.roads.length capr) (.slice (some ⟨g7, 0, none⟩) (r.stops.length + 1) (r.stops.length + 1))) 82 (0, 0)) := by rw [hW2]; exact heap_alloc_new w2 _
  have HBX3 := hid hbx3
  have HBW2 := hid hbW2
  clear hW2 hW2' q0 q1 q2 q3 q4 q5 q6 hbx3 hbW2
  refine (root_any w.heap.size w.heap.size r (.slice aos r.stops.length caps) (.slice aor r.roads.length capr) _ HOK.out (own_below HS2.out HBW2.out) (own_below HR2.out HBW2.out)).mono ?_
  rintro e3 w3 ⟨v3, rfl, hg3, hb3⟩
  have hb23 : Below w2.heap.size w2 w3 := HBW2.out.trans (hb3.mono HBW2.out.size)
  have HB3 : Hid (Below w.heap.size w w3) := HB2.out.trans (hb23.mono HB2.out.size)
  have HSQ3 : Hid (SqR w3 v3 (r.stops.length + 1) (siteD r)) := hg3.sq (by omega)
  have HSQ2' : Hid (SqR w3 (.slice (some ⟨g7, 0, none⟩) (r.stops.length + 1) (r.stops.length + 1)) (r.stops.length + 1) (siteD r)) := HSQ2.out.below hb23
  have HST3 : Hid (StR w3 (.slice aos r.stops.length caps) r) := (StR.own HS2.out (fun s hs => (HOK.out.nice.stops s hs).1)).below hb23
  have hl2 : w2.heap.size < W2.heap.size := (Array.getElem?_eq_some_iff.1 HBX3.out).1
  have hbx4 : w3.heap[w2.heap.size]? = _ := (hb3.block _ hl2).trans HBX3.out
  have hl3 : w2.heap.size < w3.heap.size := (Array.getElem?_eq_some_iff.1 hbx4).1
  obtain ⟨q0, q1, q2, q3, q4, q5, q6, q7⟩ := ground_cells hbx4
  obtain ⟨g8, _, rfl, _⟩ := hg3
  obtain ⟨cp, hcp⟩ : ∃ cp, cp = placeZ r.vans (.slice (some ⟨g8, 0, none⟩) (r.stops.length + 1) (r.stops.length + 1)) := ⟨_, rfl⟩
  have hcps : cp.size = 67 := by rw [hcp]; exact placeZ_size _ _
  rw [← hcp]
  have hcpo : cp.all (·.oneCell') = true := by
    rw [hcp, Array.all_eq_true_iff_forall_mem]
    intro u hu
    exact placeZ_one rfl u (Array.mem_toList_iff.2 hu)
  have hst := run_storeCells_new (P := Tryz.prog) w3 90 Tryz.zeroCells90 cp (by rw [hcps]; kernel_rfl) (by rw [hcps]; kernel_rfl) hcpo
  have hfw : Array.foldl (fun (cs : Array Value) (x : Value × Nat) => cs.setIfInBounds (8 + x.snd) x.fst) ((((((((walkO.setIfInBounds 0 (.int .i64 r.vans)).setIfInBounds 1 (.int .i64 r.load)).setIfInBounds 2 (.int .i64 r.close)).setIfInBounds 3 (.int .i64 r.nodes)).setIfInBounds 4 (.int .i64 r.home)).setIfInBounds 5 (.slice aos r.stops.length caps)).setIfInBounds 6 (.slice aor r.roads.length capr)).setIfInBounds 7 (.slice (some ⟨g7, 0, none⟩) (r.stops.length + 1) (r.stops.length + 1))) cp.zipIdx 0 67 = walkZ r (.slice aos r.stops.length caps) (.slice aor r.roads.length capr) (.slice (some ⟨g7, 0, none⟩) (r.stops.length + 1) (r.stops.length + 1)) (.slice (some ⟨g8, 0, none⟩) (r.stops.length + 1) (r.stops.length + 1)) := by rw [hcp]; exact fold_walk _ _ _ _ _ _ _ _ _ _
  obtain ⟨cw, hcw⟩ : ∃ cw, cw = walkZ r (.slice aos r.stops.length caps) (.slice aor r.roads.length capr) (.slice (some ⟨g7, 0, none⟩) (r.stops.length + 1) (r.stops.length + 1)) (.slice (some ⟨g8, 0, none⟩) (r.stops.length + 1) (r.stops.length + 1)) := ⟨_, rfl⟩
  rw [← hcw] at hfw
  obtain ⟨W0, hW0⟩ : ∃ W0, W0 = w3.alloc (.cells cp 90) := ⟨_, rfl⟩
  have hz0 : W0.heap.size = w3.heap.size + 1 := by rw [hW0]; simp
  have hb30 : Below w3.heap.size w3 W0 := by rw [hW0]; exact below1 w3 _
  have HWA : Hid (WalkAt W0 (W0.alloc (.cells cw 222)) (w3.heap.size + 1) r none [] (.slice aos r.stops.length caps) (.slice (some ⟨g7, 0, none⟩) (r.stops.length + 1) (r.stops.length + 1)) (.slice (some ⟨g8, 0, none⟩) (r.stops.length + 1) (r.stops.length + 1))) := by
    have h := walkZ_at W0 r (.slice aos r.stops.length caps) (.slice aor r.roads.length capr) (.slice (some ⟨g7, 0, none⟩) (r.stops.length + 1) (r.stops.length + 1)) (.slice (some ⟨g8, 0, none⟩) (r.stops.length + 1) (r.stops.length + 1)) 222
    rw [← hcw, hz0] at h
    exact h
  have HB0 : Hid (Below w.heap.size w W0) := HB3.out.trans (hb30.mono HB3.out.size)
  have HST0 := hid (HST3.out.below hb30)
  have HSQ20 := hid (HSQ2'.out.below hb30)
  have HSQ30 := hid (HSQ3.out.below hb30)
  have HW0 := hid hW0
  have HZ0 := hid hz0
  clear hcw hW0 hb30 hz0 HSQ3 HSQ2' HST3
  have hzw := zero_walk
  have hzs := walkO_size
  have HCP := hid hcp
  clear hcp hcpo hb3 hb23 HS2 HR2 HBX3 HBW2 hbx4 hl2 HSQ2
  go_wp2_with fail
  refine wp_load_row (P := Tryz.prog) 90 (.tmp 12) rfl w3.heap.size rfl 90 cp (0, 0) _ (heap_alloc_new w3 _) Tryz.underlying90 rfl (by rw [hcps]; kernel_rfl) ?_
  go_wp2_with fail
  rw [← HW0.out]
  refine (take_any W0 _ (w3.heap.size + 1) r l _ _ _ HOK.out hl HWA.out HST0.out HSQ20.out).mono ?_
  rintro e4 w4 ⟨rfl, hw4, hb4⟩
  have hwz : w.heap.size ≤ w3.heap.size + 1 := by have := HB0.out.size; rw [HZ0.out] at this; exact this
  have HB4 : Hid (Below w.heap.size w w4) := HB0.out.trans (hb4.mono hwz)
  have HW4 := hid hw4
  clear hb4 hw4 HWA hst hzw hzs hfw hcps q0 q1 q2 q3 q4 q5 q6 q7 HCP HW0
  by_cases hc : (claimS r l.data.toList).2 = 0
  · have HA : Hid (checkS r l.data.toList t.data.toList = if (readT t.data.toList).2.2 ≠ 0 then ((readT t.data.toList).2.1, 14) else if firstW (insOf r (siteD r)) (claimS r l.data.toList).1 [] (readT t.data.toList).1 0 = 0 then (0, 0) else (firstW (insOf r (siteD r)) (claimS r l.data.toList).1 [] (readT t.data.toList).1 0, 15)) := by show _ = _; unfold checkS; rw [if_neg (by omega)]
    have HWK := hid (HW4.out hc)
    rw [hc]
    have HRD := hid (tread_any t w4 ht)
    have HTO := hid (readT_ok (s := t.data.toList))
    have hLL := readT_len t.data.toList
    rw [show t.data.toList.length = t.size by simp] at hLL
    generalize readT t.data.toList = R at *
    obtain ⟨L, line, er⟩ := R
    generalize (claimS r l.data.toList).1 = cl at *
    dsimp only at HA HTO hLL
    clear HW4 hc
    by_cases he : er = 0
    · subst he
      rw [if_neg (by simp)] at HA
      have HTR := hid (HTO.out rfl).1
      clear HTO
      go_wp2_with fail
      refine HRD.out.mono ?_
      rintro e5 w5 ⟨_, h5, hb5⟩
      obtain ⟨v5, rfl, hn5⟩ := h5 rfl
      have HN5 := hid hn5
      have HWK5 := hid (HWK.out.mv hb5)
      have hz4 : w3.heap.size + 1 < w4.heap.size := HWK.out.arcs.lt
      obtain ⟨us, _, ho5, _⟩ := hn5
      obtain ⟨av, cv, rfl, _, _⟩ := own_val ho5
      clear ho5 h5 hb5 HRD
      dsimp only
      go_wp2_with fail
      go_loopw [16] (fun i wr => ∃ (k : Nat) (P : PathT), i = .int .i64 k ∧ k ≤ L.length ∧ Hid (PathOk r.stops.length P) ∧ Hid (WalkAt W0 wr (w3.heap.size + 1) r cl P (.slice aos r.stops.length caps) (.slice (some ⟨g7, 0, none⟩) (r.stops.length + 1) (r.stops.length + 1)) (.slice (some ⟨g8, 0, none⟩) (r.stops.length + 1) (r.stops.length + 1))) ∧ Hid (NodesR wr w4.heap.size (.slice av L.length cv) L) ∧ Hid (firstW (insOf r (siteD r)) cl [] L 0 = firstW (insOf r (siteD r)) cl P (L.drop k) k)) (fun i _ => L.length - (intOf i).toNat)
      case atStart => exact ⟨0, [], rfl, Nat.zero_le _, PathOk.nil, HWK5, HN5, rfl⟩
      case round =>
        obtain ⟨k, P, rfl, hk, HP, HWR, HNR, HFW⟩ := hrel
        by_cases hlt : k < L.length
        · obtain ⟨gn, cn, ao, c', hv, hgb, hgl, x0, x1, hlr⟩ := HNR.out.at hlt
          cases hv
          have HLR := hid hlr
          have HFT := hid (node_facts HTR.out (List.getElem_mem hlt))
          have HDR := hid (List.drop_eq_getElem_cons hlt)
          generalize L[k] = nd at *
          have HSA := hid (step_any W0 wr (w3.heap.size + 1) r cl P _ _ _ _ _ nd HOK.out HP.out (by have := path_depth hns HP.out; omega) HFT.out.1 HFT.out.2.1 HFT.out.2.2 HLR.out HWR.out HST0.out HSQ20.out HSQ30.out)
          have hk1 : (k : Int) + 1 ≤ 3000000 := by omega
          clear hlr HFT
          cases hst : stepW (insOf r (siteD r)) cl P nd with
          | none =>
            have HF1 : Hid (firstW (insOf r (siteD r)) cl [] L 0 = k + 1) := by show _ = _; rw [HFW.out, HDR.out, firstW_cons, hst]
            rw [hst] at HSA
            have HA1 : Hid (checkS r l.data.toList t.data.toList = (k + 1, 15)) := by show _ = _; rw [HA.out, HF1.out, if_neg (by omega)]
            clear HFW HDR hst HF1 HA
            go_wp2_with fail
            refine HSA.out.mono ?_
            rintro e6 w6 ⟨h6, _⟩
            obtain ⟨rfl, hb6⟩ := h6 (by simp)
            have HB6 := hid hb6
            clear hb6 h6 HSA
            go_wp2_with fail
            refine bodyPost_ret (v := .tuple #[.int .i64 ((k : Int) + 1), .int .i64 15]) (by simp [results, Tryz.results93, go_sem]) rfl ?_
            exact ⟨by rw [HA1.out]; rfl, HB0.out.trans (HB6.out.mono hwz)⟩
          | some P' =>
            have HF1 : Hid (firstW (insOf r (siteD r)) cl [] L 0 = firstW (insOf r (siteD r)) cl P' (L.drop (k + 1)) (k + 1)) := by show _ = _; rw [HFW.out, HDR.out, firstW_cons, hst]
            have HP1 : Hid (PathOk r.stops.length P') := path_step (I := insOf r (siteD r)) HP.out hst
            rw [hst] at HSA
            clear HFW HDR hst
            go_wp2_with fail
            refine HSA.out.mono ?_
            rintro e6 w6 ⟨_, h6⟩
            obtain ⟨rfl, hw6, hk6⟩ := h6 P' (by simp)
            have HW6 := hid hw6
            have HN6 : Hid (NodesR w6 w4.heap.size (.slice (some ⟨gn, 0, none⟩) L.length cv) L) := HNR.out.kept hz4 HWR.out hk6
            clear hw6 hk6 h6 HSA
            go_wp2_with fail
            go_roundw
            case rel => exact ⟨k + 1, P', by go_num, by omega, HP1, HW6, HN6, HF1⟩
            case measure => simp [intOf]; omega
        · obtain rfl : k = L.length := by omega
          have HF1 : Hid (firstW (insOf r (siteD r)) cl [] L 0 = 0) := by show _ = _; rw [HFW.out, List.drop_length]; rfl
          have HA1 : Hid (checkS r l.data.toList t.data.toList = (0, 0)) := by show _ = _; rw [HA.out, HF1.out, if_pos rfl]
          clear HFW HF1 HA
          go_wp2_with fail
          refine bodyPost_ret (v := .tuple #[.int .i64 0, .int .i64 0]) (by simp [results, Tryz.results93, go_sem]) rfl ?_
          exact ⟨by rw [HA1.out]; rfl, HB0.out.trans (HWR.out.below.mono hwz)⟩
    · have HA1 : Hid (checkS r l.data.toList t.data.toList = (line, 14)) := by show _ = _; rw [HA.out, if_pos he]
      have HNE := hid he
      clear HA HTO he
      go_wp2_with fail
      refine HRD.out.mono ?_
      rintro e5 w5 ⟨h5, _, hb5⟩
      obtain rfl := h5 HNE.out
      have HB5 : Hid (Below w.heap.size w w5) := HB4.out.trans (hb5.mono HB4.out.size)
      clear h5 hb5 HRD
      dsimp only
      go_wp2_with fail
      refine bodyPost_ret (v := .tuple #[.int .i64 (line : Int), .int .i64 14]) (by simp [results, Tryz.results93, go_sem]) rfl ?_
      exact ⟨by rw [HA1.out], HB5.out⟩
  · have HA : Hid (checkS r l.data.toList t.data.toList = (0, (claimS r l.data.toList).2)) := by show _ = _; unfold checkS; rw [if_pos hc]
    have b1 : ((claimS r l.data.toList).2 != 0) = true := by simpa using hc
    clear HW4 hc
    go_wp2_with fail
    refine bodyPost_ret (v := .tuple #[.int .i64 0, .int .i64 (claimS r l.data.toList).2]) (by simp [results, Tryz.results93, go_sem]) rfl ?_
    exact ⟨by rw [HA.out]; rfl, HB4.out⟩
end Go.Proofs.YtebinaopncclgabGreatDoor
namespace Go.Proofs.YtebinaopncclgabGreatDoor
open Go.RowKit Go.IntWalk

set_option maxRecDepth 100000 in
set_option maxHeartbeats 4000000 in
theorem rread_any (s : ByteArray) (w : World) (hs : s.size ≤ 2000000) : Calls Tryz.prog 69 #[.string s] w (ReadLeft w (readT s.data.toList)) := by
  obtain ⟨i0, hi, hz0, hz1, hz2⟩ := info_parts Tryz.infoNode
  have HCS := hid (fun W => rsplit_any 10 s W hs)
  have hsl := splitR_count 10 s.data.toList
  rw [show s.data.toList.length = s.size by simp] at hsl
  have HRT : Hid (readT s.data.toList = goT 1 [] (splitR 10 s.data.toList)) := rfl
  rw [split_R] at HCS
  have HPC : Hid (∀ q ∈ splitR 10 s.data.toList, q.length ≤ s.size) := fun q hq => by have := split_piece 10 s.data.toList q hq; simpa using this
  have hne : 0 < (splitR 10 s.data.toList).length := List.length_pos_iff.2 (splitR_ne 10 s.data.toList)
  generalize readT s.data.toList = ans at *
  generalize splitR 10 s.data.toList = L at *
  go_enter Tryz.func69, Tryz.ntmps69
  go_wp2_with fail
  refine (HCS.out _).mono ?_
  rintro e1 w1 ⟨v1, rfl, ho1, hb1⟩
  obtain ⟨g, cap, cur, rfl, hgb, hgc, _⟩ := own_shape ho1 hne
  have hgl : g < w1.heap.size := (Array.getElem?_eq_some_iff.1 hgc).1
  have HB1 := hid hb1
  have HO1 := hid ho1
  clear ho1 hb1 hgc HCS hgb
  go_wp2_with fail
  go_loopw [6, 7, 8] (fun v op i wr => ∃ (k o : Nat) (acc : List NodeT), i = .int .i64 k ∧ op = .int .i64 o ∧ k + 1 ≤ L.length ∧ o ≤ k + 1 ∧ acc.length = k ∧ Hid (NodesR wr w1.heap.size v acc) ∧ Hid (Below w1.heap.size w1 wr) ∧ Hid (ans = goT o acc (L.drop k))) (fun _ _ i _ => L.length - (intOf i).toNat)
  case atStart => exact ⟨0, 1, [], rfl, rfl, by omega, by omega, rfl, NodesR.nil _ _, by first | exact Below.refl _ _ | exact below1 _ _, by simpa using HRT⟩
  case round =>
    obtain ⟨k, o, acc, rfl, rfl, hk, ho, hacc, HN, HB, HG⟩ := hrel
    by_cases hlt : k + 1 < L.length
    · have x0 : wr.cell? ⟨g, k, none⟩ = some (.string ⟨L[k].toArray⟩) := (HB.out.cell (by exact hgl)).trans (by rw [HO1.out.cellAt k (by omega)]; simp [strs])
      have hgw : g < wr.heap.size := Nat.lt_of_lt_of_le hgl HB.out.size
      have HD : Hid (L.drop k = L[k] :: L.drop (k + 1)) := List.drop_eq_getElem_cons (by omega)
      have HD2 : Hid (L.drop (k + 1) = L[k + 1] :: L.drop (k + 2)) := List.drop_eq_getElem_cons (by omega)
      have HGO : Hid (ans = if o = 0 then ([], acc.length + 1, 14) else match nodeT L[k] with | none => ([], acc.length + 1, 14) | some nd => goT (nextT o nd.1) (acc ++ [nd]) (L.drop (k + 1))) := by
        show _ = _
        rw [HG.out, HD.out, HD2.out, goT_two]
        by_cases h : o = 0
        · rw [if_pos h, if_pos h]
        · rw [if_neg h, if_neg h]; cases nodeT L[k] <;> rfl
      have HCN : Hid (∀ W, Calls Tryz.prog 126 #[.string ⟨L[k].toArray⟩] W (NodedLeft W (nodeT L[k]))) := fun W => by
        have h := noded_any ⟨L[k].toArray⟩ W (by show L[k].toArray.size ≤ _; have := HPC.out L[k] (List.getElem_mem _); simp; omega)
        simpa using h
      generalize L[k] = x at *
      clear HD HD2 HG
      obtain ⟨vs, hv1, hv2, hv3⟩ := HN.out
      obtain ⟨av, cv, rfl, _, _⟩ := own_val hv2
      have HV1 := hid hv1
      have HV2 := hid hv2
      have HV3 := hid hv3
      have HAC := hid hacc
      rw [hacc] at HV2 HGO ⊢
      clear hacc
      clear hv1 hv2 hv3 HN
      have bl : decide ((k : Int) + 1 < (L.length : Int)) = true := by simp; omega
      cases hx : nodeT x with
      | none =>
        have HR : Hid (ans = ([], k + 1, 14)) := by
          show _ = _
          rw [HGO.out, hx]
          by_cases h : o = 0
          · rw [if_pos h]
          · rw [if_neg h]
        rw [hx] at HCN
        clear HGO hx
        go_wp2_with fail
        refine (HCN.out _).mono ?_
        rintro e2 w2 ⟨⟨kk, ao, n, c, rfl, _⟩, hb2⟩
        have HB2 : Hid (Below w1.heap.size w1 w2) := HB.out.trans (hb2.mono HB.out.size)
        clear hb2 HCN
        dsimp only [Option.isSome]
        go_wp2_with fail
        refine bodyPost_ret (v := .tuple #[.slice none 0 0, .int .i64 ((k : Int) + 1), .int .i64 14]) (by simp [results, Tryz.results69, go_sem]) rfl ?_
        exact ⟨fun _ => by rw [HR.out]; rfl, fun h => (by rw [HR.out] at h; cases h), by first | exact HB1.out.trans (HB2.out.mono HB1.out.size) | exact HB1.out.trans ((HB2.out.alloc HB2.out.size _).mono HB1.out.size)⟩
      | some nd =>
        by_cases h0 : o = 0
        · have HR : Hid (ans = ([], k + 1, 14)) := by show _ = _; rw [HGO.out, if_pos h0]
          rw [hx] at HCN
          subst h0
          clear HGO hx
          go_wp2_with fail
          refine (HCN.out _).mono ?_
          rintro e2 w2 ⟨⟨kk, ao, n, c, rfl, _⟩, hb2⟩
          have HB2 : Hid (Below w1.heap.size w1 w2) := HB.out.trans (hb2.mono HB.out.size)
          clear hb2 HCN
          dsimp only [Option.isSome]
          go_wp2_with fail
          refine bodyPost_ret (v := .tuple #[.slice none 0 0, .int .i64 ((k : Int) + 1), .int .i64 14]) (by simp [results, Tryz.results69, go_sem]) rfl ?_
          exact ⟨fun _ => by rw [HR.out]; rfl, fun h => (by rw [HR.out] at h; cases h), by first | exact HB1.out.trans (HB2.out.mono HB1.out.size) | exact HB1.out.trans ((HB2.out.alloc HB2.out.size _).mono HB1.out.size)⟩
        · have HR : Hid (ans = goT (nextT o nd.1) (acc ++ [nd]) (L.drop (k + 1))) := by show _ = _; rw [HGO.out, if_neg h0, hx]
          rw [hx] at HCN
          have b0 : ((o : Int) == 0) = false := by simpa using h0
          clear HGO hx
          go_wp2_with fail
          refine (HCN.out _).mono ?_
          rintro e2 w2 ⟨⟨kk, al, n, cl, rfl, q2⟩, hb2⟩
          obtain ⟨rfl, rfl, ho2⟩ := q2 nd rfl
          have HB2 : Hid (Below w1.heap.size w1 w2) := HB.out.trans (hb2.mono HB.out.size)
          have HL2 := hid (own_base ho2 HB.out.size)
          have HN2 := hid (own_below HV2.out hb2)
          have HR2 : Hid (∀ i (h : i < acc.length), w2.ownsRow w1.heap.size 3 1 (vs.getD i (.slice none 0 0)) acc[i].2.length (ints acc[i].2)) := fun i h => own_below (HV3.out i h) hb2
          have hz2w := HB2.out.size
          clear hb2 q2 ho2 HCN
          dsimp only [Option.isSome]
          go_wp2_with (first
            | (at_builtin; refine wpList_append_own _ rfl _ _ 56 rfl w1.heap.size 76 i0 (.agg #[.int .i64 0, .slice none 0 0]) 2 32 Tryz.underlying56 hi hz0 hz1 hz2 rfl (by decide) _ _ _ rfl ((HN2.out.alloc _).alloc _) ⟨w2.heap.size + 1, 0, none⟩ 1 1 [.int .i64 nd.1, .slice al nd.2.length cl] rfl rfl ?c1 ?c2 ?c3 ?c4 ?c5 ?_)
            | fail)
          case c1 => exact news_t (w := w2.alloc _) rfl rfl (by simp)
          case c2 => intro u hu; simp at hu; rcases hu with rfl | rfl <;> rfl
          case c3 => unfold maxLen; omega
          case c4 => omega
          case c5 => simp; omega
          intro v3 w3 hown3 hgr3 _
          have hX : Below w2.heap.size w2 ((w2.alloc (.cells #[.int .i64 nd.1, .slice al nd.2.length cl] 76)).alloc (.cells #[.int .i64 nd.1, .slice al nd.2.length cl] 76)) := below2 w2 _ _
          have HN3 : Hid (NodesR w3 w1.heap.size v3 (acc ++ [nd])) := NodesR.push HV1.out (by rw [HAC.out]; exact HN2.out) HR2.out HL2.out hX hgr3 (by rw [HAC.out]; exact hown3)
          have HB3 : Hid (Below w1.heap.size w1 w3) := (HB2.out.trans (hX.mono hz2w)).grown hgr3 (by simp; omega) (fun q hq => (HN2.out.lt q hq).1)
          have hbx : w3.heap[w2.heap.size]? = some (.cells #[.int .i64 nd.1, .slice al nd.2.length cl] 76 (0, 0)) := by
            have h4 : ((w2.alloc (.cells #[.int .i64 nd.1, .slice al nd.2.length cl] 76)).alloc (.cells #[.int .i64 nd.1, .slice al nd.2.length cl] 76)).heap[w2.heap.size]? = some (.cells #[.int .i64 nd.1, .slice al nd.2.length cl] 76 (0, 0)) := by
              rw [Below.heap_alloc _ _ _ (by simp)]; exact heap_alloc_new w2 _
            rw [hgr3.block _ (Array.getElem?_eq_some_iff.1 h4).1 (fun he => by have := (HN2.out.lt _ he.symm).2; omega)]; exact h4
          have n0 : w3.cell? ⟨w2.heap.size, 0, none⟩ = some (.int .i64 nd.1) := cell_of_row w3 w2.heap.size 0 _ _ _ hbx
          have hbl : w2.heap.size < w3.heap.size := (Array.getElem?_eq_some_iff.1 hbx).1
          clear hX hown3 hgr3 hbx
          obtain ⟨vs3, q1, q2, q3⟩ := HN3.out
          obtain ⟨a3, c3, rfl, _, _⟩ := own_val q2
          clear q1 q2 q3
          by_cases h1 : nd.1 = 1
          · have b1 : (nd.1 == 1) = true := by simpa using h1
            have HNX : Hid (nextT o nd.1 = o + 1) := by show _ = _; unfold nextT; rw [if_pos h1]
            clear h1
            go_wp2_with fail
            go_roundw
            case rel => exact ⟨k + 1, o + 1, acc ++ [nd], by go_num, by go_num, by omega, by omega, by simp [HAC.out], (by have h9 := HN3.out; rw [List.length_append] at h9; first | exact h9 | exact HN3), HB3, by rw [← HNX.out]; exact HR⟩
            case measure => simp [intOf]; omega
          · have b1 : (nd.1 == 1) = false := by simpa using h1
            have HNX : Hid (nextT o nd.1 = o - 1) := by show _ = _; unfold nextT; rw [if_neg h1]
            clear h1
            go_wp2_with fail
            go_roundw
            case rel => exact ⟨k + 1, o - 1, acc ++ [nd], by go_num, by go_num, by omega, by omega, by simp [HAC.out], (by have h9 := HN3.out; rw [List.length_append] at h9; first | exact h9 | exact HN3), HB3, by rw [← HNX.out]; exact HR⟩
            case measure => simp [intOf]; omega
    · have hLk : L.length = k + 1 := by omega
      have x0 : wr.cell? ⟨g, k, none⟩ = some (.string ⟨(L[k]'(by omega)).toArray⟩) := (HB.out.cell (by exact hgl)).trans (by rw [HO1.out.cellAt k (by omega)]; simp [strs])
      have hgw : g < wr.heap.size := Nat.lt_of_lt_of_le hgl HB.out.size
      have HGO : Hid (ans = if L[k]'(by omega) = [] ∧ o = 0 then (acc, 0, 0) else ([], acc.length + 1, 14)) := by
        show _ = _
        rw [HG.out, List.drop_eq_getElem_cons (by omega), List.drop_eq_nil_of_le (by omega), goT_one]
      generalize L[k]'(by omega) = x at *
      obtain ⟨vs, hv1, hv2, hv3⟩ := HN.out
      obtain ⟨av, cv, rfl, _, _⟩ := own_val hv2
      have HAC := hid hacc
      clear hv1 hv2 hv3 HG
      rw [hLk]
      by_cases hx : x = []
      · subst hx
        by_cases h0 : o = 0
        · subst h0
          have HR : Hid (ans = (acc, 0, 0)) := by show _ = _; rw [HGO.out, if_pos ⟨rfl, rfl⟩]
          clear HGO hacc hLk
          go_wp2_with fail
          refine bodyPost_ret (v := .tuple #[.slice av acc.length cv, .int .i64 0, .int .i64 0]) (by simp [results, Tryz.results69, go_sem]) rfl ?_
          refine ⟨fun h => absurd (by rw [HR.out]) h, fun _ => ⟨_, rfl, ?_⟩, HB1.out.trans (HB.out.mono HB1.out.size)⟩
          rw [HR.out]
          exact HN.out.base HB1.out.size
        · have HR : Hid (ans = ([], k + 1, 14)) := by show _ = _; rw [HGO.out, if_neg (fun h => h0 h.2), HAC.out]
          have b0 : decide (0 < (o : Int)) = true := by simp; omega
          clear HGO hacc hLk
          go_wp2_with fail
          refine bodyPost_ret (v := .tuple #[.slice none 0 0, .int .i64 ((k : Int) + 1), .int .i64 14]) (by simp [results, Tryz.results69, go_sem]) rfl ?_
          exact ⟨fun _ => by rw [HR.out]; rfl, fun h => (by rw [HR.out] at h; cases h), HB1.out.trans (HB.out.mono HB1.out.size)⟩
      · have HR : Hid (ans = ([], k + 1, 14)) := by show _ = _; rw [HGO.out, if_neg (fun h => hx h.1), HAC.out]
        have b0 : x.isEmpty = false := by simpa using hx
        clear HGO hacc hLk
        go_wp2_with fail
        refine bodyPost_ret (v := .tuple #[.slice none 0 0, .int .i64 ((k : Int) + 1), .int .i64 14]) (by simp [results, Tryz.results69, go_sem]) rfl ?_
        exact ⟨fun _ => by rw [HR.out]; rfl, fun h => (by rw [HR.out] at h; cases h), HB1.out.trans (HB.out.mono HB1.out.size)⟩
end Go.Proofs.YtebinaopncclgabGreatDoor
namespace Go.Proofs.YtebinaopncclgabGreatDoor
open Go.RowKit Go.IntWalk

noncomputable def checkAll (x : Rd × Nat × Int) (l t : List UInt8) : Nat × Int := if x.2.2 ≠ 0 then (0, x.2.2) else checkS x.1 l t
set_option maxRecDepth 100000 in
set_option maxHeartbeats 8000000 in
theorem rcheck_any (s l t : ByteArray) (w : World) (hs : s.size ≤ maxLen) (hl : l.size ≤ 2000000) (ht : t.size ≤ 2000000) :
    Calls Tryz.prog 76 #[.string s, .string l, .string t] w fun e w' => e = .returned (.tuple #[.int .i64 (checkAll (parseS s.data.toList) l.data.toList t.data.toList).1, .int .i64 (checkAll (parseS s.data.toList) l.data.toList t.data.toList).2]) ∧ Below w.heap.size w w' := by
  have HCP : Hid (∀ W, Calls Tryz.prog 52 #[.string s] W (GroundLeft W (parseS s.data.toList))) := fun W => on_any s W hs
  have hok : (parseS s.data.toList).2.2 = 0 → RdOk (parseS s.data.toList).1 := parse_rdok
  generalize parseS s.data.toList = x at *
  obtain ⟨r, nat, er⟩ := x
  dsimp only at hok
  by_cases h0 : er = 0
  · subst h0
    have HOK := hid (hok rfl)
    have hns := HOK.out.nstops
    have HAL : Hid (checkAll (r, nat, 0) l.data.toList t.data.toList = checkS r l.data.toList t.data.toList) := by show _ = _; unfold checkAll; rw [if_neg (by simp)]
    rw [HAL.out]
    clear hok hs HAL
    go_enter Tryz.func76, Tryz.ntmps76
    go_wp2_with fail
    refine (HCP.out _).mono ?_
    rintro e1 w1 ⟨vs, vr, vw, rfl, hos, hor, _, hg1, hb1⟩
    dsimp only at hos hor hg1
    obtain ⟨us, hul, hgr⟩ := hg1 rfl
    have hsq : SqR w1 vw (r.stops.length + 1) (siteD r) := hgr.sq hul (by omega)
    have hst : StR w1 vs r := StR.own hos (fun s hs => (HOK.out.nice.stops s hs).1)
    have HSQ := hid hsq
    have HST := hid hst
    obtain ⟨aos, caps, hv1, _, _⟩ := own_val hos
    obtain ⟨aor, capr, hv2, _, _⟩ := own_val hor
    obtain ⟨aow, capw, hv3, _⟩ := hsq
    subst hv1 hv2 hv3
    have HB1 := hid hb1
    clear hos hor hg1 hb1 hgr hst hul HCP
    have HJ : Hid (∀ W, Below w1.heap.size w1 W → Calls Tryz.prog 58 #[.agg (ground r (.slice aos r.stops.length caps) (.slice aor r.roads.length capr) (.slice aow (r.stops.length + 1) capw)), .string l] W (JudgeLeft W r.stops.length (judgeS r (siteD r) l.data.toList))) := fun W hW => gjudge_any r (siteD r) l _ _ _ W HOK.out (HST.out.below hW) (HSQ.out.below hW) (site_range HOK.out) hl ⟨_, _, _, rfl⟩
    have HRD : Hid (∀ W, Calls Tryz.prog 69 #[.string t] W (ReadLeft W (readT t.data.toList))) := fun W => rread_any t W ht
    have HTO := hid (readT_ok (s := t.data.toList))
    have hLL := readT_len t.data.toList
    rw [show t.data.toList.length = t.size by simp] at hLL
    have HFI : Hid (∀ (cl : Option Int) (L : List NodeT) (B : Nat) (vl : Value) W, L.length ≤ 2000001 → treeT 1 L = true → Below w1.heap.size w1 W → NodesR W B vl L → Calls Tryz.prog 128 #[.agg (ground r (.slice aos r.stops.length caps) (.slice aor r.roads.length capr) (.slice aow (r.stops.length + 1) capw)), .agg (claimV cl), .slice none 0 0, .slice none 0 0, vl, .int .i64 0] W fun e w' => ∃ bad next : Nat, e = .returned (.tuple #[.int .i64 bad, .int .i64 next]) ∧ firstW (insOf r (siteD r)) cl [] L 0 = bad ∧ Below W.heap.size W w') := fun cl L B vl W h1 h2 h3 h4 => by
      refine (rfirst_any r cl L B _ _ _ vl h1 L.length 0 0 [] _ _ W (by omega) .nil (by simpa using h2) ⟨HOK.out, h4, HST.out.below h3, HSQ.out.below h3, ⟨_, _, _, rfl⟩⟩ ⟨none, 0, rfl, fun i h => absurd h (by simp [onP])⟩ ⟨none, 0, rfl, fun i h => absurd h (by simp [offP])⟩).mono ?_
      rintro e w' ⟨bad, next, k1, k2, k3⟩
      exact ⟨bad, next, k1, first_all k2, k3⟩
    by_cases hn : l.data.toList = noneB
    · have z2 : (l.toList == [110, 111, 110, 101]) = true := by rw [tn_list, hn]; rfl
      have HC : Hid (claimS r l.data.toList = (none, 0)) := by show _ = _; unfold claimS; rw [if_pos hn]
      have HA : Hid (checkS r l.data.toList t.data.toList = if (readT t.data.toList).2.2 ≠ 0 then ((readT t.data.toList).2.1, 14) else if firstW (insOf r (siteD r)) none [] (readT t.data.toList).1 0 = 0 then (0, 0) else (firstW (insOf r (siteD r)) none [] (readT t.data.toList).1 0, 15)) := by show _ = _; unfold checkS; rw [HC.out, if_neg (by simp)]
      clear hn HC HJ
      unfold ground claimV at *
      obtain ⟨W, hW⟩ : ∃ W, W = (w1.alloc (.cells #[.int .i64 r.vans, .int .i64 r.load, .int .i64 r.close, .int .i64 r.nodes, .int .i64 r.home, .slice aos r.stops.length caps, .slice aor r.roads.length capr, .slice aow (r.stops.length + 1) capw] 109)).alloc (.cells #[.bool false, .int .i64 0] 197) := ⟨_, rfl⟩
      have HBW : Hid (Below w1.heap.size w1 W) := by show Below _ _ _; rw [hW]; exact below2 w1 _ _
      have HRW : Hid (W.heap[w1.heap.size]? = some (.cells #[.int .i64 r.vans, .int .i64 r.load, .int .i64 r.close, .int .i64 r.nodes, .int .i64 r.home, .slice aos r.stops.length caps, .slice aor r.roads.length capr, .slice aow (r.stops.length + 1) capw] 109 (0, 0)) ∧ W.heap[w1.heap.size + 1]? = some (.cells #[.bool false, .int .i64 0] 197 (0, 0))) := by
        show _ ∧ _
        rw [hW]
        refine ⟨alloc2_one w1 _ _, ?_⟩
        have h := heap_alloc_new (w1.alloc (.cells #[.int .i64 r.vans, .int .i64 r.load, .int .i64 r.close, .int .i64 r.nodes, .int .i64 r.home, .slice aos r.stops.length caps, .slice aor r.roads.length capr, .slice aow (r.stops.length + 1) capw] 109)) (.cells #[.bool false, .int .i64 0] 197)
        rw [show (w1.alloc (.cells #[.int .i64 r.vans, .int .i64 r.load, .int .i64 r.close, .int .i64 r.nodes, .int .i64 r.home, .slice aos r.stops.length caps, .slice aor r.roads.length capr, .slice aow (r.stops.length + 1) capw] 109)).heap.size = w1.heap.size + 1 by simp] at h; exact h
      have HWQ := hid hW
      clear hW
      go_wp2_with fail
      rw [← HWQ.out]
      generalize hrr : readT t.data.toList = RR at *
      obtain ⟨L, line, er⟩ := RR
      dsimp only at HA HTO hLL
      by_cases he : er = 0
      · subst he
        rw [if_neg (by simp)] at HA
        have HTR := hid (HTO.out rfl).1
        refine (HRD.out W).mono ?_
        rintro e3 w3 ⟨_, h3, hb3⟩
        obtain ⟨v3, rfl, hn3⟩ := h3 rfl
        have HN3 := hid hn3
        have HB3 : Hid (Below w1.heap.size w1 w3) := HBW.out.trans (hb3.mono HBW.out.size)
        have hl1 : w1.heap.size + 1 < W.heap.size := (Array.getElem?_eq_some_iff.1 HRW.out.2).1
        have hr0 := (hb3.block _ (show w1.heap.size < W.heap.size by omega)).trans HRW.out.1
        have hr1 := (hb3.block _ hl1).trans HRW.out.2
        have hl3 : w1.heap.size + 1 < w3.heap.size := (Array.getElem?_eq_some_iff.1 hr1).1
        have q0 : w3.cell? ⟨w1.heap.size, 0, none⟩ = some (.int .i64 r.vans) := cell_of_row w3 _ 0 _ _ _ hr0
        have q1 : w3.cell? ⟨w1.heap.size, 1, none⟩ = some (.int .i64 r.load) := cell_of_row w3 _ 1 _ _ _ hr0
        have q2 : w3.cell? ⟨w1.heap.size, 2, none⟩ = some (.int .i64 r.close) := cell_of_row w3 _ 2 _ _ _ hr0
        have q3 : w3.cell? ⟨w1.heap.size, 3, none⟩ = some (.int .i64 r.nodes) := cell_of_row w3 _ 3 _ _ _ hr0
        have q4 : w3.cell? ⟨w1.heap.size, 4, none⟩ = some (.int .i64 r.home) := cell_of_row w3 _ 4 _ _ _ hr0
        have q5 : w3.cell? ⟨w1.heap.size, 5, none⟩ = some (.slice aos r.stops.length caps) := cell_of_row w3 _ 5 _ _ _ hr0
        have q6 : w3.cell? ⟨w1.heap.size, 6, none⟩ = some (.slice aor r.roads.length capr) := cell_of_row w3 _ 6 _ _ _ hr0
        have q7 : w3.cell? ⟨w1.heap.size, 7, none⟩ = some (.slice aow (r.stops.length + 1) capw) := cell_of_row w3 _ 7 _ _ _ hr0
        have d0 : w3.cell? ⟨w1.heap.size + 1, 0, none⟩ = some (.bool false) := cell_of_row w3 _ 0 _ _ _ hr1
        have d1 : w3.cell? ⟨w1.heap.size + 1, 1, none⟩ = some (.int .i64 0) := cell_of_row w3 _ 1 _ _ _ hr1
        obtain ⟨us3, _, ho3, _⟩ := hn3
        obtain ⟨a3, c3, rfl, _, _⟩ := own_val ho3
        have HF := hid (HFI.out (none) L _ _ w3 (by omega) HTR.out HB3.out HN3.out)
        clear hb3 h3 hr0 hr1 ho3 HRD HFI HTO
        go_wp2_with fail
        refine HF.out.mono ?_
        rintro e4 w4 ⟨bad, next, rfl, hbad, hb4⟩
        have HB4 : Hid (Below w1.heap.size w1 w4) := HB3.out.trans (hb4.mono HB3.out.size)
        rw [hbad] at HA
        clear hb4 HF q0 q1 q2 q3 q4 q5 q6 q7 d0 d1 hbad
        by_cases hb0 : bad = 0
        · subst hb0
          rw [if_pos rfl] at HA
          go_wp2_with fail
          refine bodyPost_ret (v := .tuple #[.int .i64 0, .int .i64 0]) (by simp [results, Tryz.results76, go_sem]) rfl ?_
          exact ⟨by rw [HA.out]; rfl, HB1.out.trans (HB4.out.mono HB1.out.size)⟩
        · rw [if_neg hb0] at HA
          have b4 : decide (0 < (bad : Int)) = true := by simp; omega
          have b4n : decide (0 < bad) = true := by simp; omega
          clear hb0
          go_wp2_with fail
          refine bodyPost_ret (v := .tuple #[.int .i64 bad, .int .i64 15]) (by simp [results, Tryz.results76, go_sem]) rfl ?_
          exact ⟨by rw [HA.out], HB1.out.trans (HB4.out.mono HB1.out.size)⟩
      · rw [if_pos he] at HA
        have HNE := hid he
        clear he HTO HFI
        refine (HRD.out W).mono ?_
        rintro e3 w3 ⟨h3, _, hb3⟩
        obtain rfl := h3 HNE.out
        have HB3 : Hid (Below w1.heap.size w1 w3) := HBW.out.trans (hb3.mono HBW.out.size)
        clear hb3 h3 HRD
        dsimp only
        go_wp2_with fail
        refine bodyPost_ret (v := .tuple #[.int .i64 (line : Int), .int .i64 14]) (by simp [results, Tryz.results76, go_sem]) rfl ?_
        exact ⟨by rw [HA.out], HB1.out.trans (HB3.out.mono HB1.out.size)⟩
    · have z2 : (l.toList == [110, 111, 110, 101]) = false := by rw [tn_list]; exact beq_eq_false_iff_ne.2 hn
      have HC : Hid (claimS r l.data.toList = if (judgeS r (siteD r) l.data.toList).2.2 ≠ 0 then (none, (judgeS r (siteD r) l.data.toList).2.2) else (some (judgeS r (siteD r) l.data.toList).1, 0)) := by show _ = _; unfold claimS; rw [if_neg hn]
      have HVS : Hid (∀ W e w', JudgeLeft W r.stops.length (judgeS r (siteD r) l.data.toList) e w' → ∃ ao n c, e = .returned (.tuple #[.int .i64 (judgeS r (siteD r) l.data.toList).1, .slice ao n c, .int .i64 (judgeS r (siteD r) l.data.toList).2.2]) ∧ Below W.heap.size W w') := fun W e w' hj => by
        obtain ⟨v, he, h1, h2, h3⟩ := hj
        cases hx : (judgeS r (siteD r) l.data.toList).2.1 with
        | none => exact ⟨none, 0, 0, by rw [he, h1 hx], h3⟩
        | some S =>
          obtain ⟨ao, c, hv, _, _⟩ := own_val (h2 S hx).1
          exact ⟨ao, _, c, by rw [he, hv], h3⟩
      generalize judgeS r (siteD r) l.data.toList = JJ at *
      obtain ⟨cc, j2, j3⟩ := JJ
      dsimp only at HC HVS
      by_cases h3 : j3 = 0
      · subst h3
        rw [if_neg (by simp)] at HC
        have HA : Hid (checkS r l.data.toList t.data.toList = if (readT t.data.toList).2.2 ≠ 0 then ((readT t.data.toList).2.1, 14) else if firstW (insOf r (siteD r)) (some cc) [] (readT t.data.toList).1 0 = 0 then (0, 0) else (firstW (insOf r (siteD r)) (some cc) [] (readT t.data.toList).1 0, 15)) := by show _ = _; unfold checkS; rw [HC.out, if_neg (by simp)]
        clear hn HC
        unfold ground claimV at *
        obtain ⟨W, hW⟩ : ∃ W, W = (w1.alloc (.cells #[.int .i64 r.vans, .int .i64 r.load, .int .i64 r.close, .int .i64 r.nodes, .int .i64 r.home, .slice aos r.stops.length caps, .slice aor r.roads.length capr, .slice aow (r.stops.length + 1) capw] 109)).alloc (.cells #[.bool true, .int .i64 0] 197) := ⟨_, rfl⟩
        have HBW : Hid (Below w1.heap.size w1 W) := by show Below _ _ _; rw [hW]; exact below2 w1 _ _
        have HRW : Hid (W.heap[w1.heap.size]? = some (.cells #[.int .i64 r.vans, .int .i64 r.load, .int .i64 r.close, .int .i64 r.nodes, .int .i64 r.home, .slice aos r.stops.length caps, .slice aor r.roads.length capr, .slice aow (r.stops.length + 1) capw] 109 (0, 0)) ∧ W.heap[w1.heap.size + 1]? = some (.cells #[.bool true, .int .i64 0] 197 (0, 0))) := by
          show _ ∧ _
          rw [hW]
          refine ⟨alloc2_one w1 _ _, ?_⟩
          have h := heap_alloc_new (w1.alloc (.cells #[.int .i64 r.vans, .int .i64 r.load, .int .i64 r.close, .int .i64 r.nodes, .int .i64 r.home, .slice aos r.stops.length caps, .slice aor r.roads.length capr, .slice aow (r.stops.length + 1) capw] 109)) (.cells #[.bool true, .int .i64 0] 197)
          rw [show (w1.alloc (.cells #[.int .i64 r.vans, .int .i64 r.load, .int .i64 r.close, .int .i64 r.nodes, .int .i64 r.home, .slice aos r.stops.length caps, .slice aor r.roads.length capr, .slice aow (r.stops.length + 1) capw] 109)).heap.size = w1.heap.size + 1 by simp] at h; exact h
        have HWQ := hid hW
        clear hW
        go_wp2_with fail
        rw [← HWQ.out]
        refine (HJ.out W HBW.out).mono ?_
        intro e2 w2 hj2
        obtain ⟨aj, nj, cj, rfl, hb2⟩ := HVS.out _ e2 w2 hj2
        have hl1 : w1.heap.size + 1 < W.heap.size := (Array.getElem?_eq_some_iff.1 HRW.out.2).1
        have hr0 := (hb2.block _ (show w1.heap.size < W.heap.size by omega)).trans HRW.out.1
        have hr1 := (hb2.block _ hl1).trans HRW.out.2
        have d1 : w2.cell? ⟨w1.heap.size + 1, 1, none⟩ = some (.int .i64 0) := cell_of_row w2 _ 1 _ _ _ hr1
        have df : w2.frozen? ⟨w1.heap.size + 1, 1, none⟩ = false := frozen_of_row w2 _ 1 _ _ hr1
        have hl2 : w1.heap.size + 1 < w2.heap.size := (Array.getElem?_eq_some_iff.1 hr1).1
        obtain ⟨W2, hW2⟩ : ∃ W2, W2 = w2.setCell ⟨w1.heap.size + 1, 1, none⟩ (.int .i64 cc) := ⟨_, rfl⟩
        have HBW2 : Hid (Below w1.heap.size w1 W2) := by show Below _ _ _; rw [hW2]; exact (HBW.out.trans (hb2.mono HBW.out.size)).setCell (by show w1.heap.size ≤ w1.heap.size + 1; omega) _
        have HRW2 : Hid (W2.heap[w1.heap.size]? = some (.cells #[.int .i64 r.vans, .int .i64 r.load, .int .i64 r.close, .int .i64 r.nodes, .int .i64 r.home, .slice aos r.stops.length caps, .slice aor r.roads.length capr, .slice aow (r.stops.length + 1) capw] 109 (0, 0)) ∧ W2.heap[w1.heap.size + 1]? = some (.cells #[.bool true, .int .i64 cc] 197 (0, 0))) := by
          show _ ∧ _
          rw [hW2]
          refine ⟨?_, ?_⟩
          · rw [Below.heap_setCell w2 _ _ w1.heap.size (by show w1.heap.size ≠ w1.heap.size + 1; omega)]; exact hr0
          · rw [heap_setCell_same w2 _ 1 _ _ _ hr1]; rfl
        have HWQ2 := hid hW2
        clear hb2 hj2 hr0 hr1 HJ HVS hW2 HWQ HBW HRW hl1
        go_wp2_with fail
        rw [← HWQ2.out]
        have HBW := HBW2
        have HRW := HRW2
        generalize hrr : readT t.data.toList = RR at *
        obtain ⟨L, line, er⟩ := RR
        dsimp only at HA HTO hLL
        by_cases he : er = 0
        · subst he
          rw [if_neg (by simp)] at HA
          have HTR := hid (HTO.out rfl).1
          refine (HRD.out W2).mono ?_
          rintro e3 w3 ⟨_, h3, hb3⟩
          obtain ⟨v3, rfl, hn3⟩ := h3 rfl
          have HN3 := hid hn3
          have HB3 : Hid (Below w1.heap.size w1 w3) := HBW.out.trans (hb3.mono HBW.out.size)
          have hl1 : w1.heap.size + 1 < W2.heap.size := (Array.getElem?_eq_some_iff.1 HRW.out.2).1
          have hr0 := (hb3.block _ (show w1.heap.size < W2.heap.size by omega)).trans HRW.out.1
          have hr1 := (hb3.block _ hl1).trans HRW.out.2
          have hl3 : w1.heap.size + 1 < w3.heap.size := (Array.getElem?_eq_some_iff.1 hr1).1
          have q0 : w3.cell? ⟨w1.heap.size, 0, none⟩ = some (.int .i64 r.vans) := cell_of_row w3 _ 0 _ _ _ hr0
          have q1 : w3.cell? ⟨w1.heap.size, 1, none⟩ = some (.int .i64 r.load) := cell_of_row w3 _ 1 _ _ _ hr0
          have q2 : w3.cell? ⟨w1.heap.size, 2, none⟩ = some (.int .i64 r.close) := cell_of_row w3 _ 2 _ _ _ hr0
          have q3 : w3.cell? ⟨w1.heap.size, 3, none⟩ = some (.int .i64 r.nodes) := cell_of_row w3 _ 3 _ _ _ hr0
          have q4 : w3.cell? ⟨w1.heap.size, 4, none⟩ = some (.int .i64 r.home) := cell_of_row w3 _ 4 _ _ _ hr0
          have q5 : w3.cell? ⟨w1.heap.size, 5, none⟩ = some (.slice aos r.stops.length caps) := cell_of_row w3 _ 5 _ _ _ hr0
          have q6 : w3.cell? ⟨w1.heap.size, 6, none⟩ = some (.slice aor r.roads.length capr) := cell_of_row w3 _ 6 _ _ _ hr0
          have q7 : w3.cell? ⟨w1.heap.size, 7, none⟩ = some (.slice aow (r.stops.length + 1) capw) := cell_of_row w3 _ 7 _ _ _ hr0
          have d0 : w3.cell? ⟨w1.heap.size + 1, 0, none⟩ = some (.bool true) := cell_of_row w3 _ 0 _ _ _ hr1
          have d1 : w3.cell? ⟨w1.heap.size + 1, 1, none⟩ = some (.int .i64 cc) := cell_of_row w3 _ 1 _ _ _ hr1
          obtain ⟨us3, _, ho3, _⟩ := hn3
          obtain ⟨a3, c3, rfl, _, _⟩ := own_val ho3
          have HF := hid (HFI.out (some cc) L _ _ w3 (by omega) HTR.out HB3.out HN3.out)
          clear hb3 h3 hr0 hr1 ho3 HRD HFI HTO
          go_wp2_with fail
          refine HF.out.mono ?_
          rintro e4 w4 ⟨bad, next, rfl, hbad, hb4⟩
          have HB4 : Hid (Below w1.heap.size w1 w4) := HB3.out.trans (hb4.mono HB3.out.size)
          rw [hbad] at HA
          clear hb4 HF q0 q1 q2 q3 q4 q5 q6 q7 d0 d1 hbad
          by_cases hb0 : bad = 0
          · subst hb0
            rw [if_pos rfl] at HA
            go_wp2_with fail
            refine bodyPost_ret (v := .tuple #[.int .i64 0, .int .i64 0]) (by simp [results, Tryz.results76, go_sem]) rfl ?_
            exact ⟨by rw [HA.out]; rfl, HB1.out.trans (HB4.out.mono HB1.out.size)⟩
          · rw [if_neg hb0] at HA
            have b4 : decide (0 < (bad : Int)) = true := by simp; omega
            have b4n : decide (0 < bad) = true := by simp; omega
            clear hb0
            go_wp2_with fail
            refine bodyPost_ret (v := .tuple #[.int .i64 bad, .int .i64 15]) (by simp [results, Tryz.results76, go_sem]) rfl ?_
            exact ⟨by rw [HA.out], HB1.out.trans (HB4.out.mono HB1.out.size)⟩
        · rw [if_pos he] at HA
          have HNE := hid he
          clear he HTO HFI
          refine (HRD.out W2).mono ?_
          rintro e3 w3 ⟨h3, _, hb3⟩
          obtain rfl := h3 HNE.out
          have HB3 : Hid (Below w1.heap.size w1 w3) := HBW.out.trans (hb3.mono HBW.out.size)
          clear hb3 h3 HRD
          dsimp only
          go_wp2_with fail
          refine bodyPost_ret (v := .tuple #[.int .i64 (line : Int), .int .i64 14]) (by simp [results, Tryz.results76, go_sem]) rfl ?_
          exact ⟨by rw [HA.out], HB1.out.trans (HB3.out.mono HB1.out.size)⟩
      · rw [if_pos h3] at HC
        have HA : Hid (checkS r l.data.toList t.data.toList = (0, j3)) := by show _ = _; unfold checkS; rw [HC.out, if_pos h3]
        have b3 : (j3 != 0) = true := by simpa using h3
        clear hn HC h3 HRD HFI HTO
        unfold ground at *
        obtain ⟨W, hW⟩ : ∃ W, W = (w1.alloc (.cells #[.int .i64 r.vans, .int .i64 r.load, .int .i64 r.close, .int .i64 r.nodes, .int .i64 r.home, .slice aos r.stops.length caps, .slice aor r.roads.length capr, .slice aow (r.stops.length + 1) capw] 109)).alloc (.cells #[.bool true, .int .i64 0] 197) := ⟨_, rfl⟩
        have HBW : Hid (Below w1.heap.size w1 W) := by show Below _ _ _; rw [hW]; exact below2 w1 _ _
        have HRW : Hid (W.heap[w1.heap.size]? = some (.cells #[.int .i64 r.vans, .int .i64 r.load, .int .i64 r.close, .int .i64 r.nodes, .int .i64 r.home, .slice aos r.stops.length caps, .slice aor r.roads.length capr, .slice aow (r.stops.length + 1) capw] 109 (0, 0)) ∧ W.heap[w1.heap.size + 1]? = some (.cells #[.bool true, .int .i64 0] 197 (0, 0))) := by
          show _ ∧ _
          rw [hW]
          refine ⟨alloc2_one w1 _ _, ?_⟩
          have h := heap_alloc_new (w1.alloc (.cells #[.int .i64 r.vans, .int .i64 r.load, .int .i64 r.close, .int .i64 r.nodes, .int .i64 r.home, .slice aos r.stops.length caps, .slice aor r.roads.length capr, .slice aow (r.stops.length + 1) capw] 109)) (.cells #[.bool true, .int .i64 0] 197)
          rw [show (w1.alloc (.cells #[.int .i64 r.vans, .int .i64 r.load, .int .i64 r.close, .int .i64 r.nodes, .int .i64 r.home, .slice aos r.stops.length caps, .slice aor r.roads.length capr, .slice aow (r.stops.length + 1) capw] 109)).heap.size = w1.heap.size + 1 by simp] at h; exact h
        have HWQ := hid hW
        clear hW
        go_wp2_with fail
        rw [← HWQ.out]
        refine (HJ.out W HBW.out).mono ?_
        intro e2 w2 hj2
        obtain ⟨aj, nj, cj, rfl, hb2⟩ := HVS.out _ e2 w2 hj2
        have HB2 : Hid (Below w1.heap.size w1 w2) := HBW.out.trans (hb2.mono HBW.out.size)
        clear hb2 hj2 HJ HVS
        go_wp2_with fail
        refine bodyPost_ret (v := .tuple #[.int .i64 0, .int .i64 j3]) (by simp [results, Tryz.results76, go_sem]) rfl ?_
        exact ⟨by rw [HA.out]; rfl, HB1.out.trans (HB2.out.mono HB1.out.size)⟩
  · have HAL : Hid (checkAll (r, nat, er) l.data.toList t.data.toList = (0, er)) := by show _ = _; unfold checkAll; rw [if_pos h0]
    have hne : (er != 0) = true := by simpa using h0
    rw [HAL.out]
    clear hok hs h0
    go_enter Tryz.func76, Tryz.ntmps76
    go_wp2_with fail
    refine (HCP.out _).mono ?_
    rintro e1 w1 ⟨vs, vr, vw, rfl, hos, hor, hvw, _, hb1⟩
    dsimp only at hos hor hvw
    obtain ⟨aos, caps, hv1, _, _⟩ := own_val hos
    obtain ⟨aor, capr, hv2, _, _⟩ := own_val hor
    have hv3 := hvw (by simpa using hne)
    subst hv1 hv2 hv3
    have HB1 := hid hb1
    clear hos hor hb1 HCP hvw
    unfold ground at *
    go_wp2_with fail
    refine bodyPost_ret (v := .tuple #[.int .i64 0, .int .i64 er]) (by simp [results, Tryz.results76, go_sem]) rfl ?_
    exact ⟨rfl, by first | exact HB1.out | exact HB1.out.alloc HB1.out.size _⟩
end Go.Proofs.YtebinaopncclgabGreatDoor
namespace Go.Proofs.YtebinaopncclgabGreatDoor
open Go.RowKit Go.IntWalk

theorem parse_nought {l : List UInt8} (h : (parseS l).2.2 = 0) : (parseS l).2.1 = 0 := by
  unfold parseS at h ⊢
  split
  · rename_i h1; rw [if_pos h1] at h
  · rename_i h1
    rw [if_neg h1] at h
    split
    · rename_i h2
      rw [if_pos h2] at h
      split
      · rfl
      · rename_i h3; rw [if_neg h3] at h; cases h
    · rename_i h2; rw [if_neg h2] at h; exact absurd h h2
set_option maxRecDepth 100000 in
set_option maxHeartbeats 4000000 in
theorem gcheck_any (s l t : ByteArray) (w : World) (hs : s.size ≤ maxLen) (hl : l.size ≤ maxLen) (ht : t.size ≤ 2000000) :
    Calls Tryz.prog 93 #[.string s, .string l, .string t] w fun e w' => e = .returned (.tuple #[.int .i64 (checkAll (parseS s.data.toList) l.data.toList t.data.toList).1, .int .i64 (checkAll (parseS s.data.toList) l.data.toList t.data.toList).2]) ∧ Below w.heap.size w w' := by
  by_cases h0 : (parseS s.data.toList).2.2 = 0
  · have hp : parseS s.data.toList = ((parseS s.data.toList).1, 0, 0) := by
      have h1 := parse_nought h0
      generalize parseS s.data.toList = x at *
      obtain ⟨r, a, b⟩ := x
      dsimp only at h0 h1
      rw [h0, h1]
    have h := gcheck_ok s l t (parseS s.data.toList).1 w hs hl ht hp (parse_rdok h0)
    have e : checkAll (parseS s.data.toList) l.data.toList t.data.toList = checkS (parseS s.data.toList).1 l.data.toList t.data.toList := by unfold checkAll; rw [if_neg (by omega)]
    rw [e]; exact h
  · have HCP : Hid (∀ W, Calls Tryz.prog 37 #[.string s] W (Parsed W (parseS s.data.toList))) := fun W => parse_any s W hs
    have e : checkAll (parseS s.data.toList) l.data.toList t.data.toList = (0, (parseS s.data.toList).2.2) := by unfold checkAll; rw [if_pos h0]
    rw [e]
    generalize parseS s.data.toList = x at *
    obtain ⟨r, a, er⟩ := x
    dsimp only at h0 ⊢
    have hne : (er != 0) = true := by simpa using h0
    clear e h0
    go_enter Tryz.func93, Tryz.ntmps93
    go_wp2_with fail
    refine (HCP.out _).mono ?_
    rintro e1 w1 ⟨vs, vr, rfl, hos, hor, hb1⟩
    unfold inst
    obtain ⟨aos, caps, hv1, _, _⟩ := own_val hos
    obtain ⟨aor, capr, hv2, _, _⟩ := own_val hor
    subst hv1 hv2
    have HB1 := hid hb1
    clear hos hor hb1 HCP
    go_wp2_with fail
    refine bodyPost_ret (v := .tuple #[.int .i64 0, .int .i64 er]) (by simp [results, Tryz.results93, go_sem]) rfl ?_
    exact ⟨rfl, by first | exact HB1.out | exact HB1.out.alloc HB1.out.size _⟩

set_option maxRecDepth 100000 in
set_option maxHeartbeats 2000000 in
theorem dcheck_any (s l t : ByteArray) (w : World) (hs : s.size ≤ maxLen) (hl : l.size ≤ maxLen) (ht : t.size ≤ 2000000) :
    Calls Tryz.prog 43 #[.string s, .string l, .string t] w fun e w' => e = .returned (.tuple #[.int .i64 (checkAll (parseS s.data.toList) l.data.toList t.data.toList).1, .int .i64 (checkAll (parseS s.data.toList) l.data.toList t.data.toList).2]) ∧ Below w.heap.size w w' := by
  have HC := hid (gcheck_any s l t w hs hl ht)
  generalize checkAll (parseS s.data.toList) l.data.toList t.data.toList = x at *
  go_enter Tryz.func43, Tryz.ntmps43
  go_wp2_with fail
  refine HC.out.mono ?_
  rintro e1 w1 ⟨rfl, hb1⟩
  have HB := hid hb1
  clear hb1 HC
  go_wp2
  go_ret2
  exact ⟨rfl, HB.out⟩
theorem judgeS_rng (r : Rd) (D : Nat → Nat → Int) (l : List UInt8) : 0 ≤ (judgeS r D l).2.2 ∧ (judgeS r D l).2.2 ≤ 11 := by
  have hf : 0 ≤ textFaultS r.stops.length l ∧ textFaultS r.stops.length l ≤ 7 := by
    unfold textFaultS
    split
    · simp
    · split
      · simp
      · split <;> simp
  unfold judgeS
  split
  · exact ⟨hf.1, by show textFaultS _ _ ≤ _; omega⟩
  · split
    · simp
    · split
      · simp
      · split
        · simp
        · split <;> simp
theorem check_range (x : Rd × Nat × Int) (l t : List UInt8) (hx : -9223372036854775808 ≤ x.2.2 ∧ x.2.2 ≤ 9223372036854775807) : -9223372036854775808 ≤ (checkAll x l t).2 ∧ (checkAll x l t).2 ≤ 9223372036854775807 := by
  unfold checkAll
  split
  · exact hx
  · unfold checkS
    split
    · unfold claimS
      split
      · simp
      · have := judgeS_rng x.1 (siteD x.1) l
        split
        · show _ ≤ (judgeS x.1 (siteD x.1) l).2.2 ∧ (judgeS x.1 (siteD x.1) l).2.2 ≤ _; omega
        · simp
    · split
      · simp
      · split <;> simp

theorem op_tt {o : OpV} {W : World} {b : Nat} (h : W.heap[b]? = some (.cells o.vals 58 (0, 0))) : W.cell? ⟨b, 3, none⟩ = some (.string o.t) ∧ W.cell? ⟨b, 4, none⟩ = some (.string o.u) := ⟨by rw [cell_of_row _ _ _ _ _ _ h]; rfl, by rw [cell_of_row _ _ _ _ _ _ h]; rfl⟩
set_option maxRecDepth 100000 in
set_option maxHeartbeats 4000000 in
theorem inst_check (bb hb m : Nat) (o : OpV) (w : World) (ho : o.k = 10) (hos : o.s.size ≤ maxLen) (hot : o.t.size ≤ 2000000) (hou : o.u.size ≤ 2000000) (h : HoldInv w bb hb m) (hbb : bb ≤ w.heap.size) :
    Calls Tryz.prog 32 #[.pointer (some ⟨hb, 0, none⟩), .agg o.vals] w fun e w' => e = .returned (.bool true) ∧ HoldInv w' bb hb (m + 1) ∧ Below bb w w' := by
  have HH := hid h
  have HP : Hid (∀ W, Calls Tryz.prog 43 #[.string o.s, .string o.t, .string o.u] W fun e w' => e = .returned (.tuple #[.int .i64 (checkAll (parseS o.s.data.toList) o.t.data.toList o.u.data.toList).1, .int .i64 (checkAll (parseS o.s.data.toList) o.t.data.toList o.u.data.toList).2]) ∧ Below W.heap.size W w') := fun W => dcheck_any o.s o.t o.u W hos (by unfold maxLen; omega) hou
  have HI : Hid (∀ W, Calls Tryz.prog 76 #[.string o.s, .string o.t, .string o.u] W fun e w' => e = .returned (.tuple #[.int .i64 (checkAll (parseS o.s.data.toList) o.t.data.toList o.u.data.toList).1, .int .i64 (checkAll (parseS o.s.data.toList) o.t.data.toList o.u.data.toList).2]) ∧ Below W.heap.size W w') := fun W => rcheck_any o.s o.t o.u W hos hot hou
  have hjr := check_range (parseS o.s.data.toList) o.t.data.toList o.u.data.toList (parse_range _)
  have HOB := hid (op_box o w)
  generalize checkAll (parseS o.s.data.toList) o.t.data.toList o.u.data.toList = X at *
  obtain ⟨x1, x2⟩ := X
  dsimp only at HP HI hjr
  unfold OpV.vals
  rw [ho]
  clear h
  go_enter Tryz.func32, Tryz.ntmps32
  go_wp2_with fail
  rw [← ho]
  refine (HP.out _).mono ?_
  rintro e1 w1 ⟨rfl, hb1⟩
  have hob1 := op_below HOB.out hb1
  obtain ⟨o2, hol⟩ := op_s hob1
  obtain ⟨o3, o4⟩ := op_tt hob1
  have HB1 : Hid (Below w.heap.size w w1) := (below1 w _).trans (hb1.mono (by simp))
  clear hb1 HP
  go_wp2_with fail
  refine (HI.out _).mono ?_
  rintro e2 w2 ⟨rfl, hb2⟩
  have HB2 : Hid (Below w.heap.size w w2) := HB1.out.trans (hb2.mono HB1.out.size)
  clear hb2 HI o2 o3 o4 hob1 HOB
  have e0 : ((x1 : Int) == (x1 : Int)) = true := by simp
  have e00 : (x2 == x2) = true := by simp
  go_wp2_with fail
  refine (num_any _ _ hjr).mono ?_
  rintro e3 w3 ⟨rfl, rfl⟩
  go_wp2_with fail
  go_ret
  exact ⟨rfl, (HH.out.below HB2.out).more (Nat.le_succ _), HB2.out.mono hbb⟩

set_option maxRecDepth 100000 in
set_option maxHeartbeats 1000000 in
theorem plays_check (w0 : World) (hb : Nat) (o : OpV) (ho : o.k = 10) (hos : o.s.size ≤ maxLen) (hot : o.t.size ≤ 2000000) (hou : o.u.size ≤ 2000000) : Plays w0 hb o := by
  intro w m h hm hw0
  have hbb : w0.heap.size ≤ w.heap.size := hw0.size
  generalize w0.heap.size = bb at *
  have HC := hid (inst_check bb hb m o (w.alloc (.cells o.vals 58)) ho hos hot hou (h.below (below1 w _)) (by simp; omega))
  unfold OpV.vals at HC ⊢
  rw [ho] at HC ⊢
  go_enter Tryz.func19, Tryz.ntmps19
  go_wp2_with fail
  refine HC.out.mono ?_
  rintro e2 w2 ⟨rfl, hi2, hb2⟩
  have HI2 := hid hi2
  have HB2 : Hid (Below bb w w2) := ((below1 w _).mono hbb).trans hb2
  clear hi2 hb2 HC
  go_wp2
  go_ret
  exact ⟨rfl, HI2.out, HB2.out⟩

set_option maxRecDepth 100000 in
set_option maxHeartbeats 1000000 in
theorem checks_walk (ao : Option Addr) (n c : Nat) (ops : Nat → OpV) (w : World) (hn : n ≤ 703687441776) (hs : ScriptAt w ao n ops) (hos : ∀ i, i < n → (ops i).s.size ≤ maxLen ∧ (ops i).t.size ≤ 2000000 ∧ (ops i).u.size ≤ 2000000) :
    Calls Tryz.prog 4 #[.slice ao n c] w fun e w' => e = .returned (.bool true) ∧ Below w.heap.size w w' := by
  have HC := hid (upto_walk 10 10 ao n c ops w hn hs (fun i hi h1 h2 => plays_check _ _ _ (by omega) (hos i hi).1 (hos i hi).2.1 (hos i hi).2.2))
  clear hs hos
  go_enter Tryz.func4, Tryz.ntmps4
  go_wp2_with fail
  refine HC.out.mono ?_
  rintro e2 w2 ⟨rfl, hb2⟩
  go_wp2
  go_ret
  exact ⟨rfl, hb2⟩
end Go.Proofs.YtebinaopncclgabGreatDoor
