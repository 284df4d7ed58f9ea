/- Walks: a tree is checked. -/
import Derived.Test.YtebinaopncclgabGNodes
import Derived.Test.YtebinaopncclgabGRoot
import Derived.Test.YtebinaopncclgabJOf
namespace Go.Proofs.Ytebinaopncclgab
open Go.RowKit Go.IntWalk

theorem walk_put {w0 w : World} {p : Nat} {r : Rd} {cl : Option Int} {P : PathT} {vs vf vf2 : Value} (hw : WalkAt w0 w p r cl P vs vf vf2) (c : Int) :
    WalkAt w0 ((w.setCell ⟨p, 75, none⟩ (.bool true)).setCell ⟨p, 76, none⟩ (.int .i64 c)) p r (some c) P vs vf vf2 := by
  obtain ⟨cs, ty, hbox⟩ := hw.arcs.box
  have hs1 := heap_setCell_same w p 75 _ _ (.bool true) hbox
  have hs2 := heap_setCell_same (w.setCell ⟨p, 75, none⟩ (.bool true)) p 76 _ _ (.int .i64 c) hs1
  have hk : ∀ k, k ≠ 75 → k ≠ 76 → ((w.setCell ⟨p, 75, none⟩ (.bool true)).setCell ⟨p, 76, none⟩ (.int .i64 c)).cell? ⟨p, k, none⟩ = w.cell? ⟨p, k, none⟩ := fun k h1 h2 => by
    rw [World.cell?_setCell_other _ _ _ _ (by intro h; simp only [Addr.mk.injEq] at h; omega), World.cell?_setCell_other _ _ _ _ (by intro h; simp only [Addr.mk.injEq] at h; omega)]
  have h75 : 75 < cs.size := by
    have h1 := hw.c75
    rw [cell_of_row w p 75 _ _ _ hbox] at h1
    exact (Array.getElem?_eq_some_iff.1 h1).1
  have h76 : 76 < cs.size := by
    have h1 := hw.c76
    rw [cell_of_row w p 76 _ _ _ hbox] at h1
    exact (Array.getElem?_eq_some_iff.1 h1).1
  obtain ⟨va, g1, g2⟩ := hw.above
  refine ⟨hw.size, (hw.below.setCell (Nat.le_refl _) _).setCell (Nat.le_refl _) _, (hk 0 (by omega) (by omega)).trans hw.c0, (hk 1 (by omega) (by omega)).trans hw.c1, (hk 2 (by omega) (by omega)).trans hw.c2, (hk 5 (by omega) (by omega)).trans hw.c5, (hk 7 (by omega) (by omega)).trans hw.c7, ⟨⟨_, _, hs2⟩, (hk 8 (by omega) (by omega)).trans hw.arcs.c0, (hk 9 (by omega) (by omega)).trans hw.arcs.c1, fun a b ha hb => (hk _ (by omega) (by omega)).trans (hw.arcs.said a b ha hb)⟩, ⟨va, (hk 74 (by omega) (by omega)).trans g1, ?_⟩, ?_, ?_⟩
  · have hne : va.ownBlock ≠ some p := fun h => by have := (g2.lt p h).1; omega
    exact ownsRow_setCell_other (ownsRow_setCell_other g2 hne _) hne _
  · rw [World.cell?_setCell_other _ _ _ _ (by intro h; simp only [Addr.mk.injEq] at h; omega), cell_of_row _ p 75 _ _ _ hs1]
    simp [h75]
  · rw [cell_of_row _ p 76 _ _ _ hs2]
    simp [h76]

set_option maxRecDepth 100000 in
set_option maxHeartbeats 4000000 in
theorem take_any (w0 w : World) (p : Nat) (r : Rd) (t : ByteArray) (vs vf vf2 : Value) (hok : RdOk r) (ht : t.size ≤ maxLen) (hw : WalkAt w0 w p r none [] vs vf vf2) (hs : StR w0 vs r) (hq : SqR w0 vf (r.stops.length + 1) (siteD r)) :
    Calls Try.prog 31 #[.pointer (some ⟨p, 0, none⟩), .string t] w fun e w' => e = .returned (.int .i64 (claimS r t.data.toList).2) ∧ ((claimS r t.data.toList).2 = 0 → WalkAt w0 w' p r (claimS r t.data.toList).1 [] vs vf vf2) ∧ Below p w0 w' := by
  have HJ := hid (ajudge_any p r (siteD r) t vs vf w ht hok (hw.area hs hq) (site_range hok))
  have hpl := hw.arcs.lt
  have HW := hid hw
  by_cases hn : t.data.toList = noneB
  · have HC : Hid (claimS r t.data.toList = (none, 0)) := by show _ = _; unfold claimS; rw [if_pos hn]
    have htt : t = ⟨#[110, 111, 110, 101]⟩ := by
      apply ByteArray.ext
      apply Array.toList_inj.1
      rw [hn]; rfl
    rw [HC.out]
    subst htt
    clear hw hn HJ
    go_enter Try.func31, Try.ntmps31
    go_wp2_with fail
    go_ret
    exact ⟨rfl, HW.out, HW.out.below⟩
  · have z2 : (t.toList == [110, 111, 110, 101]) = false := by rw [tn_list]; exact beq_eq_false_iff_ne.2 hn
    have HC : Hid (claimS r t.data.toList = if (judgeS r (siteD r) t.data.toList).2.2 ≠ 0 then (none, (judgeS r (siteD r) t.data.toList).2.2) else (some (judgeS r (siteD r) t.data.toList).1, 0)) := by show _ = _; unfold claimS; rw [if_neg hn]
    have HVS : Hid (∀ e w', JudgeLeft w r.stops.length (judgeS r (siteD r) t.data.toList) e w' → ∃ ao n c, e = .returned (.tuple #[.int .i64 (judgeS r (siteD r) t.data.toList).1, .slice ao n c, .int .i64 (judgeS r (siteD r) t.data.toList).2.2]) ∧ Below w.heap.size w w') := fun e w' hj => by
      obtain ⟨v, he, h1, h2, h3⟩ := hj
      cases hx : (judgeS r (siteD r) t.data.toList).2.1 with
      | none => exact ⟨none, 0, 0, by rw [he, h1 hx], h3⟩
      | some S =>
        obtain ⟨ao, c, hv, _, _⟩ := own_val (h2 S hx).1
        exact ⟨ao, _, c, by rw [he, hv], h3⟩
    generalize judgeS r (siteD r) t.data.toList = x at *
    obtain ⟨x1, x2, x3⟩ := x
    dsimp only at HC HVS
    generalize claimS r t.data.toList = cl at *
    by_cases h3 : x3 = 0
    · subst h3
      rw [if_neg (by simp)] at HC
      rw [HC.out]
      clear hw hn HC
      go_enter Try.func31, Try.ntmps31
      go_wp2_with fail
      refine HJ.out.mono ?_
      intro e1 w1 hj
      obtain ⟨ao, n, c, rfl, hb1⟩ := HVS.out e1 w1 hj
      have HW1 := hid (HW.out.mv hb1)
      have f75 := HW1.out.arcs.frozen 75
      have f76 := HW1.out.arcs.frozen 76
      have c75 := HW1.out.c75
      have c76 := HW1.out.c76
      have hpl1 := HW1.out.arcs.lt
      clear hj hb1 HJ HVS HW hpl
      go_wp2_with fail
      go_ret
      exact ⟨rfl, fun _ => walk_put HW1.out x1, (walk_put HW1.out x1).below⟩
    · rw [if_pos h3] at HC
      rw [HC.out]
      have b3 : (x3 != 0) = true := by simpa using h3
      have H3 := hid h3
      clear hw hn HC h3
      go_enter Try.func31, Try.ntmps31
      go_wp2_with fail
      refine HJ.out.mono ?_
      intro e1 w1 hj
      obtain ⟨ao, n, c, rfl, hb1⟩ := HVS.out e1 w1 hj
      have HW1 := hid (HW.out.mv hb1)
      clear hj hb1 HJ HVS HW hpl
      go_wp2_with fail
      go_ret
      exact ⟨rfl, fun h => absurd h H3.out, HW1.out.below⟩
end Go.Proofs.Ytebinaopncclgab
namespace Go.Proofs.Ytebinaopncclgab
open Go.RowKit Go.IntWalk

def walkO : Array Value := #[.int .i64 0, .int .i64 0, .int .i64 0, .int .i64 0, .int .i64 0, .slice none 0 0, .slice none 0 0, .slice none 0 0] ++ placeZ 0 (.slice none 0 0) ++ #[.bool false, .int .i64 0]
theorem zero_walk (W : World) : (zeroValue 87).run Try.prog W = .ok (.agg walkO) W := by kernel_rfl
theorem walkO_size : walkO.size = 77 := by kernel_rfl
def walkZ (r : Rd) (vs vr vf v2 : Value) : Array Value := ground r vs vr vf ++ placeZ r.vans v2 ++ #[.bool false, .int .i64 0]
theorem fold_walk (a0 a1 a2 a3 a4 x : Int) (v5 v6 v7 v2 : Value) : Array.foldl (fun (cs : Array Value) (x : Value × Nat) => cs.setIfInBounds (8 + x.snd) x.fst) ((((((((walkO.setIfInBounds 0 (.int .i64 a0)).setIfInBounds 1 (.int .i64 a1)).setIfInBounds 2 (.int .i64 a2)).setIfInBounds 3 (.int .i64 a3)).setIfInBounds 4 (.int .i64 a4)).setIfInBounds 5 v5).setIfInBounds 6 v6).setIfInBounds 7 v7) (placeZ x v2).zipIdx 0 67 = #[.int .i64 a0, .int .i64 a1, .int .i64 a2, .int .i64 a3, .int .i64 a4, v5, v6, v7] ++ placeZ x v2 ++ #[.bool false, .int .i64 0] := by kernel_rfl
theorem walkZ_at (w0 : World) (r : Rd) (vs vr vf v2 : Value) (t : TypeId) : WalkAt w0 (w0.alloc (.cells (walkZ r vs vr vf v2) t)) w0.heap.size r none [] vs vf v2 := by
  have hb := heap_alloc_new w0 (.cells (walkZ r vs vr vf v2) t)
  refine ⟨rfl, below1 w0 _, ?_, ?_, ?_, ?_, ?_, ⟨⟨_, _, hb⟩, ?_, ?_, fun a b ha hb' => ?_⟩, ⟨.slice none 0 0, ?_, World.ownsRow_nil _ _ _ _⟩, ?_, ?_⟩
  · rw [cell_of_row _ _ _ _ _ _ hb]; kernel_rfl
  · rw [cell_of_row _ _ _ _ _ _ hb]; kernel_rfl
  · rw [cell_of_row _ _ _ _ _ _ hb]; kernel_rfl
  · rw [cell_of_row _ _ _ _ _ _ hb]; kernel_rfl
  · rw [cell_of_row _ _ _ _ _ _ hb]; kernel_rfl
  · rw [cell_of_row _ _ _ _ _ _ hb]; kernel_rfl
  · rw [cell_of_row _ _ _ _ _ _ hb]; kernel_rfl
  · rw [cell_of_row _ _ _ _ _ _ hb]
    have e1 : walkZ r vs vr vf v2 = (ground r vs vr vf ++ #[.int .i64 r.vans, v2]) ++ (Array.replicate 64 (.int .i64 0) ++ #[.slice none 0 0, .bool false, .int .i64 0]) := by unfold walkZ placeZ arcsZ; simp
    rw [e1, Array.getElem?_append_right (by simp [ground]; omega), Array.getElem?_append_left (by simp [ground]; omega), Array.getElem?_replicate, if_pos (by simp [ground]; omega)]
    rfl
  · rw [cell_of_row _ _ _ _ _ _ hb]; kernel_rfl
  · rw [cell_of_row _ _ _ _ _ _ hb]; kernel_rfl
  · rw [cell_of_row _ _ _ _ _ _ hb]; kernel_rfl
theorem ground_cells {w : World} {b : Nat} {t : TypeId} {r : Rd} {vs vr vf : Value} (h : w.heap[b]? = some (.cells (ground r vs vr vf) t (0, 0))) :
    w.cell? ⟨b, 0, none⟩ = some (.int .i64 r.vans) ∧ w.cell? ⟨b, 1, none⟩ = some (.int .i64 r.load) ∧ w.cell? ⟨b, 2, none⟩ = some (.int .i64 r.close) ∧ w.cell? ⟨b, 3, none⟩ = some (.int .i64 r.nodes) ∧ w.cell? ⟨b, 4, none⟩ = some (.int .i64 r.home) ∧ w.cell? ⟨b, 5, none⟩ = some vs ∧ w.cell? ⟨b, 6, none⟩ = some vr ∧ w.cell? ⟨b, 7, none⟩ = some vf := by
  refine ⟨?_, ?_, ?_, ?_, ?_, ?_, ?_, ?_⟩ <;> (rw [cell_of_row w b _ _ _ _ h]; rfl)
theorem load_place (w : World) (c : Array Value) (h : c.size = 67) : (loadVar 83 ⟨w.heap.size, 0, none⟩).run Try.prog (w.alloc (.cells c 83)) = .ok (.agg c) (w.alloc (.cells c 83)) := by
  have h1 := run_loadCellsFrom_new (P := Try.prog) w 83 c 67 h
  simp only [loadVar, loadCells, Sem.run_bind, Sem.run_pure, Result.andThen, agg_place, size_place, h1, if_true]
theorem loadAt_place (w : World) (c : Array Value) (h : c.size = 67) : (Instr.loadAt 83 (.pointer (some ⟨w.heap.size, 0, none⟩))).run Try.prog (w.alloc (.cells c 83)) = .ok (.agg c) (w.alloc (.cells c 83)) := by
  simp only [Instr.loadAt, Instr.sureAddr, Sem.run_bind, Sem.run_pure, Result.andThen]
  exact load_place w c h
end Go.Proofs.Ytebinaopncclgab
namespace Go.Proofs.Ytebinaopncclgab
open Go.RowKit Go.IntWalk

set_option maxRecDepth 100000 in
set_option maxHeartbeats 8000000 in
theorem gcheck_ok (s l t : ByteArray) (r : Rd) (w : World) (hs : s.size ≤ maxLen) (hl : l.size ≤ maxLen) (ht : t.size ≤ 2000000) (hp : parseS s.data.toList = (r, 0, 0)) (hok : RdOk r) :
    Calls Try.prog 20 #[.string s, .string l, .string t] w fun e w' => e = .returned (.tuple #[.int .i64 (checkS r l.data.toList t.data.toList).1, .int .i64 (checkS r l.data.toList t.data.toList).2]) ∧ Below w.heap.size w w' := by
  have HCP : Hid (∀ W, Calls Try.prog 18 #[.string s] W (Parsed W (r, 0, 0))) := fun W => by rw [← hp]; exact parse_any s W hs
  have HOK := hid hok
  have hns := HOK.out.nstops
  have hnr := HOK.out.nroads
  clear hok hs hp
  go_enter Try.func20, Try.ntmps20
  go_wp2_with fail
  refine (HCP.out _).mono ?_
  rintro e1 w1 ⟨vs, vr, rfl, hos, hor, hb1⟩
  unfold inst
  obtain ⟨aos, caps, hv1, _, _⟩ := own_val hos
  obtain ⟨aor, capr, hv2, _, _⟩ := own_val hor
  subst hv1 hv2
  have HB1 : Hid (Below w.heap.size w w1) := by first | exact hb1 | exact (below1 w _).trans (hb1.mono (by simp))
  have HS1 := hid hos
  have HR1 := hid hor
  clear hos hor hb1 HCP
  go_wp2_with fail
  refine (of_any w.heap.size w.heap.size r (.slice aos r.stops.length caps) (.slice aor r.roads.length capr) _ HOK.out (HS1.out.alloc _) (HR1.out.alloc _)).mono ?_
  rintro e2 w2 ⟨v2, rfl, hg2, hb2⟩
  have hb12 : Below w1.heap.size w1 w2 := (below1 w1 _).trans (hb2.mono (by simp))
  have hbx2 : w2.heap[w1.heap.size]? = some (.cells #[.int .i64 r.vans, .int .i64 r.load, .int .i64 r.close, .int .i64 r.nodes, .int .i64 r.home, .slice aos r.stops.length caps, .slice aor r.roads.length capr] 25 (0, 0)) := (hb2.block _ (by simp)).trans (heap_alloc_new w1 _)
  obtain ⟨q0, q1, q2, q3, q4, q5, q6, _⟩ := seven hbx2
  have hxl : w1.heap.size < w2.heap.size := (Array.getElem?_eq_some_iff.1 hbx2).1
  have HB2 : Hid (Below w.heap.size w w2) := HB1.out.trans (hb12.mono HB1.out.size)
  have HSQ2 : Hid (SqR w2 v2 (r.stops.length + 1) (siteD r)) := hg2.sq (by omega)
  have HS2 := hid (own_below HS1.out hb12)
  have HR2 := hid (own_below HR1.out hb12)
  obtain ⟨g7, _, rfl, _⟩ := hg2
  clear hb2 hb12 HS1 HR1 HB1 hbx2
  unfold ground
  go_wp2_with fail
  obtain ⟨W2, hW2⟩ : ∃ W2, W2 = w2.alloc (.cells (ground r (.slice aos r.stops.length caps) (.slice aor r.roads.length capr) (.slice (some ⟨g7, 0, none⟩) (r.stops.length + 1) (r.stops.length + 1))) 75) := ⟨_, rfl⟩
  have hW2' := hW2
  unfold ground at hW2'
  rw [← hW2']
  have hbW2 : Below w2.heap.size w2 W2 := by rw [hW2]; exact below1 w2 _
  have hbx3 : W2.heap[w2.heap.size]? = some (.cells (ground r (.slice aos r.stops.length caps) (.slice aor r.roads.length capr) (.slice (some ⟨g7, 0, none⟩) (r.stops.length + 1) (r.stops.length + 1))) 75 (0, 0)) := by rw [hW2]; exact heap_alloc_new w2 _
  have HBX3 := hid hbx3
  have HBW2 := hid hbW2
  clear hW2 hW2' q0 q1 q2 q3 q4 q5 q6 hbx3 hbW2
  refine (root_any w.heap.size w.heap.size r (.slice aos r.stops.length caps) (.slice aor r.roads.length capr) _ HOK.out (own_below HS2.out HBW2.out) (own_below HR2.out HBW2.out)).mono ?_
  rintro e3 w3 ⟨v3, rfl, hg3, hb3⟩
  have hb23 : Below w2.heap.size w2 w3 := HBW2.out.trans (hb3.mono HBW2.out.size)
  have HB3 : Hid (Below w.heap.size w w3) := HB2.out.trans (hb23.mono HB2.out.size)
  have HSQ3 : Hid (SqR w3 v3 (r.stops.length + 1) (siteD r)) := hg3.sq (by omega)
  have HSQ2' : Hid (SqR w3 (.slice (some ⟨g7, 0, none⟩) (r.stops.length + 1) (r.stops.length + 1)) (r.stops.length + 1) (siteD r)) := HSQ2.out.below hb23
  have HST3 : Hid (StR w3 (.slice aos r.stops.length caps) r) := (StR.own HS2.out (fun s hs => (HOK.out.nice.stops s hs).1)).below hb23
  have hl2 : w2.heap.size < W2.heap.size := (Array.getElem?_eq_some_iff.1 HBX3.out).1
  have hbx4 : w3.heap[w2.heap.size]? = _ := (hb3.block _ hl2).trans HBX3.out
  have hl3 : w2.heap.size < w3.heap.size := (Array.getElem?_eq_some_iff.1 hbx4).1
  obtain ⟨q0, q1, q2, q3, q4, q5, q6, q7⟩ := ground_cells hbx4
  obtain ⟨g8, _, rfl, _⟩ := hg3
  obtain ⟨cp, hcp⟩ : ∃ cp, cp = placeZ r.vans (.slice (some ⟨g8, 0, none⟩) (r.stops.length + 1) (r.stops.length + 1)) := ⟨_, rfl⟩
  have hcps : cp.size = 67 := by rw [hcp]; exact placeZ_size _ _
  rw [← hcp]
  have hcpo : cp.all (·.oneCell') = true := by
    rw [hcp, Array.all_eq_true_iff_forall_mem]
    intro u hu
    exact placeZ_one rfl u (Array.mem_toList_iff.2 hu)
  have hst := run_storeCells_new (P := Try.prog) w3 83 Try.zeroCells83 cp (by rw [hcps]; kernel_rfl) (by rw [hcps]; kernel_rfl) hcpo
  have hfw : Array.foldl (fun (cs : Array Value) (x : Value × Nat) => cs.setIfInBounds (8 + x.snd) x.fst) ((((((((walkO.setIfInBounds 0 (.int .i64 r.vans)).setIfInBounds 1 (.int .i64 r.load)).setIfInBounds 2 (.int .i64 r.close)).setIfInBounds 3 (.int .i64 r.nodes)).setIfInBounds 4 (.int .i64 r.home)).setIfInBounds 5 (.slice aos r.stops.length caps)).setIfInBounds 6 (.slice aor r.roads.length capr)).setIfInBounds 7 (.slice (some ⟨g7, 0, none⟩) (r.stops.length + 1) (r.stops.length + 1))) cp.zipIdx 0 67 = walkZ r (.slice aos r.stops.length caps) (.slice aor r.roads.length capr) (.slice (some ⟨g7, 0, none⟩) (r.stops.length + 1) (r.stops.length + 1)) (.slice (some ⟨g8, 0, none⟩) (r.stops.length + 1) (r.stops.length + 1)) := by rw [hcp]; exact fold_walk _ _ _ _ _ _ _ _ _ _
  obtain ⟨cw, hcw⟩ : ∃ cw, cw = walkZ r (.slice aos r.stops.length caps) (.slice aor r.roads.length capr) (.slice (some ⟨g7, 0, none⟩) (r.stops.length + 1) (r.stops.length + 1)) (.slice (some ⟨g8, 0, none⟩) (r.stops.length + 1) (r.stops.length + 1)) := ⟨_, rfl⟩
  rw [← hcw] at hfw
  obtain ⟨W0, hW0⟩ : ∃ W0, W0 = w3.alloc (.cells cp 83) := ⟨_, rfl⟩
  have hz0 : W0.heap.size = w3.heap.size + 1 := by rw [hW0]; simp
  have hb30 : Below w3.heap.size w3 W0 := by rw [hW0]; exact below1 w3 _
  have HWA : Hid (WalkAt W0 (W0.alloc (.cells cw 87)) (w3.heap.size + 1) r none [] (.slice aos r.stops.length caps) (.slice (some ⟨g7, 0, none⟩) (r.stops.length + 1) (r.stops.length + 1)) (.slice (some ⟨g8, 0, none⟩) (r.stops.length + 1) (r.stops.length + 1))) := by
    have h := walkZ_at W0 r (.slice aos r.stops.length caps) (.slice aor r.roads.length capr) (.slice (some ⟨g7, 0, none⟩) (r.stops.length + 1) (r.stops.length + 1)) (.slice (some ⟨g8, 0, none⟩) (r.stops.length + 1) (r.stops.length + 1)) 87
    rw [← hcw, hz0] at h
    exact h
  have HB0 : Hid (Below w.heap.size w W0) := HB3.out.trans (hb30.mono HB3.out.size)
  have HST0 := hid (HST3.out.below hb30)
  have HSQ20 := hid (HSQ2'.out.below hb30)
  have HSQ30 := hid (HSQ3.out.below hb30)
  have HW0 := hid hW0
  have HZ0 := hid hz0
  clear hcw hW0 hb30 hz0 HSQ3 HSQ2' HST3
  have hzw := zero_walk
  have hzs := walkO_size
  have HCP := hid hcp
  clear hcp hcpo hb3 hb23 HS2 HR2 HBX3 HBW2 hbx4 hl2 HSQ2
  go_wp2_with fail
  refine wp_load_row (P := Try.prog) 83 (.tmp 12) rfl w3.heap.size rfl 83 cp (0, 0) _ (heap_alloc_new w3 _) Try.underlying83 rfl (by rw [hcps]; kernel_rfl) ?_
  go_wp2_with fail
  rw [← HW0.out]
  refine (take_any W0 _ (w3.heap.size + 1) r l _ _ _ HOK.out hl HWA.out HST0.out HSQ20.out).mono ?_
  rintro e4 w4 ⟨rfl, hw4, hb4⟩
  have hwz : w.heap.size ≤ w3.heap.size + 1 := by have := HB0.out.size; rw [HZ0.out] at this; exact this
  have HB4 : Hid (Below w.heap.size w w4) := HB0.out.trans (hb4.mono hwz)
  have HW4 := hid hw4
  clear hb4 hw4 HWA hst hzw hzs hfw hcps q0 q1 q2 q3 q4 q5 q6 q7 HCP HW0
  by_cases hc : (claimS r l.data.toList).2 = 0
  · have HA : Hid (checkS r l.data.toList t.data.toList = if (readT t.data.toList).2.2 ≠ 0 then ((readT t.data.toList).2.1, 14) else if firstW (insOf r (siteD r)) (claimS r l.data.toList).1 [] (readT t.data.toList).1 0 = 0 then (0, 0) else (firstW (insOf r (siteD r)) (claimS r l.data.toList).1 [] (readT t.data.toList).1 0, 15)) := by show _ = _; unfold checkS; rw [if_neg (by omega)]
    have HWK := hid (HW4.out hc)
    rw [hc]
    have HRD := hid (tread_any t w4 ht)
    have HTO := hid (readT_ok (s := t.data.toList))
    have hLL := readT_len t.data.toList
    rw [show t.data.toList.length = t.size by simp] at hLL
    generalize readT t.data.toList = R at *
    obtain ⟨L, line, er⟩ := R
    generalize (claimS r l.data.toList).1 = cl at *
    dsimp only at HA HTO hLL
    clear HW4 hc
    by_cases he : er = 0
    · subst he
      rw [if_neg (by simp)] at HA
      have HTR := hid (HTO.out rfl).1
      clear HTO
      go_wp2_with fail
      refine HRD.out.mono ?_
      rintro e5 w5 ⟨_, h5, hb5⟩
      obtain ⟨v5, rfl, hn5⟩ := h5 rfl
      have HN5 := hid hn5
      have HWK5 := hid (HWK.out.mv hb5)
      have hz4 : w3.heap.size + 1 < w4.heap.size := HWK.out.arcs.lt
      obtain ⟨us, _, ho5, _⟩ := hn5
      obtain ⟨av, cv, rfl, _, _⟩ := own_val ho5
      clear ho5 h5 hb5 HRD
      dsimp only
      go_wp2_with fail
      go_loopw [16] (fun i wr => ∃ (k : Nat) (P : PathT), i = .int .i64 k ∧ k ≤ L.length ∧ Hid (PathOk r.stops.length P) ∧ Hid (WalkAt W0 wr (w3.heap.size + 1) r cl P (.slice aos r.stops.length caps) (.slice (some ⟨g7, 0, none⟩) (r.stops.length + 1) (r.stops.length + 1)) (.slice (some ⟨g8, 0, none⟩) (r.stops.length + 1) (r.stops.length + 1))) ∧ Hid (NodesR wr w4.heap.size (.slice av L.length cv) L) ∧ Hid (firstW (insOf r (siteD r)) cl [] L 0 = firstW (insOf r (siteD r)) cl P (L.drop k) k)) (fun i _ => L.length - (intOf i).toNat)
      case atStart => exact ⟨0, [], rfl, Nat.zero_le _, PathOk.nil, HWK5, HN5, rfl⟩
      case round =>
        obtain ⟨k, P, rfl, hk, HP, HWR, HNR, HFW⟩ := hrel
        by_cases hlt : k < L.length
        · obtain ⟨gn, cn, ao, c', hv, hgb, hgl, x0, x1, hlr⟩ := HNR.out.at hlt
          cases hv
          have HLR := hid hlr
          have HFT := hid (node_facts HTR.out (List.getElem_mem hlt))
          have HDR := hid (List.drop_eq_getElem_cons hlt)
          generalize L[k] = nd at *
          have HSA := hid (step_any W0 wr (w3.heap.size + 1) r cl P _ _ _ _ _ nd HOK.out HP.out (by have := path_depth hns HP.out; omega) HFT.out.1 HFT.out.2.1 HFT.out.2.2 HLR.out HWR.out HST0.out HSQ20.out HSQ30.out)
          have hk1 : (k : Int) + 1 ≤ 3000000 := by omega
          clear hlr HFT
          cases hst : stepW (insOf r (siteD r)) cl P nd with
          | none =>
            have HF1 : Hid (firstW (insOf r (siteD r)) cl [] L 0 = k + 1) := by show _ = _; rw [HFW.out, HDR.out, firstW_cons, hst]
            rw [hst] at HSA
            have HA1 : Hid (checkS r l.data.toList t.data.toList = (k + 1, 15)) := by show _ = _; rw [HA.out, HF1.out, if_neg (by omega)]
            clear HFW HDR hst HF1 HA
            go_wp2_with fail
            refine HSA.out.mono ?_
            rintro e6 w6 ⟨h6, _⟩
            obtain ⟨rfl, hb6⟩ := h6 (by simp)
            have HB6 := hid hb6
            clear hb6 h6 HSA
            go_wp2_with fail
            refine bodyPost_ret (v := .tuple #[.int .i64 ((k : Int) + 1), .int .i64 15]) (by simp [results, Try.results20, go_sem]) rfl ?_
            exact ⟨by rw [HA1.out]; rfl, HB0.out.trans (HB6.out.mono hwz)⟩
          | some P' =>
            have HF1 : Hid (firstW (insOf r (siteD r)) cl [] L 0 = firstW (insOf r (siteD r)) cl P' (L.drop (k + 1)) (k + 1)) := by show _ = _; rw [HFW.out, HDR.out, firstW_cons, hst]
            have HP1 : Hid (PathOk r.stops.length P') := path_step (I := insOf r (siteD r)) HP.out hst
            rw [hst] at HSA
            clear HFW HDR hst
            go_wp2_with fail
            refine HSA.out.mono ?_
            rintro e6 w6 ⟨_, h6⟩
            obtain ⟨rfl, hw6, hk6⟩ := h6 P' (by simp)
            have HW6 := hid hw6
            have HN6 : Hid (NodesR w6 w4.heap.size (.slice (some ⟨gn, 0, none⟩) L.length cv) L) := HNR.out.kept hz4 HWR.out hk6
            clear hw6 hk6 h6 HSA
            go_wp2_with fail
            go_roundw
            case rel => exact ⟨k + 1, P', by go_num, by omega, HP1, HW6, HN6, HF1⟩
            case measure => simp [intOf]; omega
        · obtain rfl : k = L.length := by omega
          have HF1 : Hid (firstW (insOf r (siteD r)) cl [] L 0 = 0) := by show _ = _; rw [HFW.out, List.drop_length]; rfl
          have HA1 : Hid (checkS r l.data.toList t.data.toList = (0, 0)) := by show _ = _; rw [HA.out, HF1.out, if_pos rfl]
          clear HFW HF1 HA
          go_wp2_with fail
          refine bodyPost_ret (v := .tuple #[.int .i64 0, .int .i64 0]) (by simp [results, Try.results20, go_sem]) rfl ?_
          exact ⟨by rw [HA1.out]; rfl, HB0.out.trans (HWR.out.below.mono hwz)⟩
    · have HA1 : Hid (checkS r l.data.toList t.data.toList = (line, 14)) := by show _ = _; rw [HA.out, if_pos he]
      have HNE := hid he
      clear HA HTO he
      go_wp2_with fail
      refine HRD.out.mono ?_
      rintro e5 w5 ⟨h5, _, hb5⟩
      obtain rfl := h5 HNE.out
      have HB5 : Hid (Below w.heap.size w w5) := HB4.out.trans (hb5.mono HB4.out.size)
      clear h5 hb5 HRD
      dsimp only
      go_wp2_with fail
      refine bodyPost_ret (v := .tuple #[.int .i64 (line : Int), .int .i64 14]) (by simp [results, Try.results20, go_sem]) rfl ?_
      exact ⟨by rw [HA1.out], HB5.out⟩
  · have HA : Hid (checkS r l.data.toList t.data.toList = (0, (claimS r l.data.toList).2)) := by show _ = _; unfold checkS; rw [if_pos hc]
    have b1 : ((claimS r l.data.toList).2 != 0) = true := by simpa using hc
    clear HW4 hc
    go_wp2_with fail
    refine bodyPost_ret (v := .tuple #[.int .i64 0, .int .i64 (claimS r l.data.toList).2]) (by simp [results, Try.results20, go_sem]) rfl ?_
    exact ⟨by rw [HA.out]; rfl, HB4.out⟩
end Go.Proofs.Ytebinaopncclgab
