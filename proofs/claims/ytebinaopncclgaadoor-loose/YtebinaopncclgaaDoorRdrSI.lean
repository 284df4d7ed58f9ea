/- Walks: the reader takes a stop in. -/
import Derived.Test.YtebinaopncclgaaDoorRdrS
namespace Go.Proofs.YtebinaopncclgaaDoor
open Go.RowKit Go.IntWalk

set_option maxRecDepth 100000 in
set_option maxHeartbeats 1000000 in
theorem stop_in (B rb g cap : Nat) (r : Rd) (vs vr : Value) (a b c d e : Int) (w : World) (hr : RdAt w B rb r vs vr) (hh : r.head = true) (hlen : r.stops.length < 7) (hok : stopOk a b c d e r.nodes = true)
    (hg : g < w.heap.size) (h0 : w.cell? ⟨g, 0, none⟩ = some (.int .i64 a)) (h1 : w.cell? ⟨g, 1, none⟩ = some (.int .i64 b)) (h2 : w.cell? ⟨g, 2, none⟩ = some (.int .i64 c)) (h3 : w.cell? ⟨g, 3, none⟩ = some (.int .i64 d)) (h4 : w.cell? ⟨g, 4, none⟩ = some (.int .i64 e)) :
    Calls Tryd.prog 21 #[.pointer (some ⟨rb, 0, none⟩), .slice (some ⟨g, 0, none⟩) 5 cap] w (RdLeft w B rb (rdStop r a b c d e)) := by
  obtain ⟨c0, c1, c2, c3, c4, c5, c6, c7, hfz, hrl⟩ := rd_cells hr
  obtain ⟨i0, hi, hz0, hz1, hz2⟩ := info_parts Tryd.infoStop
  obtain ⟨aos, caps, rfl, _, _⟩ := own_val hr.2.2.1
  rw [hh] at c7
  clear c0 c1 c2 c4 c6
  go_enter Tryd.func21, Tryd.ntmps21
  go_wp2
  go_region
  go_wp2_with fail
  go_region_with (go_at_call 24; refine (stopFits_any _ _ _ _ _ _ _).mono ?_; rintro e1 w1 ⟨rfl, hb1⟩)
  all_goals
    obtain ⟨hw1, hz, hbox⟩ := box_facts (w := w) (cs := #[.int .i64 a, .int .i64 b, .int .i64 c, .int .i64 d, .int .i64 e]) (t := 37) hb1 rfl rfl rfl rfl
    clear hb1
    have b0 : w1.cell? ⟨w.heap.size, 0, none⟩ = some (.int .i64 a) := hbox 0
    have b1 : w1.cell? ⟨w.heap.size, 1, none⟩ = some (.int .i64 b) := hbox 1
    have b2 : w1.cell? ⟨w.heap.size, 2, none⟩ = some (.int .i64 c) := hbox 2
    have b3 : w1.cell? ⟨w.heap.size, 3, none⟩ = some (.int .i64 d) := hbox 3
    have b4 : w1.cell? ⟨w.heap.size, 4, none⟩ = some (.int .i64 e) := hbox 4
    clear hbox h0 h1 h2 h3 h4
    have HR := hide (rd_same hr hw1)
    have HW := hide hw1
    have HX : Hid (rdStop r a b c d e = ({ r with stops := r.stops ++ [[a, b, c, d, e]] }, 0)) := stop_eq hh hlen hok
    have d5 : w1.cell? ⟨rb, 5, none⟩ = some (.slice aos r.stops.length caps) := (hw1.cell (by exact hrl)).trans c5
    have hf5 : w1.frozen? ⟨rb, 5, none⟩ = false := (hw1.frozen (by exact hrl)).trans (hfz 5)
    have hrl1 : rb < w1.heap.size := by omega
    clear hw1 c5 c7 c3 hfz
    go_wp2
    go_region_law (refine step_append_own rfl (.tmp 52) (.tmp 54) 22 rfl B 37 i0 (.agg #[.int .i64 0, .int .i64 0, .int .i64 0, .int .i64 0, .int .i64 0]) 5 40 Tryd.underlying22 hi hz0 hz1 hz2 rfl (by decide) (.slice aos r.stops.length caps) r.stops.length (ints r.stops.flatten) (by simp [Act.eval]) (by exact own_new rfl HR.out.2.2.1 rfl) ⟨w1.heap.size, 0, none⟩ 1 1 [.int .i64 a, .int .i64 b, .int .i64 c, .int .i64 d, .int .i64 e] (by simp [Act.eval]) rfl (by exact news_at rfl rfl) (by exact ints5 _ _ _ _ _) (by unfold maxLen; omega) (by omega) (by exact lt_new rfl HR.out.1 hrl1) ?_; intro v' w2 hown2 hgrow2; have HO := hide hown2; have HG := hide hgrow2; obtain ⟨g5, cap5, cur5, hv5, _, _, _⟩ := own_shape hown2 (by omega); clear hown2 hgrow2; subst hv5; obtain ⟨e5, _, f5, _⟩ := rd_after_cells (rd_after HG.out HR.out rfl HR.out.2.2.1 (by decide)))
    all_goals
      go_wp2
      go_ret
      exact stop_left HG.out hr HW.out rfl rfl rfl rfl HO.out HX.out

end Go.Proofs.YtebinaopncclgaaDoor
