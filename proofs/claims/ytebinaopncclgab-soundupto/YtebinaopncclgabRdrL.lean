/- Walks: a line of the text. -/
import Derived.Test.YtebinaopncclgabRdrS
namespace Go.Proofs.Ytebinaopncclgab
open Go.RowKit Go.IntWalk

theorem road_eq {r : Rd} {a b c : Int} (hh : r.head = true) (hlen : r.roads.length < 40) (hok : roadOk a b c r.nodes = true) : rdRoad r a b c = ({ r with roads := r.roads ++ [[a, b, c]] }, 0) := by
  unfold rdRoad; rw [if_neg (by simp [hh]), if_neg (by omega), if_pos hok]
theorem road_left {w w1 X w2 : World} {o : Obj} {B rb : Nat} {r : Rd} {vs vr v' : Value} {a b c : Int} (hg : X.grownBy w2 vr.ownBlock) (hr : RdAt w B rb r vs vr) (hw1 : Below w.heap.size w w1) (hh : X.heap = (w1.alloc o).heap) (ho : X.os = w1.os) (ht : X.tape = w1.tape) (hu : X.output = w1.output)
    (hown : w2.ownsRow B 40 3 v' (r.roads.length + 1) (ints r.roads.flatten ++ [.int .i64 a, .int .i64 b, .int .i64 c]))
    (hx : rdRoad r a b c = ({ r with roads := r.roads ++ [[a, b, c]] }, 0)) :
    RdLeft w B rb (rdRoad r a b c) (.returned (.int .i64 0)) (w2.setCell ⟨rb, 6, none⟩ v') := by
  have hr1 := rd_same hr hw1
  have hrb := rd_after hg hr1 hh hr1.2.2.2 (by decide)
  have hsz : B ≤ w.heap.size := by have := (Array.getElem?_eq_some_iff.1 hr.2.1).1; have := hr.1; omega
  have hX : Below w1.heap.size w1 X := below_new hh ho ht hu
  have hwX : Below w.heap.size w X := hw1.trans (hX.mono hw1.size)
  have hbX : Below B X w2 := (Below.refl _ _).grown hg (by have := hwX.size; omega) (fun k hk => (hr1.2.2.2.lt k hk).1)
  have hrd : w2.ownsRow B 38 5 vs r.stops.length (ints r.stops.flatten) :=
    (own_below hr1.2.2.1 hX).kept hg (own_ne hr1.2.2.1 hr1.2.2.2 (by decide))
  rw [hx]
  have hown' : w2.ownsRow B 40 3 v' (r.roads ++ [[a, b, c]]).length (ints (r.roads ++ [[a, b, c]]).flatten) := by
    rw [List.length_append, List.flatten_append, ints_append]; simpa [ints] using hown
  refine ⟨vs, v', rfl, ⟨hr.1, ?_, own_setCell hrd hrb (by decide) _, own_setCell hown' hrb (by decide) _⟩, ?_, ?_⟩
  · rw [heap_setCell_same w2 rb 6 _ _ _ hrb]; rfl
  · exact ((hwX.mono hsz).trans hbX).setCell hr.1 _
  · exact (((Keep.of_below hw1).trans (keep_new hh)).trans (keep_of (Keep.grown (T := [40]) (own_below hr1.2.2.2 hX) (by simp) hg) (by decide))).trans (keep_of (e := 61) (Keep.setCell hrb (by simp) _) (by decide))

set_option maxRecDepth 100000 in
set_option maxHeartbeats 1000000 in
theorem road_in (B rb g cap : Nat) (r : Rd) (vs vr : Value) (a b c : Int) (w : World) (hr : RdAt w B rb r vs vr) (hh : r.head = true) (hlen : r.roads.length < 40) (hok : roadOk a b c r.nodes = true)
    (hg : g < w.heap.size) (h0 : w.cell? ⟨g, 0, none⟩ = some (.int .i64 a)) (h1 : w.cell? ⟨g, 1, none⟩ = some (.int .i64 b)) (h2 : w.cell? ⟨g, 2, none⟩ = some (.int .i64 c)) :
    Calls Try.prog 38 #[.pointer (some ⟨rb, 0, none⟩), .slice (some ⟨g, 0, none⟩) 3 cap] w (RdLeft w B rb (rdRoad r a b c)) := by
  obtain ⟨c0, c1, c2, c3, c4, c5, c6, c7, hfz, hrl⟩ := rd_cells hr
  obtain ⟨i0, hi, hz0, hz1, hz2⟩ := info_parts Try.infoRoad
  obtain ⟨aos, caps, rfl, _, _⟩ := own_val hr.2.2.2
  rw [hh] at c7
  clear c0 c1 c2 c4 c5
  go_enter Try.func38, Try.ntmps38
  go_wp2
  go_region
  go_wp2_with fail
  go_region_with (go_at_call 41; refine (roadFits_any _ _ _ _ _).mono ?_; rintro e1 w1 ⟨rfl, hb1⟩)
  all_goals
    obtain ⟨hw1, hz, hbox⟩ := box_facts (w := w) (cs := #[.int .i64 a, .int .i64 b, .int .i64 c]) (t := 40) hb1 rfl rfl rfl rfl
    clear hb1
    have b0 : w1.cell? ⟨w.heap.size, 0, none⟩ = some (.int .i64 a) := hbox 0
    have b1 : w1.cell? ⟨w.heap.size, 1, none⟩ = some (.int .i64 b) := hbox 1
    have b2 : w1.cell? ⟨w.heap.size, 2, none⟩ = some (.int .i64 c) := hbox 2
    clear hbox h0 h1 h2
    have HR := hide (rd_same hr hw1)
    have HW := hide hw1
    have HX : Hid (rdRoad r a b c = ({ r with roads := r.roads ++ [[a, b, c]] }, 0)) := road_eq hh hlen hok
    have d5 : w1.cell? ⟨rb, 6, none⟩ = some (.slice aos r.roads.length caps) := (hw1.cell (by exact hrl)).trans c6
    have hf5 : w1.frozen? ⟨rb, 6, none⟩ = false := (hw1.frozen (by exact hrl)).trans (hfz 6)
    have hrl1 : rb < w1.heap.size := by omega
    clear hw1 c6 c7 c3 hfz
    go_wp2
    go_region_law (refine step_append_own rfl (.tmp 46) (.tmp 48) 23 rfl B 40 i0 (.agg #[.int .i64 0, .int .i64 0, .int .i64 0]) 3 24 Try.underlying23 hi hz0 hz1 hz2 rfl (by decide) (.slice aos r.roads.length caps) r.roads.length (ints r.roads.flatten) (by simp [Act.eval]) (by exact own_new rfl HR.out.2.2.2 rfl) ⟨w1.heap.size, 0, none⟩ 1 1 [.int .i64 a, .int .i64 b, .int .i64 c] (by simp [Act.eval]) rfl (by exact news_at rfl rfl) (by exact ints3 _ _ _) (by unfold maxLen; omega) (by omega) (by exact lt_new rfl HR.out.1 hrl1) ?_; intro v' w2 hown2 hgrow2; have HO := hide hown2; have HG := hide hgrow2; obtain ⟨g5, cap5, cur5, hv5, _, _, _⟩ := own_shape hown2 (by omega); clear hown2 hgrow2; subst hv5; obtain ⟨_, e5, _, f5⟩ := rd_after_cells (rd_after HG.out HR.out rfl HR.out.2.2.2 (by decide)))
    all_goals
      go_wp2
      go_ret
      exact road_left HG.out hr HW.out rfl rfl rfl rfl HO.out HX.out

end Go.Proofs.Ytebinaopncclgab
namespace Go.Proofs.Ytebinaopncclgab
open Go.RowKit Go.IntWalk

set_option maxRecDepth 100000 in
set_option maxHeartbeats 1000000 in
theorem stop_in (B rb g cap : Nat) (r : Rd) (vs vr : Value) (a b c d e : Int) (w : World) (hr : RdAt w B rb r vs vr) (hh : r.head = true) (hlen : r.stops.length < 7) (hok : stopOk a b c d e r.nodes = true)
    (hg : g < w.heap.size) (h0 : w.cell? ⟨g, 0, none⟩ = some (.int .i64 a)) (h1 : w.cell? ⟨g, 1, none⟩ = some (.int .i64 b)) (h2 : w.cell? ⟨g, 2, none⟩ = some (.int .i64 c)) (h3 : w.cell? ⟨g, 3, none⟩ = some (.int .i64 d)) (h4 : w.cell? ⟨g, 4, none⟩ = some (.int .i64 e)) :
    Calls Try.prog 37 #[.pointer (some ⟨rb, 0, none⟩), .slice (some ⟨g, 0, none⟩) 5 cap] w (RdLeft w B rb (rdStop r a b c d e)) := by
  obtain ⟨c0, c1, c2, c3, c4, c5, c6, c7, hfz, hrl⟩ := rd_cells hr
  obtain ⟨i0, hi, hz0, hz1, hz2⟩ := info_parts Try.infoStop
  obtain ⟨aos, caps, rfl, _, _⟩ := own_val hr.2.2.1
  rw [hh] at c7
  clear c0 c1 c2 c4 c6
  go_enter Try.func37, Try.ntmps37
  go_wp2
  go_region
  go_wp2_with fail
  go_region_with (go_at_call 40; refine (stopFits_any _ _ _ _ _ _ _).mono ?_; rintro e1 w1 ⟨rfl, hb1⟩)
  all_goals
    obtain ⟨hw1, hz, hbox⟩ := box_facts (w := w) (cs := #[.int .i64 a, .int .i64 b, .int .i64 c, .int .i64 d, .int .i64 e]) (t := 38) hb1 rfl rfl rfl rfl
    clear hb1
    have b0 : w1.cell? ⟨w.heap.size, 0, none⟩ = some (.int .i64 a) := hbox 0
    have b1 : w1.cell? ⟨w.heap.size, 1, none⟩ = some (.int .i64 b) := hbox 1
    have b2 : w1.cell? ⟨w.heap.size, 2, none⟩ = some (.int .i64 c) := hbox 2
    have b3 : w1.cell? ⟨w.heap.size, 3, none⟩ = some (.int .i64 d) := hbox 3
    have b4 : w1.cell? ⟨w.heap.size, 4, none⟩ = some (.int .i64 e) := hbox 4
    clear hbox h0 h1 h2 h3 h4
    have HR := hide (rd_same hr hw1)
    have HW := hide hw1
    have HX : Hid (rdStop r a b c d e = ({ r with stops := r.stops ++ [[a, b, c, d, e]] }, 0)) := stop_eq hh hlen hok
    have d5 : w1.cell? ⟨rb, 5, none⟩ = some (.slice aos r.stops.length caps) := (hw1.cell (by exact hrl)).trans c5
    have hf5 : w1.frozen? ⟨rb, 5, none⟩ = false := (hw1.frozen (by exact hrl)).trans (hfz 5)
    have hrl1 : rb < w1.heap.size := by omega
    clear hw1 c5 c7 c3 hfz
    go_wp2
    go_region_law (refine step_append_own rfl (.tmp 52) (.tmp 54) 22 rfl B 38 i0 (.agg #[.int .i64 0, .int .i64 0, .int .i64 0, .int .i64 0, .int .i64 0]) 5 40 Try.underlying22 hi hz0 hz1 hz2 rfl (by decide) (.slice aos r.stops.length caps) r.stops.length (ints r.stops.flatten) (by simp [Act.eval]) (by exact own_new rfl HR.out.2.2.1 rfl) ⟨w1.heap.size, 0, none⟩ 1 1 [.int .i64 a, .int .i64 b, .int .i64 c, .int .i64 d, .int .i64 e] (by simp [Act.eval]) rfl (by exact news_at rfl rfl) (by exact ints5 _ _ _ _ _) (by unfold maxLen; omega) (by omega) (by exact lt_new rfl HR.out.1 hrl1) ?_; intro v' w2 hown2 hgrow2; have HO := hide hown2; have HG := hide hgrow2; obtain ⟨g5, cap5, cur5, hv5, _, _, _⟩ := own_shape hown2 (by omega); clear hown2 hgrow2; subst hv5; obtain ⟨e5, _, f5, _⟩ := rd_after_cells (rd_after HG.out HR.out rfl HR.out.2.2.1 (by decide)))
    all_goals
      go_wp2
      go_ret
      exact stop_left HG.out hr HW.out rfl rfl rfl rfl HO.out HX.out

end Go.Proofs.Ytebinaopncclgab
namespace Go.Proofs.Ytebinaopncclgab
open Go.RowKit Go.IntWalk

set_option maxRecDepth 100000 in
set_option maxHeartbeats 1000000 in
theorem stop_out (B rb g cap : Nat) (r : Rd) (vs vr : Value) (a b c d e : Int) (w : World) (hr : RdAt w B rb r vs vr) (hh : r.head = true) (hlen : r.stops.length < 7) (hok : stopOk a b c d e r.nodes = false)
    (hg : g < w.heap.size) (h0 : w.cell? ⟨g, 0, none⟩ = some (.int .i64 a)) (h1 : w.cell? ⟨g, 1, none⟩ = some (.int .i64 b)) (h2 : w.cell? ⟨g, 2, none⟩ = some (.int .i64 c)) (h3 : w.cell? ⟨g, 3, none⟩ = some (.int .i64 d)) (h4 : w.cell? ⟨g, 4, none⟩ = some (.int .i64 e)) :
    Calls Try.prog 37 #[.pointer (some ⟨rb, 0, none⟩), .slice (some ⟨g, 0, none⟩) 5 cap] w (RdLeft w B rb (rdStop r a b c d e)) := by
  obtain ⟨c0, c1, c2, c3, c4, c5, c6, c7, hfz, hrl⟩ := rd_cells hr
  obtain ⟨aos, caps, rfl, _, _⟩ := own_val hr.2.2.1
  rw [hh] at c7
  clear c0 c1 c2 c4 c6
  go_enter Try.func37, Try.ntmps37
  go_wp2
  go_region
  go_wp2_with fail
  go_region_with (go_at_call 40; refine (stopFits_any _ _ _ _ _ _ _).mono ?_; rintro e1 w1 ⟨rfl, hb1⟩)
  all_goals
    obtain ⟨hw1, hz, hbox⟩ := box_facts (w := w) (cs := #[.int .i64 a, .int .i64 b, .int .i64 c, .int .i64 d, .int .i64 e]) (t := 38) hb1 rfl rfl rfl rfl
    clear hb1 hbox
    have HW := hide hw1
    clear hw1
    go_wp2
    go_ret
    exact rd_left_same hr HW.out (by unfold rdStop; rw [if_neg (by simp [hh]), if_neg (by omega), if_neg (by simp [hok])])

set_option maxRecDepth 100000 in
set_option maxHeartbeats 1000000 in
theorem stop_many (B rb cap : Nat) (ao : Option Addr) (r : Rd) (vs vr : Value) (x : Rd × Int) (w : World) (hr : RdAt w B rb r vs vr) (hh : r.head = true) (hlen : 7 ≤ r.stops.length) (hlm : r.stops.length ≤ 1000000) (hx : x = (r, 3)) :
    Calls Try.prog 37 #[.pointer (some ⟨rb, 0, none⟩), .slice ao 5 cap] w (RdLeft w B rb x) := by
  obtain ⟨c0, c1, c2, c3, c4, c5, c6, c7, hfz, hrl⟩ := rd_cells hr
  obtain ⟨aos, caps, rfl, _, _⟩ := own_val hr.2.2.1
  rw [hh] at c7
  clear c0 c1 c2 c4 c6
  go_enter Try.func37, Try.ntmps37
  go_wp2
  go_ret
  exact rd_left_same hr (Below.refl _ _) hx

set_option maxRecDepth 100000 in
set_option maxHeartbeats 1000000 in
theorem stop_bad (B rb n cap : Nat) (ao : Option Addr) (r : Rd) (vs vr : Value) (x : Rd × Int) (w : World) (hr : RdAt w B rb r vs vr) (hx : x = (r, 2)) (hbad : r.head = false ∨ n ≠ 5) :
    Calls Try.prog 37 #[.pointer (some ⟨rb, 0, none⟩), .slice ao n cap] w (RdLeft w B rb x) := by
  obtain ⟨c0, c1, c2, c3, c4, c5, c6, c7, hfz, hrl⟩ := rd_cells hr
  clear c0 c1 c2 c3 c4 c5 c6
  cases hh : r.head
  · rw [hh] at c7
    go_enter Try.func37, Try.ntmps37
    go_wp2
    go_ret
    exact rd_left_same hr (Below.refl _ _) hx
  · rw [hh] at c7
    have hn : ((n : Int) != 5) = true := by
      rw [bne_iff_ne]; rcases hbad with h | h
      · rw [hh] at h; cases h
      · omega
    go_enter Try.func37, Try.ntmps37
    go_wp2
    go_ret
    exact rd_left_same hr (Below.refl _ _) hx
end Go.Proofs.Ytebinaopncclgab
namespace Go.Proofs.Ytebinaopncclgab
open Go.RowKit Go.IntWalk

set_option maxRecDepth 100000 in
set_option maxHeartbeats 1000000 in
theorem road_out (B rb g cap : Nat) (r : Rd) (vs vr : Value) (a b c : Int) (w : World) (hr : RdAt w B rb r vs vr) (hh : r.head = true) (hlen : r.roads.length < 40) (hok : roadOk a b c r.nodes = false)
    (hg : g < w.heap.size) (h0 : w.cell? ⟨g, 0, none⟩ = some (.int .i64 a)) (h1 : w.cell? ⟨g, 1, none⟩ = some (.int .i64 b)) (h2 : w.cell? ⟨g, 2, none⟩ = some (.int .i64 c)) :
    Calls Try.prog 38 #[.pointer (some ⟨rb, 0, none⟩), .slice (some ⟨g, 0, none⟩) 3 cap] w (RdLeft w B rb (rdRoad r a b c)) := by
  obtain ⟨c0, c1, c2, c3, c4, c5, c6, c7, hfz, hrl⟩ := rd_cells hr
  obtain ⟨aos, caps, rfl, _, _⟩ := own_val hr.2.2.2
  rw [hh] at c7
  clear c0 c1 c2 c4 c5
  go_enter Try.func38, Try.ntmps38
  go_wp2
  go_region
  go_wp2_with fail
  go_region_with (go_at_call 41; refine (roadFits_any _ _ _ _ _).mono ?_; rintro e1 w1 ⟨rfl, hb1⟩)
  all_goals
    obtain ⟨hw1, hz, hbox⟩ := box_facts (w := w) (cs := #[.int .i64 a, .int .i64 b, .int .i64 c]) (t := 40) hb1 rfl rfl rfl rfl
    clear hb1 hbox
    have HW := hide hw1
    clear hw1
    go_wp2
    go_ret
    exact rd_left_same hr HW.out (by unfold rdRoad; rw [if_neg (by simp [hh]), if_neg (by omega), if_neg (by simp [hok])])

set_option maxRecDepth 100000 in
set_option maxHeartbeats 1000000 in
theorem road_many (B rb cap : Nat) (ao : Option Addr) (r : Rd) (vs vr : Value) (x : Rd × Int) (w : World) (hr : RdAt w B rb r vs vr) (hh : r.head = true) (hlen : 40 ≤ r.roads.length) (hlm : r.roads.length ≤ 1000000) (hx : x = (r, 3)) :
    Calls Try.prog 38 #[.pointer (some ⟨rb, 0, none⟩), .slice ao 3 cap] w (RdLeft w B rb x) := by
  obtain ⟨c0, c1, c2, c3, c4, c5, c6, c7, hfz, hrl⟩ := rd_cells hr
  obtain ⟨aos, caps, rfl, _, _⟩ := own_val hr.2.2.2
  rw [hh] at c7
  clear c0 c1 c2 c4 c5
  go_enter Try.func38, Try.ntmps38
  go_wp2
  go_ret
  exact rd_left_same hr (Below.refl _ _) hx

set_option maxRecDepth 100000 in
set_option maxHeartbeats 1000000 in
theorem road_bad (B rb n cap : Nat) (ao : Option Addr) (r : Rd) (vs vr : Value) (x : Rd × Int) (w : World) (hr : RdAt w B rb r vs vr) (hx : x = (r, 2)) (hbad : r.head = false ∨ n ≠ 3) :
    Calls Try.prog 38 #[.pointer (some ⟨rb, 0, none⟩), .slice ao n cap] w (RdLeft w B rb x) := by
  obtain ⟨c0, c1, c2, c3, c4, c5, c6, c7, hfz, hrl⟩ := rd_cells hr
  clear c0 c1 c2 c3 c4 c5 c6
  cases hh : r.head
  · rw [hh] at c7
    go_enter Try.func38, Try.ntmps38
    go_wp2
    go_ret
    exact rd_left_same hr (Below.refl _ _) hx
  · rw [hh] at c7
    have hn : ((n : Int) != 3) = true := by
      rw [bne_iff_ne]; rcases hbad with h | h
      · rw [hh] at h; cases h
      · omega
    go_enter Try.func38, Try.ntmps38
    go_wp2
    go_ret
    exact rd_left_same hr (Below.refl _ _) hx
end Go.Proofs.Ytebinaopncclgab
namespace Go.Proofs.Ytebinaopncclgab
open Go.RowKit Go.IntWalk

def RdFine (r : Rd) : Prop := r.stops.length ≤ 7 ∧ r.roads.length ≤ 40

/- a list of the call's own numbers, as the methods want it -/
theorem own_ints {w : World} {B n : Nat} {v : Value} {zs : List Int} (h : w.ownsRow B 3 1 v n (ints zs)) (hn : zs.length = n) (hne : v ≠ .slice none 0 0) :
    ∃ g cap, v = .slice (some ⟨g, 0, none⟩) n cap ∧ g < w.heap.size ∧ ∀ i, i < n → w.cell? ⟨g, i, none⟩ = some (.int .i64 (zs.getD i 0)) := by
  rcases h.2 with ⟨h0, _⟩ | ⟨g, cap, cur, rfl, _, hg, _⟩
  · exact absurd h0 hne
  · refine ⟨g, cap, rfl, (Array.getElem?_eq_some_iff.1 hg).1, fun i hi => ?_⟩
    rw [h.cellAt i (by omega)]
    simp [ints, show i < zs.length by omega]

theorem depot_all (B rb n : Nat) (r : Rd) (vs vr v : Value) (zs : List Int) (B' : Nat) (w : World) (hr : RdAt w B rb r vs vr) (hn : zs.length = n) (hown : w.ownsRow B' 3 1 v n (ints zs)) (hne : v ≠ .slice none 0 0) :
    Calls Try.prog 36 #[.pointer (some ⟨rb, 0, none⟩), v] w (RdLeft w B rb (rdVals r [68] zs)) := by
  obtain ⟨g, cap, rfl, hg, hc⟩ := own_ints hown hn hne
  by_cases h5 : n = 5
  · subst h5
    match zs, hn with
    | [a, b, c, d, e], _ =>
      have hx : rdVals r [68] [a, b, c, d, e] = rdDepot r a b c d e := by simp [rdVals]
      rw [hx]
      cases hh : r.head
      · cases hok : headOk a b c d e
        · exact depot_out B rb g cap r vs vr a b c d e w hr hh hok hg (hc 0 (by omega)) (hc 1 (by omega)) (hc 2 (by omega)) (hc 3 (by omega)) (hc 4 (by omega))
        · exact depot_in B rb g cap r vs vr a b c d e w hr hh hok hg (hc 0 (by omega)) (hc 1 (by omega)) (hc 2 (by omega)) (hc 3 (by omega)) (hc 4 (by omega))
      · exact depot_bad B rb 5 cap _ r vs vr _ w hr (by simp [rdDepot, hh]) (Or.inl hh)
  · refine depot_bad B rb n cap _ r vs vr _ w hr ?_ (Or.inr h5)
    unfold rdVals
    rw [if_pos rfl]
    split
    · simp at hn; omega
    · rfl

theorem stop_all (B rb n : Nat) (r : Rd) (vs vr v : Value) (zs : List Int) (B' : Nat) (w : World) (hr : RdAt w B rb r vs vr) (hf : RdFine r) (hn : zs.length = n) (hown : w.ownsRow B' 3 1 v n (ints zs)) (hne : v ≠ .slice none 0 0) :
    Calls Try.prog 37 #[.pointer (some ⟨rb, 0, none⟩), v] w (RdLeft w B rb (rdVals r [83] zs)) := by
  obtain ⟨g, cap, rfl, hg, hc⟩ := own_ints hown hn hne
  have hfl := hf.1
  by_cases h5 : n = 5
  · subst h5
    match zs, hn with
    | [a, b, c, d, e], _ =>
      have hx : rdVals r [83] [a, b, c, d, e] = rdStop r a b c d e := by simp [rdVals]
      rw [hx]
      cases hh : r.head
      · exact stop_bad B rb 5 cap _ r vs vr _ w hr (by simp [rdStop, hh]) (Or.inl hh)
      · by_cases hl : 7 ≤ r.stops.length
        · exact stop_many B rb cap _ r vs vr _ w hr hh hl (by omega) (by simp [rdStop, hh, hl])
        · cases hok : stopOk a b c d e r.nodes
          · exact stop_out B rb g cap r vs vr a b c d e w hr hh (by omega) hok hg (hc 0 (by omega)) (hc 1 (by omega)) (hc 2 (by omega)) (hc 3 (by omega)) (hc 4 (by omega))
          · exact stop_in B rb g cap r vs vr a b c d e w hr hh (by omega) hok hg (hc 0 (by omega)) (hc 1 (by omega)) (hc 2 (by omega)) (hc 3 (by omega)) (hc 4 (by omega))
  · refine stop_bad B rb n cap _ r vs vr _ w hr ?_ (Or.inr h5)
    unfold rdVals
    rw [if_neg (by decide), if_pos rfl]
    split
    · simp at hn; omega
    · rfl

theorem road_all (B rb n : Nat) (r : Rd) (vs vr v : Value) (zs : List Int) (B' : Nat) (w : World) (hr : RdAt w B rb r vs vr) (hf : RdFine r) (hn : zs.length = n) (hown : w.ownsRow B' 3 1 v n (ints zs)) (hne : v ≠ .slice none 0 0) :
    Calls Try.prog 38 #[.pointer (some ⟨rb, 0, none⟩), v] w (RdLeft w B rb (rdVals r [82] zs)) := by
  obtain ⟨g, cap, rfl, hg, hc⟩ := own_ints hown hn hne
  have hfl := hf.2
  by_cases h5 : n = 3
  · subst h5
    match zs, hn with
    | [a, b, c], _ =>
      have hx : rdVals r [82] [a, b, c] = rdRoad r a b c := by simp [rdVals]
      rw [hx]
      cases hh : r.head
      · exact road_bad B rb 3 cap _ r vs vr _ w hr (by simp [rdRoad, hh]) (Or.inl hh)
      · by_cases hl : 40 ≤ r.roads.length
        · exact road_many B rb cap _ r vs vr _ w hr hh hl (by omega) (by simp [rdRoad, hh, hl])
        · cases hok : roadOk a b c r.nodes
          · exact road_out B rb g cap r vs vr a b c w hr hh (by omega) hok hg (hc 0 (by omega)) (hc 1 (by omega)) (hc 2 (by omega))
          · exact road_in B rb g cap r vs vr a b c w hr hh (by omega) hok hg (hc 0 (by omega)) (hc 1 (by omega)) (hc 2 (by omega))
  · refine road_bad B rb n cap _ r vs vr _ w hr ?_ (Or.inr h5)
    unfold rdVals
    rw [if_neg (by decide), if_neg (by decide), if_pos rfl]
    split
    · simp at hn; omega
    · rfl

theorem left_trans {w w2 w3 : World} {B rb : Nat} {r : Rd} {vs vr : Value} {x : Rd × Int} {e : Ending} (hr : RdAt w B rb r vs vr) (hb : Below w.heap.size w w2) (h : RdLeft w2 B rb x e w3) : RdLeft w B rb x e w3 := by
  obtain ⟨vs', vr', he, hr3, hb3, hk3⟩ := h
  exact ⟨vs', vr', he, hr3, (hb.mono (by have := hr.1; have := (Array.getElem?_eq_some_iff.1 hr.2.1).1; omega)).trans hb3, (Keep.of_below hb).trans hk3⟩

/- what a line without fields, or with none that can be read, leaves -/
theorem spf_bound (l : List UInt8) : ∀ st : List (List UInt8) × List UInt8, (l.foldl stepF st).1.length + (l.foldl stepF st).2.length ≤ st.1.length + st.2.length + l.length ∧
    (∀ m, (∀ f ∈ st.1, f.length ≤ m) → st.2.length ≤ m → (∀ f ∈ (l.foldl stepF st).1, f.length ≤ m + l.length) ∧ (l.foldl stepF st).2.length ≤ m + l.length) := by
  induction l with
  | nil => intro st; exact ⟨by simp, fun m h1 h2 => ⟨by simpa using h1, by simpa using h2⟩⟩
  | cons x t ih =>
    intro st
    obtain ⟨a, b⟩ := ih (stepF st x)
    have hs : (stepF st x).1.length + (stepF st x).2.length ≤ st.1.length + st.2.length + 1 := by
      unfold stepF
      split
      · split
        · simp; omega
        · rename_i h
          have : st.2.length ≠ 0 := by simpa using h
          simp only [List.length_append, List.length_cons, List.length_nil]; omega
      · simp <;> omega
    refine ⟨by simp only [List.foldl_cons, List.length_cons]; omega, fun m h1 h2 => ?_⟩
    have key : (∀ f ∈ (stepF st x).1, f.length ≤ m + 1) ∧ (stepF st x).2.length ≤ m + 1 := by
      unfold stepF
      split
      · split
        · exact ⟨fun f hf => by have := h1 f hf; omega, by simp⟩
        · refine ⟨fun f hf => ?_, by simp⟩
          simp only [List.mem_append, List.mem_singleton] at hf
          rcases hf with hf | rfl
          · have := h1 f hf; omega
          · omega
      · exact ⟨fun f hf => by have := h1 f hf; omega, by simp; omega⟩
    have := b (m + 1) key.1 key.2
    simp only [List.foldl_cons, List.length_cons]
    exact ⟨fun f hf => by have := this.1 f hf; omega, by have := this.2; omega⟩
theorem flds_len_le (l : List UInt8) : ∀ f ∈ flds l, f.length ≤ l.length := by
  have h := (spf_bound l ([], [])).2 0 (by simp) (by simp)
  intro f hf
  unfold flds at hf
  split at hf
  · have := h.1 f hf; omega
  · simp only [List.mem_append, List.mem_singleton] at hf
    rcases hf with hf | rfl
    · have := h.1 f hf; omega
    · have := h.2; unfold spf; omega
theorem flds_count (l : List UInt8) : (flds l).length ≤ l.length := by
  have h := (spf_bound l ([], [])).1
  unfold flds spf
  split
  · simp at h; omega
  · rename_i hne
    have : (l.foldl stepF ([], [])).2.length ≠ 0 := by simpa [spf] using hne
    simp at h ⊢; omega

set_option maxRecDepth 100000 in
set_option maxHeartbeats 1000000 in
theorem rline_any (B rb : Nat) (s : ByteArray) (r : Rd) (vs vr : Value) (w : World) (hr : RdAt w B rb r vs vr) (hf : RdFine r) (hs : s.size ≤ 2000) :
    Calls Try.prog 22 #[.pointer (some ⟨rb, 0, none⟩), .string s] w (RdLeft w B rb (rdLine r s.data.toList)) := by
  cases hfl : flds s.data.toList with
  | nil =>
    have hx : rdLine r s.data.toList = (r, 0) := by simp [rdLine, hfl]
    have HX := hide hx
    clear hx
    have hcon := fields_any s w (by omega)
    rw [hfl] at hcon
    have HC := hide hcon
    clear hcon hfl
    go_enter Try.func22, Try.ntmps22
    go_wp2_with fail
    refine HC.out.mono ?_
    rintro e1 w1 ⟨v, rfl, hown, hbel⟩
    obtain ⟨ao, cap, rfl, _, _⟩ := own_val hown
    go_wp2
    go_ret
    exact rd_left_same hr hbel HX.out
  | cons f fs =>
    have hcon := fields_any s w (by omega)
    rw [hfl] at hcon
    have HC := hide hcon
    clear hcon
    have hlen := flds_count s.data.toList
    have hlf := flds_len_le s.data.toList
    rw [hfl] at hlen hlf
    have hn : fs.length ≤ 2000 := by simp at hlen; omega
    have HLF := hide hlf
    have hx : rdLine r s.data.toList = if fs.all numOk = true then rdVals r f (fs.map numV) else (r, 2) := by simp only [rdLine, hfl]
    have HX := hide hx
    clear hlen hlf hx hfl
    go_enter Try.func22, Try.ntmps22
    go_wp2_with fail
    refine HC.out.mono ?_
    rintro e1 w1 ⟨v, rfl, hown, hbel⟩
    obtain ⟨g, cap, cur, rfl, _, hg, hcap⟩ := own_shape hown (by simp)
    have hgl : g < w1.heap.size := (Array.getElem?_eq_some_iff.1 hg).1
    have hcell : w1.cell? ⟨g, 0, none⟩ = some (.string ⟨f.toArray⟩) := by rw [hown.cellAt 0 (by simp)]; rfl
    clear hg HC
    simp only [List.length_cons] at hcap
    have HO := hide hown
    have HB := hide hbel
    clear hown hbel
    have hcell' : ∀ i, i < fs.length → w1.cell? ⟨g, 1 + i, none⟩ = some (.string ⟨(fs.getD i []).toArray⟩) := by
      intro i hi
      rw [HO.out.cellAt (1 + i) (by simp; omega), Nat.add_comm 1 i]
      simp [strs, hi]
    have HC' := hide hcell'
    clear hcell'
    have hnum : ∀ (o c n : Nat), fs.length = n → (∀ t, t < n → w1.cell? ⟨g, o + t, none⟩ = some (.string ⟨(fs.getD t []).toArray⟩)) →
        Calls Try.prog 35 #[.slice (some ⟨g, o, none⟩) n c] w1 fun e w' => ∃ v, e = .returned (.tuple #[v, .bool (fs.all numOk)]) ∧ (fs.all numOk = true → w'.ownsRow w1.heap.size 3 1 v fs.length (ints (fs.map numV)) ∧ v ≠ .slice none 0 0) ∧ Below w1.heap.size w1 w' := by
      intro o c n hfn hcc
      subst hfn
      exact numbers_any g o c fs w1 (by omega) (fun l hl => by have := HLF.out l (by simp [hl]); simp at this; omega) hgl hcc
    have HN := hide hnum
    clear hnum
    cases hall : fs.all numOk
    · have HX' : Hid (rdLine r s.data.toList = (r, 2)) := by show _ = _; rw [HX.out, hall]; rfl
      rw [hall] at HN
      clear hall HX
      by_cases h1 : cap = 1
      · subst h1
        go_wp2_with fail
        refine (HN.out 0 _ 0 (by omega) (fun t ht => by omega)).mono ?_
        rintro e2 w2 ⟨v2, rfl, _, hb2⟩
        go_wp2
        go_ret
        exact rd_left_same hr (HB.out.trans (hb2.mono HB.out.size)) HX'.out
      · go_wp2_with fail
        refine (HN.out 1 _ _ rfl HC'.out).mono ?_
        rintro e2 w2 ⟨v2, rfl, _, hb2⟩
        go_wp2
        go_ret
        exact rd_left_same hr (HB.out.trans (hb2.mono HB.out.size)) HX'.out
    · have HX' : Hid (rdLine r s.data.toList = rdVals r f (fs.map numV)) := by show _ = _; rw [HX.out, hall]; rfl
      rw [hall] at HN
      clear hall HX
      by_cases h1 : cap = 1
      · subst h1
        go_wp2_with fail
        refine (HN.out 0 _ 0 (by omega) (fun t ht => by omega)).mono ?_
        rintro e2 w2 ⟨v2, rfl, hok2, hb2⟩
        have HO2 := hide (hok2 trivial)
        clear hok2
        obtain ⟨ao2, cap2, rfl, _, _⟩ := own_val HO2.out.1
        have hcell2 : w2.cell? ⟨g, 0, none⟩ = some (.string ⟨f.toArray⟩) := (hb2.cell (by exact hgl)).trans hcell
        have HR2 := hide (rd_same hr (HB.out.trans (hb2.mono HB.out.size)))
        have HB2 := hide (HB.out.trans (hb2.mono HB.out.size))
        clear hb2 hcell
        by_cases f1 : f = [68]
        · have e1 : (f == [68]) = true := by rw [f1]; rfl
          have HF := hide f1
          clear f1
          go_wp2_with fail
          refine (depot_all B rb _ r vs vr _ (fs.map numV) _ _ HR2.out (by simp) HO2.out.1 HO2.out.2).mono ?_
          rintro e3 w3 ⟨vs', vr', rfl, hr3, hb3, hk3⟩
          go_wp2
          go_ret
          rw [HX'.out, HF.out]
          exact left_trans hr HB2.out ⟨vs', vr', rfl, hr3, hb3, hk3⟩
        · have e1 : (f == [68]) = false := beq_eq_false_iff_ne.2 f1
          have HF1 := hide f1
          clear f1
          by_cases f2 : f = [83]
          · have e2 : (f == [83]) = true := by rw [f2]; rfl
            have HF := hide f2
            clear f2
            go_wp2_with fail
            refine (stop_all B rb _ r vs vr _ (fs.map numV) _ _ HR2.out hf (by simp) HO2.out.1 HO2.out.2).mono ?_
            rintro e3 w3 ⟨vs', vr', rfl, hr3, hb3, hk3⟩
            go_wp2
            go_ret
            rw [HX'.out, HF.out]
            exact left_trans hr HB2.out ⟨vs', vr', rfl, hr3, hb3, hk3⟩
          · have e2 : (f == [83]) = false := beq_eq_false_iff_ne.2 f2
            have HF2 := hide f2
            clear f2
            by_cases f3 : f = [82]
            · have e3 : (f == [82]) = true := by rw [f3]; rfl
              have HF := hide f3
              clear f3
              go_wp2_with fail
              refine (road_all B rb _ r vs vr _ (fs.map numV) _ _ HR2.out hf (by simp) HO2.out.1 HO2.out.2).mono ?_
              rintro e3 w3 ⟨vs', vr', rfl, hr3, hb3, hk3⟩
              go_wp2
              go_ret
              rw [HX'.out, HF.out]
              exact left_trans hr HB2.out ⟨vs', vr', rfl, hr3, hb3, hk3⟩
            · have e3 : (f == [82]) = false := beq_eq_false_iff_ne.2 f3
              have HF3 := hide f3
              clear f3
              go_wp2
              go_ret
              exact rd_left_same hr HB2.out (by rw [HX'.out]; unfold rdVals; rw [if_neg HF1.out, if_neg HF2.out, if_neg HF3.out])
      · go_wp2_with fail
        refine (HN.out 1 _ _ rfl HC'.out).mono ?_
        rintro e2 w2 ⟨v2, rfl, hok2, hb2⟩
        have HO2 := hide (hok2 trivial)
        clear hok2
        obtain ⟨ao2, cap2, rfl, _, _⟩ := own_val HO2.out.1
        have hcell2 : w2.cell? ⟨g, 0, none⟩ = some (.string ⟨f.toArray⟩) := (hb2.cell (by exact hgl)).trans hcell
        have HR2 := hide (rd_same hr (HB.out.trans (hb2.mono HB.out.size)))
        have HB2 := hide (HB.out.trans (hb2.mono HB.out.size))
        clear hb2 hcell
        by_cases f1 : f = [68]
        · have e1 : (f == [68]) = true := by rw [f1]; rfl
          have HF := hide f1
          clear f1
          go_wp2_with fail
          refine (depot_all B rb _ r vs vr _ (fs.map numV) _ _ HR2.out (by simp) HO2.out.1 HO2.out.2).mono ?_
          rintro e3 w3 ⟨vs', vr', rfl, hr3, hb3, hk3⟩
          go_wp2
          go_ret
          rw [HX'.out, HF.out]
          exact left_trans hr HB2.out ⟨vs', vr', rfl, hr3, hb3, hk3⟩
        · have e1 : (f == [68]) = false := beq_eq_false_iff_ne.2 f1
          have HF1 := hide f1
          clear f1
          by_cases f2 : f = [83]
          · have e2 : (f == [83]) = true := by rw [f2]; rfl
            have HF := hide f2
            clear f2
            go_wp2_with fail
            refine (stop_all B rb _ r vs vr _ (fs.map numV) _ _ HR2.out hf (by simp) HO2.out.1 HO2.out.2).mono ?_
            rintro e3 w3 ⟨vs', vr', rfl, hr3, hb3, hk3⟩
            go_wp2
            go_ret
            rw [HX'.out, HF.out]
            exact left_trans hr HB2.out ⟨vs', vr', rfl, hr3, hb3, hk3⟩
          · have e2 : (f == [83]) = false := beq_eq_false_iff_ne.2 f2
            have HF2 := hide f2
            clear f2
            by_cases f3 : f = [82]
            · have e3 : (f == [82]) = true := by rw [f3]; rfl
              have HF := hide f3
              clear f3
              go_wp2_with fail
              refine (road_all B rb _ r vs vr _ (fs.map numV) _ _ HR2.out hf (by simp) HO2.out.1 HO2.out.2).mono ?_
              rintro e3 w3 ⟨vs', vr', rfl, hr3, hb3, hk3⟩
              go_wp2
              go_ret
              rw [HX'.out, HF.out]
              exact left_trans hr HB2.out ⟨vs', vr', rfl, hr3, hb3, hk3⟩
            · have e3 : (f == [82]) = false := beq_eq_false_iff_ne.2 f3
              have HF3 := hide f3
              clear f3
              go_wp2
              go_ret
              exact rd_left_same hr HB2.out (by rw [HX'.out]; unfold rdVals; rw [if_neg HF1.out, if_neg HF2.out, if_neg HF3.out])
end Go.Proofs.Ytebinaopncclgab
