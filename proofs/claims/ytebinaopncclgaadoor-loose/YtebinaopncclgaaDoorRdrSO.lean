/- Walks: the reader refuses a stop. -/
import Derived.Test.YtebinaopncclgaaDoorRdrS
namespace Go.Proofs.YtebinaopncclgaaDoor
open Go.RowKit Go.IntWalk

set_option maxRecDepth 100000 in
set_option maxHeartbeats 1000000 in
theorem stop_out (B rb g cap : Nat) (r : Rd) (vs vr : Value) (a b c d e : Int) (w : World) (hr : RdAt w B rb r vs vr) (hh : r.head = true) (hlen : r.stops.length < 7) (hok : stopOk a b c d e r.nodes = false)
    (hg : g < w.heap.size) (h0 : w.cell? ⟨g, 0, none⟩ = some (.int .i64 a)) (h1 : w.cell? ⟨g, 1, none⟩ = some (.int .i64 b)) (h2 : w.cell? ⟨g, 2, none⟩ = some (.int .i64 c)) (h3 : w.cell? ⟨g, 3, none⟩ = some (.int .i64 d)) (h4 : w.cell? ⟨g, 4, none⟩ = some (.int .i64 e)) :
    Calls Tryd.prog 21 #[.pointer (some ⟨rb, 0, none⟩), .slice (some ⟨g, 0, none⟩) 5 cap] w (RdLeft w B rb (rdStop r a b c d e)) := by
  obtain ⟨c0, c1, c2, c3, c4, c5, c6, c7, hfz, hrl⟩ := rd_cells hr
  obtain ⟨aos, caps, rfl, _, _⟩ := own_val hr.2.2.1
  rw [hh] at c7
  clear c0 c1 c2 c4 c6
  go_enter Tryd.func21, Tryd.ntmps21
  go_wp2
  go_region
  go_wp2_with fail
  go_region_with (go_at_call 24; refine (stopFits_any _ _ _ _ _ _ _).mono ?_; rintro e1 w1 ⟨rfl, hb1⟩)
  all_goals
    obtain ⟨hw1, hz, hbox⟩ := box_facts (w := w) (cs := #[.int .i64 a, .int .i64 b, .int .i64 c, .int .i64 d, .int .i64 e]) (t := 37) hb1 rfl rfl rfl rfl
    clear hb1 hbox
    have HW := hide hw1
    clear hw1
    go_wp2
    go_ret
    exact rd_left_same hr HW.out (by unfold rdStop; rw [if_neg (by simp [hh]), if_neg (by omega), if_neg (by simp [hok])])

set_option maxRecDepth 100000 in
set_option maxHeartbeats 1000000 in
theorem stop_many (B rb cap : Nat) (ao : Option Addr) (r : Rd) (vs vr : Value) (x : Rd × Int) (w : World) (hr : RdAt w B rb r vs vr) (hh : r.head = true) (hlen : 7 ≤ r.stops.length) (hlm : r.stops.length ≤ 1000000) (hx : x = (r, 3)) :
    Calls Tryd.prog 21 #[.pointer (some ⟨rb, 0, none⟩), .slice ao 5 cap] w (RdLeft w B rb x) := by
  obtain ⟨c0, c1, c2, c3, c4, c5, c6, c7, hfz, hrl⟩ := rd_cells hr
  obtain ⟨aos, caps, rfl, _, _⟩ := own_val hr.2.2.1
  rw [hh] at c7
  clear c0 c1 c2 c4 c6
  go_enter Tryd.func21, Tryd.ntmps21
  go_wp2
  go_ret
  exact rd_left_same hr (Below.refl _ _) hx

set_option maxRecDepth 100000 in
set_option maxHeartbeats 1000000 in
theorem stop_bad (B rb n cap : Nat) (ao : Option Addr) (r : Rd) (vs vr : Value) (x : Rd × Int) (w : World) (hr : RdAt w B rb r vs vr) (hx : x = (r, 2)) (hbad : r.head = false ∨ n ≠ 5) :
    Calls Tryd.prog 21 #[.pointer (some ⟨rb, 0, none⟩), .slice ao n cap] w (RdLeft w B rb x) := by
  obtain ⟨c0, c1, c2, c3, c4, c5, c6, c7, hfz, hrl⟩ := rd_cells hr
  clear c0 c1 c2 c3 c4 c5 c6
  cases hh : r.head
  · rw [hh] at c7
    go_enter Tryd.func21, Tryd.ntmps21
    go_wp2
    go_ret
    exact rd_left_same hr (Below.refl _ _) hx
  · rw [hh] at c7
    have hn : ((n : Int) != 5) = true := by
      rw [bne_iff_ne]; rcases hbad with h | h
      · rw [hh] at h; cases h
      · omega
    go_enter Tryd.func21, Tryd.ntmps21
    go_wp2
    go_ret
    exact rd_left_same hr (Below.refl _ _) hx
end Go.Proofs.YtebinaopncclgaaDoor
