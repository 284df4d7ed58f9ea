/- Walks: the reader refuses a road. -/
import Derived.Test.YtebinaopncclgaaDoorRdrS
namespace Go.Proofs.YtebinaopncclgaaDoor
open Go.RowKit Go.IntWalk

set_option maxRecDepth 100000 in
set_option maxHeartbeats 1000000 in
theorem road_out (B rb g cap : Nat) (r : Rd) (vs vr : Value) (a b c : Int) (w : World) (hr : RdAt w B rb r vs vr) (hh : r.head = true) (hlen : r.roads.length < 40) (hok : roadOk a b c r.nodes = false)
    (hg : g < w.heap.size) (h0 : w.cell? ⟨g, 0, none⟩ = some (.int .i64 a)) (h1 : w.cell? ⟨g, 1, none⟩ = some (.int .i64 b)) (h2 : w.cell? ⟨g, 2, none⟩ = some (.int .i64 c)) :
    Calls Tryd.prog 22 #[.pointer (some ⟨rb, 0, none⟩), .slice (some ⟨g, 0, none⟩) 3 cap] w (RdLeft w B rb (rdRoad r a b c)) := by
  obtain ⟨c0, c1, c2, c3, c4, c5, c6, c7, hfz, hrl⟩ := rd_cells hr
  obtain ⟨aos, caps, rfl, _, _⟩ := own_val hr.2.2.2
  rw [hh] at c7
  clear c0 c1 c2 c4 c5
  go_enter Tryd.func22, Tryd.ntmps22
  go_wp2
  go_region
  go_wp2_with fail
  go_region_with (go_at_call 25; refine (roadFits_any _ _ _ _ _).mono ?_; rintro e1 w1 ⟨rfl, hb1⟩)
  all_goals
    obtain ⟨hw1, hz, hbox⟩ := box_facts (w := w) (cs := #[.int .i64 a, .int .i64 b, .int .i64 c]) (t := 39) hb1 rfl rfl rfl rfl
    clear hb1 hbox
    have HW := hide hw1
    clear hw1
    go_wp2
    go_ret
    exact rd_left_same hr HW.out (by unfold rdRoad; rw [if_neg (by simp [hh]), if_neg (by omega), if_neg (by simp [hok])])

set_option maxRecDepth 100000 in
set_option maxHeartbeats 1000000 in
theorem road_many (B rb cap : Nat) (ao : Option Addr) (r : Rd) (vs vr : Value) (x : Rd × Int) (w : World) (hr : RdAt w B rb r vs vr) (hh : r.head = true) (hlen : 40 ≤ r.roads.length) (hlm : r.roads.length ≤ 1000000) (hx : x = (r, 3)) :
    Calls Tryd.prog 22 #[.pointer (some ⟨rb, 0, none⟩), .slice ao 3 cap] w (RdLeft w B rb x) := by
  obtain ⟨c0, c1, c2, c3, c4, c5, c6, c7, hfz, hrl⟩ := rd_cells hr
  obtain ⟨aos, caps, rfl, _, _⟩ := own_val hr.2.2.2
  rw [hh] at c7
  clear c0 c1 c2 c4 c5
  go_enter Tryd.func22, Tryd.ntmps22
  go_wp2
  go_ret
  exact rd_left_same hr (Below.refl _ _) hx

set_option maxRecDepth 100000 in
set_option maxHeartbeats 1000000 in
theorem road_bad (B rb n cap : Nat) (ao : Option Addr) (r : Rd) (vs vr : Value) (x : Rd × Int) (w : World) (hr : RdAt w B rb r vs vr) (hx : x = (r, 2)) (hbad : r.head = false ∨ n ≠ 3) :
    Calls Tryd.prog 22 #[.pointer (some ⟨rb, 0, none⟩), .slice ao n cap] w (RdLeft w B rb x) := by
  obtain ⟨c0, c1, c2, c3, c4, c5, c6, c7, hfz, hrl⟩ := rd_cells hr
  clear c0 c1 c2 c3 c4 c5 c6
  cases hh : r.head
  · rw [hh] at c7
    go_enter Tryd.func22, Tryd.ntmps22
    go_wp2
    go_ret
    exact rd_left_same hr (Below.refl _ _) hx
  · rw [hh] at c7
    have hn : ((n : Int) != 3) = true := by
      rw [bne_iff_ne]; rcases hbad with h | h
      · rw [hh] at h; cases h
      · omega
    go_enter Tryd.func22, Tryd.ntmps22
    go_wp2
    go_ret
    exact rd_left_same hr (Below.refl _ _) hx
end Go.Proofs.YtebinaopncclgaaDoor
