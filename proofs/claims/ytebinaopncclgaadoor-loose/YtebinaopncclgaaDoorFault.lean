/- Walks: does an instance's every number fit? (of one that may be) -/
import Derived.Test.YtebinaopncclgaaDoorBent
import Derived.Test.YtebinaopncclgaaDoorTextG
import Derived.Deep.RegionHeld3
namespace Go.Proofs.YtebinaopncclgaaDoor
open Go.RowKit Go.IntWalk

set_option maxRecDepth 100000 in
set_option maxHeartbeats 2000000 in
theorem fault_ok (B B' : Nat) (r : Rd) (vs vr : Value) (w : World) (hn : RdOk r) (hs : w.ownsRow B 37 5 vs r.stops.length (ints r.stops.flatten)) (hr : w.ownsRow B' 39 3 vr r.roads.length (ints r.roads.flatten)) :
    Calls Tryd.prog 16 #[inst r vs vr] w fun e w' => e = .returned (.int .i64 0) ∧ Below w.heap.size w w' := by
  have hns := hn.nstops
  have hnr := hn.nroads
  have hhd := hn.head
  obtain ⟨aos, caps, rfl, has, hsn⟩ := own_val hs
  obtain ⟨aor, capr, rfl, har, hrn⟩ := own_val hr
  have HS := hide hs
  have HR := hide hr
  have HN := hide hn
  have HAS := hide has
  have HAR := hide har
  have HSN := hide hsn
  have HRN := hide hrn
  clear hs hr hn has hsn har hrn
  unfold inst
  go_enter Tryd.func16, Tryd.ntmps16
  go_wp2_with fail
  refine (headFits_any _ _ _ _ _ _ _ _).mono ?_
  rintro e1 w1 ⟨rfl, hb1⟩
  rw [hhd]
  obtain ⟨hw1, hz1, hbox⟩ := box_facts (w := w) hb1 rfl rfl rfl rfl
  have HW1 := hide hw1
  have HBX : Hid (w1.cell? ⟨w.heap.size, 3, none⟩ = some (.int .i64 r.nodes) ∧ w1.cell? ⟨w.heap.size, 5, none⟩ = some (.slice aos r.stops.length caps) ∧ w1.cell? ⟨w.heap.size, 6, none⟩ = some (.slice aor r.roads.length capr)) := ⟨hbox 3, hbox 5, hbox 6⟩
  clear hw1 hb1 hbox hhd
  go_wp2_with fail
  go_loopw [3] (fun i wr => ∃ k : Nat, i = .int .i64 k ∧ k ≤ r.stops.length ∧ Hid (Below w1.heap.size w1 wr)) (fun i _ => r.stops.length - (intOf i).toNat)
  case atStart => exact ⟨0, rfl, by omega, Below.refl _ _⟩
  case round =>
    obtain ⟨k, rfl, hk, HB⟩ := hrel
    have hbs := HB.out.size
    have d3 : wr.cell? ⟨w.heap.size, 3, none⟩ = some (.int .i64 r.nodes) := (HB.out.cell (by exact hz1)).trans HBX.out.1
    have d5 : wr.cell? ⟨w.heap.size, 5, none⟩ = some (.slice aos r.stops.length caps) := (HB.out.cell (by exact hz1)).trans HBX.out.2.1
    by_cases hlt : k < r.stops.length
    · obtain ⟨g, rfl, hgl⟩ := some_of HAS.out HSN.out (by omega)
      obtain ⟨a, b, c, d, e, hab, hok⟩ := HN.out.stops _ (List.getElem_mem hlt)
      have hcl : ∀ j z, j < 5 → r.stops[k][j]? = some z → wr.cell? ⟨g, k * 5 + j, none⟩ = some (.int .i64 z) := by
        intro j z hj hz
        rw [HB.out.cell (p := ⟨g, k * 5 + j, none⟩) (by show g < _; omega), HW1.out.cell (by exact hgl), HS.out.cellAt (k * 5 + j) (by omega)]
        exact flat_ints (fun s hs => (HN.out.nice.stops s hs).1) hlt hj hz
      rw [hab] at hcl
      have x0 : wr.cell? ⟨g, k * 5, none⟩ = some (.int .i64 a) := hcl 0 a (by omega) rfl
      have x1 : wr.cell? ⟨g, k * 5 + 1, none⟩ = some (.int .i64 b) := hcl 1 b (by omega) rfl
      have x2 : wr.cell? ⟨g, k * 5 + 2, none⟩ = some (.int .i64 c) := hcl 2 c (by omega) rfl
      have x3 : wr.cell? ⟨g, k * 5 + 3, none⟩ = some (.int .i64 d) := hcl 3 d (by omega) rfl
      have x4 : wr.cell? ⟨g, k * 5 + 4, none⟩ = some (.int .i64 e) := hcl 4 e (by omega) rfl
      clear hcl hab
      have ik : (0 : Int) ≤ (k : Int) := by omega
      have jk : (k : Int) < (r.stops.length : Int) := by omega
      have hgw : g < wr.heap.size := by omega
      have hxw : w.heap.size < wr.heap.size := by omega
      go_wp2_with fail
      go_region_held3 (fun w' => w'.cell? ⟨w.heap.size, 3, none⟩ = some (.int .i64 r.nodes) ∧ w'.cell? ⟨w.heap.size, 5, none⟩ = some (.slice (some ⟨g, 0, none⟩) r.stops.length caps) ∧ w'.cell? ⟨g, k * 5, none⟩ = some (.int .i64 a) ∧ w'.cell? ⟨g, k * 5 + 1, none⟩ = some (.int .i64 b) ∧ w'.cell? ⟨g, k * 5 + 2, none⟩ = some (.int .i64 c) ∧ w'.cell? ⟨g, k * 5 + 3, none⟩ = some (.int .i64 d) ∧ w'.cell? ⟨g, k * 5 + 4, none⟩ = some (.int .i64 e)) (go_keep)
        (first
          | (go_at_call 24; refine (stopFits_any _ _ _ _ _ _ _).mono ?_; rintro e2 w2 ⟨rfl, hb2⟩; have hw2 : Below wr.heap.size wr w2 := ⟨hb2.os, hb2.tape, hb2.output, hb2.size, hb2.block⟩; have k3 := (hw2.cell (p := ⟨w.heap.size, 3, none⟩) (by exact hxw)).trans d3; have k5 := (hw2.cell (p := ⟨w.heap.size, 5, none⟩) (by exact hxw)).trans d5; have m0 := (hw2.cell (p := ⟨g, k * 5, none⟩) (by exact hgw)).trans x0; have m1 := (hw2.cell (p := ⟨g, k * 5 + 1, none⟩) (by exact hgw)).trans x1; have m2 := (hw2.cell (p := ⟨g, k * 5 + 2, none⟩) (by exact hgw)).trans x2; have m3 := (hw2.cell (p := ⟨g, k * 5 + 3, none⟩) (by exact hgw)).trans x3; have m4 := (hw2.cell (p := ⟨g, k * 5 + 4, none⟩) (by exact hgw)).trans x4; have HW2 := hide hw2; clear hw2 hb2))
      clear x0 x1 x2 x3 x4 k3 k5 m0 m1 m2 m3 m4 d3 d5
      go_wp2
      go_roundw
      case rel => exact ⟨k + 1, by go_num, by omega, HB.out.trans (HW2.out.mono hbs)⟩
      case measure => simp [intOf]; omega
    · go_wp2_with fail
      go_loopw [4] (fun i wx => ∃ p : Nat, i = .int .i64 p ∧ p ≤ r.roads.length ∧ Hid (Below w1.heap.size w1 wx)) (fun i _ => r.roads.length - (intOf i).toNat)
      case atStart => exact ⟨0, rfl, by omega, HB⟩
      case round =>
        clear HB hbs d3 d5
        obtain ⟨p, rfl, hp, HB⟩ := hrel
        have hbs := HB.out.size
        have d3 : wr.cell? ⟨w.heap.size, 3, none⟩ = some (.int .i64 r.nodes) := (HB.out.cell (by exact hz1)).trans HBX.out.1
        have d6 : wr.cell? ⟨w.heap.size, 6, none⟩ = some (.slice aor r.roads.length capr) := (HB.out.cell (by exact hz1)).trans HBX.out.2.2
        by_cases hlp : p < r.roads.length
        · obtain ⟨g, rfl, hgl⟩ := some_of HAR.out HRN.out (by omega)
          obtain ⟨a, b, c, hab, hok⟩ := HN.out.roads _ (List.getElem_mem hlp)
          have hcl : ∀ j z, j < 3 → r.roads[p][j]? = some z → wr.cell? ⟨g, p * 3 + j, none⟩ = some (.int .i64 z) := by
            intro j z hj hz
            rw [HB.out.cell (p := ⟨g, p * 3 + j, none⟩) (by show g < _; omega), HW1.out.cell (by exact hgl), HR.out.cellAt (p * 3 + j) (by omega)]
            exact flat_ints (fun s hs => (HN.out.nice.roads s hs).1) hlp hj hz
          rw [hab] at hcl
          have x0 : wr.cell? ⟨g, p * 3, none⟩ = some (.int .i64 a) := hcl 0 a (by omega) rfl
          have x1 : wr.cell? ⟨g, p * 3 + 1, none⟩ = some (.int .i64 b) := hcl 1 b (by omega) rfl
          have x2 : wr.cell? ⟨g, p * 3 + 2, none⟩ = some (.int .i64 c) := hcl 2 c (by omega) rfl
          clear hcl hab
          have ik : (0 : Int) ≤ (p : Int) := by omega
          have jk : (p : Int) < (r.roads.length : Int) := by omega
          have hgw : g < wr.heap.size := by omega
          have hxw : w.heap.size < wr.heap.size := by omega
          go_wp2_with fail
          go_region_held3 (fun w' => w'.cell? ⟨w.heap.size, 3, none⟩ = some (.int .i64 r.nodes) ∧ w'.cell? ⟨w.heap.size, 6, none⟩ = some (.slice (some ⟨g, 0, none⟩) r.roads.length capr) ∧ w'.cell? ⟨g, p * 3, none⟩ = some (.int .i64 a) ∧ w'.cell? ⟨g, p * 3 + 1, none⟩ = some (.int .i64 b) ∧ w'.cell? ⟨g, p * 3 + 2, none⟩ = some (.int .i64 c)) (go_keep)
            (first
              | (go_at_call 25; refine (roadFits_any _ _ _ _ _).mono ?_; rintro e2 w2 ⟨rfl, hb2⟩; have hw2 : Below wr.heap.size wr w2 := ⟨hb2.os, hb2.tape, hb2.output, hb2.size, hb2.block⟩; have k3 := (hw2.cell (p := ⟨w.heap.size, 3, none⟩) (by exact hxw)).trans d3; have k6 := (hw2.cell (p := ⟨w.heap.size, 6, none⟩) (by exact hxw)).trans d6; have m0 := (hw2.cell (p := ⟨g, p * 3, none⟩) (by exact hgw)).trans x0; have m1 := (hw2.cell (p := ⟨g, p * 3 + 1, none⟩) (by exact hgw)).trans x1; have m2 := (hw2.cell (p := ⟨g, p * 3 + 2, none⟩) (by exact hgw)).trans x2; have HW2 := hide hw2; clear hw2 hb2))
          clear x0 x1 x2 k3 k6 m0 m1 m2 d3 d6
          go_wp2
          go_roundw
          case rel => exact ⟨p + 1, by go_num, by omega, HB.out.trans (HW2.out.mono hbs)⟩
          case measure => simp [intOf]; omega
        · go_wp2
          go_ret
          exact ⟨rfl, HW1.out.trans (HB.out.mono (by omega))⟩
end Go.Proofs.YtebinaopncclgaaDoor
