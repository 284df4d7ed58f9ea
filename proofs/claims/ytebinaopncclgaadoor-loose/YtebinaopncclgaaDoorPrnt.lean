/- Walks: an instance is printed, whole. -/
import Derived.Test.YtebinaopncclgaaDoorPrn
namespace Go.Proofs.YtebinaopncclgaaDoor
open Go.RowKit Go.IntWalk

set_option maxRecDepth 100000 in
set_option maxHeartbeats 4000000 in
theorem iprint_ok (Z B B' : Nat) (r : Rd) (vs vr : Value) (w : World) (hT : Tab Z w) (hZ : Z ≤ w.heap.size) (hok : RdOk r) (hs : w.ownsRow B 37 5 vs r.stops.length (ints r.stops.flatten)) (hr : w.ownsRow B' 39 3 vr r.roads.length (ints r.roads.flatten)) :
    Calls Tryd.prog 12 #[inst r vs vr] w fun e w' => e = .returned (.tuple #[.string ⟨(textL r).toArray⟩, .int .i64 0]) ∧ Below w.heap.size w w' := by
  have hn := hok.nice
  have hns := hn.nstops
  have hnr := hn.nroads
  have hfa := fault_ok B B' r vs vr (w.alloc (.cells #[.int .i64 r.vans, .int .i64 r.load, .int .i64 r.close, .int .i64 r.nodes, .int .i64 r.home, vs, vr] 25)) hok (own_below hs (below1 _ _)) (own_below hr (below1 _ _))
  obtain ⟨aos, caps, rfl, has, hsn⟩ := own_val hs
  obtain ⟨aor, capr, rfl, har, hrn⟩ := own_val hr
  have HS := hide hs
  have HR := hide hr
  have HN := hide hn
  have HAS := hide has
  have HAR := hide har
  have HSN := hide hsn
  have HRN := hide hrn
  have HFA := hide hfa
  have HTB := hide hT
  clear hs hr hn has hsn har hrn hfa hok hT
  unfold inst
  go_enter Tryd.func12, Tryd.ntmps12
  go_wp2_with fail
  refine HFA.out.mono ?_
  rintro e0 w0 ⟨rfl, hb0⟩
  obtain ⟨hw0, hz0, hbox⟩ := box_facts (w := w) hb0 rfl rfl rfl rfl
  have c0 : w0.cell? ⟨w.heap.size, 0, none⟩ = some (.int .i64 r.vans) := hbox 0
  have c1 : w0.cell? ⟨w.heap.size, 1, none⟩ = some (.int .i64 r.load) := hbox 1
  have c2 : w0.cell? ⟨w.heap.size, 2, none⟩ = some (.int .i64 r.close) := hbox 2
  have c3 : w0.cell? ⟨w.heap.size, 3, none⟩ = some (.int .i64 r.nodes) := hbox 3
  have c4 : w0.cell? ⟨w.heap.size, 4, none⟩ = some (.int .i64 r.home) := hbox 4
  have HB5 : Hid (w0.cell? ⟨w.heap.size, 5, none⟩ = some (.slice aos r.stops.length caps)) := hbox 5
  have HB6 : Hid (w0.cell? ⟨w.heap.size, 6, none⟩ = some (.slice aor r.roads.length capr)) := hbox 6
  have HW0 := hide hw0
  have HT0 : Hid (Tab Z w0) := Tab.on HTB.out hw0 hZ
  clear hb0 hbox hw0 HFA
  have hZ0 : Z ≤ w0.heap.size := by omega
  go_wp2_with fail
  refine (lineOf_any Z _ 5 _ [68] [r.vans, r.load, r.close, r.nodes, r.home] _ (by exact Tab.on HT0.out (below1 _ _) hZ0) (by simp; omega) rfl (by omega) (by simp) (by simp) HN.out.nums (cells5 (by simp [go_sem]) (by simp [go_sem]) (by simp [go_sem]) (by simp [go_sem]) (by simp [go_sem]))).mono ?_
  rintro e1 w1 ⟨rfl, hb1⟩
  have HBW : Hid (Below w0.heap.size w0 w1) := (below1 w0 _).trans (hb1.mono (by simp))
  have hL' : (lineL [68] [r.vans, r.load, r.close, r.nodes, r.home]).length ≤ 100 := by have := lineL_length [68] [r.vans, r.load, r.close, r.nodes, r.home]; simp at this; omega
  clear hb1 c0 c1 c2 c3 c4
  go_wp2_with fail
  go_loopw [5, 6] (fun s i wr => ∃ (k : Nat) (t : List UInt8), i = .int .i64 k ∧ s = .string ⟨t.toArray⟩ ∧ k ≤ r.stops.length ∧ t.length ≤ 100 + 50 * k ∧ Hid (t = headL r ++ stopsL (r.stops.take k)) ∧ Hid (Below w0.heap.size w0 wr)) (fun _ i _ => r.stops.length - (intOf i).toNat)
  case atStart => exact ⟨0, _, rfl, rfl, by omega, by omega, by show _ = _; simp [stopsL, headL], HBW⟩
  case round =>
    clear HBW
    obtain ⟨k, t, rfl, rfl, hk, ht, HT, HBW⟩ := hrel
    have d5 : wr.cell? ⟨w.heap.size, 5, none⟩ = some (.slice aos r.stops.length caps) := (HBW.out.cell (by exact hz0)).trans HB5.out
    have hsz : w0.heap.size ≤ wr.heap.size := HBW.out.size
    have HW : Hid (Below w.heap.size w wr) := HW0.out.trans (HBW.out.mono (by omega))
    have HTW : Hid (Tab Z wr) := Tab.on HTB.out HW.out hZ
    by_cases hlt : k < r.stops.length
    · obtain ⟨g, rfl, hgl⟩ := some_of HAS.out HSN.out (by omega)
      obtain ⟨a, b, c, d, e, hab⟩ := five (HN.out.stops _ (List.getElem_mem hlt)).1
      have hsm := (HN.out.stops _ (List.getElem_mem hlt)).2
      have hcl : ∀ j z, j < 5 → r.stops[k][j]? = some z → wr.cell? ⟨g, k * 5 + j, none⟩ = some (.int .i64 z) := by
        intro j z hj hz
        rw [HW.out.cell (by exact hgl), HS.out.cellAt (k * 5 + j) (by omega)]
        exact flat_ints (fun s hs => (HN.out.stops s hs).1) hlt hj hz
      have HT' := stopsL_snoc hlt
      rw [hab] at hsm hcl HT'
      clear hab
      have x0 : wr.cell? ⟨g, k * 5, none⟩ = some (.int .i64 a) := hcl 0 a (by omega) rfl
      have x1 : wr.cell? ⟨g, k * 5 + 1, none⟩ = some (.int .i64 b) := hcl 1 b (by omega) rfl
      have x2 : wr.cell? ⟨g, k * 5 + 2, none⟩ = some (.int .i64 c) := hcl 2 c (by omega) rfl
      have x3 : wr.cell? ⟨g, k * 5 + 3, none⟩ = some (.int .i64 d) := hcl 3 d (by omega) rfl
      have x4 : wr.cell? ⟨g, k * 5 + 4, none⟩ = some (.int .i64 e) := hcl 4 e (by omega) rfl
      have HSM := hide hsm
      have HT2 := hide HT'
      clear hcl hsm HT'
      go_wp2_with fail
      refine (lineOf_any Z _ 5 _ [83] [a, b, c, d, e] _ (by exact Tab.on HTW.out (below2 _ _ _) (by omega)) (by simp; omega) rfl (by omega) (by simp) (by simp) HSM.out (cells5 (by simp [go_sem]) (by simp [go_sem]) (by simp [go_sem]) (by simp [go_sem]) (by simp [go_sem]))).mono ?_
      rintro e2 w2 ⟨rfl, hb2⟩
      have hll : (lineL [83] [a, b, c, d, e]).length ≤ 50 := by have := lineL_length [83] [a, b, c, d, e]; simp at this; omega
      have HW2 : Hid (Below wr.heap.size wr w2) := (below2 wr _ _).trans (hb2.mono (by simp; omega))
      clear hb2 x0 x1 x2 x3 x4 d5
      go_wp2
      go_roundw
      case rel =>
        refine ⟨k + 1, t ++ lineL [83] [a, b, c, d, e], by go_num, ?_, by omega, ?_, ?_, ?_⟩
        · rw [← ba_append]
        · simp; omega
        · show _ = _; rw [HT.out, HT2.out]; simp
        · exact HBW.out.trans (HW2.out.mono (by omega))
      case measure => simp [intOf]; omega
    · have hke : k = r.stops.length := by omega
      subst hke
      have HT' : Hid (t = headL r ++ stopsL r.stops) := by show _ = _; rw [HT.out, List.take_length]
      clear HT
      go_wp2_with fail
      go_loopw [5, 8] (fun s i wx => ∃ (k : Nat) (q : List UInt8), i = .int .i64 k ∧ s = .string ⟨q.toArray⟩ ∧ k ≤ r.roads.length ∧ q.length ≤ 500 + 50 * k ∧ Hid (q = t ++ roadsL (r.roads.take k)) ∧ Hid (Below w0.heap.size w0 wx)) (fun _ i _ => r.roads.length - (intOf i).toNat)
      case atStart => exact ⟨0, t, rfl, rfl, by omega, by omega, by show _ = _; simp [roadsL], HBW⟩
      case round =>
        clear HW HBW d5 hsz HTW
        obtain ⟨k, q, rfl, rfl, hk, hq, HQ, HBW⟩ := hrel
        have d6 : wr.cell? ⟨w.heap.size, 6, none⟩ = some (.slice aor r.roads.length capr) := (HBW.out.cell (by exact hz0)).trans HB6.out
        have hsz : w0.heap.size ≤ wr.heap.size := HBW.out.size
        have HW : Hid (Below w.heap.size w wr) := HW0.out.trans (HBW.out.mono (by omega))
        have HTW : Hid (Tab Z wr) := Tab.on HTB.out HW.out hZ
        by_cases hlt : k < r.roads.length
        · obtain ⟨g, rfl, hgl⟩ := some_of HAR.out HRN.out (by omega)
          obtain ⟨a, b, c, hab⟩ := three (HN.out.roads _ (List.getElem_mem hlt)).1
          have hsm := (HN.out.roads _ (List.getElem_mem hlt)).2
          have hcl : ∀ j z, j < 3 → r.roads[k][j]? = some z → wr.cell? ⟨g, k * 3 + j, none⟩ = some (.int .i64 z) := by
            intro j z hj hz
            rw [HW.out.cell (by exact hgl), HR.out.cellAt (k * 3 + j) (by omega)]
            exact flat_ints (fun s hs => (HN.out.roads s hs).1) hlt hj hz
          have HQ' := roadsL_snoc hlt
          rw [hab] at hsm hcl HQ'
          clear hab
          have x0 : wr.cell? ⟨g, k * 3, none⟩ = some (.int .i64 a) := hcl 0 a (by omega) rfl
          have x1 : wr.cell? ⟨g, k * 3 + 1, none⟩ = some (.int .i64 b) := hcl 1 b (by omega) rfl
          have x2 : wr.cell? ⟨g, k * 3 + 2, none⟩ = some (.int .i64 c) := hcl 2 c (by omega) rfl
          have HSM := hide hsm
          have HQ2 := hide HQ'
          clear hcl hsm HQ'
          go_wp2_with fail
          refine (lineOf_any Z _ 3 _ [82] [a, b, c] _ (by exact Tab.on HTW.out (below2 _ _ _) (by omega)) (by simp; omega) rfl (by omega) (by simp) (by simp) HSM.out (cells3 (by simp [go_sem]) (by simp [go_sem]) (by simp [go_sem]))).mono ?_
          rintro e2 w2 ⟨rfl, hb2⟩
          have hll : (lineL [82] [a, b, c]).length ≤ 50 := by have := lineL_length [82] [a, b, c]; simp at this; omega
          have HW2 : Hid (Below wr.heap.size wr w2) := (below2 wr _ _).trans (hb2.mono (by simp; omega))
          clear hb2 x0 x1 x2 d6
          go_wp2
          go_roundw
          case rel =>
            refine ⟨k + 1, q ++ lineL [82] [a, b, c], by go_num, ?_, by omega, ?_, ?_, ?_⟩
            · rw [← ba_append]
            · simp; omega
            · show _ = _; rw [HQ.out, HQ2.out]; simp
            · exact HBW.out.trans (HW2.out.mono (by omega))
          case measure => simp [intOf]; omega
        · go_wp2
          have hke : k = r.roads.length := by omega
          subst hke
          have e : textL r = q := by rw [HQ.out, HT'.out, List.take_length]; rfl
          rw [e]
          go_ret2
          exact ⟨rfl, HW.out⟩
end Go.Proofs.YtebinaopncclgaaDoor
