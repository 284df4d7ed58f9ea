/- Walks: the same instance? (where it is) -/
import Derived.Test.YtebinaopncclgaaDoorTextG
namespace Go.Proofs.YtebinaopncclgaaDoor
open Go.RowKit Go.IntWalk

set_option maxRecDepth 100000 in
set_option maxHeartbeats 4000000 in
theorem same_ok (B B' C C' : Nat) (r : Rd) (vs vr us ur : Value) (w : World) (hn : RdNice r) (hs : w.ownsRow B 37 5 vs r.stops.length (ints r.stops.flatten)) (hr : w.ownsRow B' 39 3 vr r.roads.length (ints r.roads.flatten))
    (ks : w.ownsRow C 37 5 us r.stops.length (ints r.stops.flatten)) (kr : w.ownsRow C' 39 3 ur r.roads.length (ints r.roads.flatten)) :
    Calls Tryd.prog 7 #[inst r vs vr, inst r us ur] w fun e w' => e = .returned (.bool true) ∧ Below w.heap.size w w' := by
  have hns := hn.nstops
  have hnr := hn.nroads
  obtain ⟨aos, caps, rfl, has, hsn⟩ := own_val hs
  obtain ⟨aor, capr, rfl, har, hrn⟩ := own_val hr
  obtain ⟨bos, dcs, rfl, kas, ksn⟩ := own_val ks
  obtain ⟨bor, dcr, rfl, kar, krn⟩ := own_val kr
  have HS := hide hs
  have HR := hide hr
  have KS := hide ks
  have KR := hide kr
  have HN := hide hn
  have HAS := hide has
  have HAR := hide har
  have HSN := hide hsn
  have HRN := hide hrn
  have KAS := hide kas
  have KAR := hide kar
  have KSN := hide ksn
  have KRN := hide krn
  clear hs hr hn has hsn har hrn ks kr kas kar ksn krn
  unfold inst
  go_enter Tryd.func7, Tryd.ntmps7
  go_wp2_with fail
  generalize hWd : (w.alloc (.cells #[.int .i64 r.vans, .int .i64 r.load, .int .i64 r.close, .int .i64 r.nodes, .int .i64 r.home, .slice aos r.stops.length caps, .slice aor r.roads.length capr] 25)).alloc (.cells #[.int .i64 r.vans, .int .i64 r.load, .int .i64 r.close, .int .i64 r.nodes, .int .i64 r.home, .slice bos r.stops.length dcs, .slice bor r.roads.length dcr] 25) = W
  have hbel : Below w.heap.size w W := by rw [← hWd]; exact below2 w _ _
  have d5 : W.cell? ⟨w.heap.size, 5, none⟩ = some (.slice aos r.stops.length caps) := by rw [← hWd]; simp [go_sem]
  have d6 : W.cell? ⟨w.heap.size, 6, none⟩ = some (.slice aor r.roads.length capr) := by rw [← hWd]; simp [go_sem]
  have e5 : W.cell? ⟨w.heap.size + 1, 5, none⟩ = some (.slice bos r.stops.length dcs) := by rw [← hWd]; simp [go_sem]
  have e6 : W.cell? ⟨w.heap.size + 1, 6, none⟩ = some (.slice bor r.roads.length dcr) := by rw [← hWd]; simp [go_sem]
  have HBEL := hide hbel
  have D5 := hide d5
  have D6 := hide d6
  have E5 := hide e5
  have E6 := hide e6
  have hWs : w.heap.size + 2 = W.heap.size := by rw [← hWd]; simp
  clear hWd hbel d5 d6 e5 e6
  go_loopw [5] (fun i wr => ∃ k : Nat, i = .int .i64 k ∧ k ≤ r.stops.length ∧ Hid (Below W.heap.size W wr)) (fun i _ => r.stops.length - (intOf i).toNat)
  case atStart => exact ⟨0, rfl, by omega, Below.refl _ _⟩
  case round =>
    obtain ⟨k, rfl, hk, HV⟩ := hrel
    have hvs := HV.out.size
    have HB : Hid (Below w.heap.size w wr) := HBEL.out.trans (HV.out.mono (by omega))
    have d5 : wr.cell? ⟨w.heap.size, 5, none⟩ = some (.slice aos r.stops.length caps) := (HV.out.cell (p := ⟨w.heap.size, 5, none⟩) (by show w.heap.size < _; omega)).trans D5.out
    have e5 : wr.cell? ⟨w.heap.size + 1, 5, none⟩ = some (.slice bos r.stops.length dcs) := (HV.out.cell (p := ⟨w.heap.size + 1, 5, none⟩) (by show w.heap.size + 1 < _; omega)).trans E5.out
    by_cases hlt : k < r.stops.length
    · obtain ⟨g, rfl, hgl⟩ := some_of HAS.out HSN.out (by omega)
      obtain ⟨h, rfl, hhl⟩ := some_of KAS.out KSN.out (by omega)
      obtain ⟨a, b, c, d, e, hab⟩ := five (HN.out.stops _ (List.getElem_mem hlt)).1
      have hcl : ∀ j z, j < 5 → r.stops[k][j]? = some z → wr.cell? ⟨g, k * 5 + j, none⟩ = some (.int .i64 z) := by
        intro j z hj hz
        rw [HB.out.cell (by exact hgl), HS.out.cellAt (k * 5 + j) (by omega)]
        exact flat_ints (fun s hs => (HN.out.stops s hs).1) hlt hj hz
      have kcl : ∀ j z, j < 5 → r.stops[k][j]? = some z → wr.cell? ⟨h, k * 5 + j, none⟩ = some (.int .i64 z) := by
        intro j z hj hz
        rw [HB.out.cell (by exact hhl), KS.out.cellAt (k * 5 + j) (by omega)]
        exact flat_ints (fun s hs => (HN.out.stops s hs).1) hlt hj hz
      rw [hab] at hcl kcl
      clear hab
      have x0 : wr.cell? ⟨g, k * 5, none⟩ = some (.int .i64 a) := hcl 0 a (by omega) rfl
      have x1 : wr.cell? ⟨g, k * 5 + 1, none⟩ = some (.int .i64 b) := hcl 1 b (by omega) rfl
      have x2 : wr.cell? ⟨g, k * 5 + 2, none⟩ = some (.int .i64 c) := hcl 2 c (by omega) rfl
      have x3 : wr.cell? ⟨g, k * 5 + 3, none⟩ = some (.int .i64 d) := hcl 3 d (by omega) rfl
      have x4 : wr.cell? ⟨g, k * 5 + 4, none⟩ = some (.int .i64 e) := hcl 4 e (by omega) rfl
      have y0 : wr.cell? ⟨h, k * 5, none⟩ = some (.int .i64 a) := kcl 0 a (by omega) rfl
      have y1 : wr.cell? ⟨h, k * 5 + 1, none⟩ = some (.int .i64 b) := kcl 1 b (by omega) rfl
      have y2 : wr.cell? ⟨h, k * 5 + 2, none⟩ = some (.int .i64 c) := kcl 2 c (by omega) rfl
      have y3 : wr.cell? ⟨h, k * 5 + 3, none⟩ = some (.int .i64 d) := kcl 3 d (by omega) rfl
      have y4 : wr.cell? ⟨h, k * 5 + 4, none⟩ = some (.int .i64 e) := kcl 4 e (by omega) rfl
      clear hcl kcl
      go_wp2_with fail
      go_region_held3 (fun w' => w'.cell? ⟨w.heap.size, 5, none⟩ = some (.slice (some ⟨g, 0, none⟩) r.stops.length caps) ∧ w'.cell? ⟨w.heap.size + 1, 5, none⟩ = some (.slice (some ⟨h, 0, none⟩) r.stops.length dcs) ∧ w'.cell? ⟨g, k * 5, none⟩ = some (.int .i64 a) ∧ w'.cell? ⟨g, k * 5 + 1, none⟩ = some (.int .i64 b) ∧ w'.cell? ⟨g, k * 5 + 2, none⟩ = some (.int .i64 c) ∧ w'.cell? ⟨g, k * 5 + 3, none⟩ = some (.int .i64 d) ∧ w'.cell? ⟨g, k * 5 + 4, none⟩ = some (.int .i64 e) ∧ w'.cell? ⟨h, k * 5, none⟩ = some (.int .i64 a) ∧ w'.cell? ⟨h, k * 5 + 1, none⟩ = some (.int .i64 b) ∧ w'.cell? ⟨h, k * 5 + 2, none⟩ = some (.int .i64 c) ∧ w'.cell? ⟨h, k * 5 + 3, none⟩ = some (.int .i64 d) ∧ w'.cell? ⟨h, k * 5 + 4, none⟩ = some (.int .i64 e)) (go_keep) (fail)
      go_wp2
      go_roundw
      case rel => exact ⟨k + 1, by go_num, by omega, HV.out.drew⟩
      case measure => simp [intOf]; omega
    · go_wp2_with fail
      go_loopw [6] (fun i wr => ∃ k : Nat, i = .int .i64 k ∧ k ≤ r.roads.length ∧ Hid (Below W.heap.size W wr)) (fun i _ => r.roads.length - (intOf i).toNat)
      case atStart => exact ⟨0, rfl, by omega, HV⟩
      case round =>
        clear HV hvs HB d5 e5
        obtain ⟨q, rfl, hq, HV⟩ := hrel
        have hvs := HV.out.size
        have HB : Hid (Below w.heap.size w wr) := HBEL.out.trans (HV.out.mono (by omega))
        have d6 : wr.cell? ⟨w.heap.size, 6, none⟩ = some (.slice aor r.roads.length capr) := (HV.out.cell (p := ⟨w.heap.size, 6, none⟩) (by show w.heap.size < _; omega)).trans D6.out
        have e6 : wr.cell? ⟨w.heap.size + 1, 6, none⟩ = some (.slice bor r.roads.length dcr) := (HV.out.cell (p := ⟨w.heap.size + 1, 6, none⟩) (by show w.heap.size + 1 < _; omega)).trans E6.out
        by_cases hlt : q < r.roads.length
        · obtain ⟨g, rfl, hgl⟩ := some_of HAR.out HRN.out (by omega)
          obtain ⟨h, rfl, hhl⟩ := some_of KAR.out KRN.out (by omega)
          obtain ⟨a, b, c, hab⟩ := three (HN.out.roads _ (List.getElem_mem hlt)).1
          have hcl : ∀ j z, j < 3 → r.roads[q][j]? = some z → wr.cell? ⟨g, q * 3 + j, none⟩ = some (.int .i64 z) := by
            intro j z hj hz
            rw [HB.out.cell (by exact hgl), HR.out.cellAt (q * 3 + j) (by omega)]
            exact flat_ints (fun s hs => (HN.out.roads s hs).1) hlt hj hz
          have kcl : ∀ j z, j < 3 → r.roads[q][j]? = some z → wr.cell? ⟨h, q * 3 + j, none⟩ = some (.int .i64 z) := by
            intro j z hj hz
            rw [HB.out.cell (by exact hhl), KR.out.cellAt (q * 3 + j) (by omega)]
            exact flat_ints (fun s hs => (HN.out.roads s hs).1) hlt hj hz
          rw [hab] at hcl kcl
          clear hab
          have x0 : wr.cell? ⟨g, q * 3, none⟩ = some (.int .i64 a) := hcl 0 a (by omega) rfl
          have x1 : wr.cell? ⟨g, q * 3 + 1, none⟩ = some (.int .i64 b) := hcl 1 b (by omega) rfl
          have x2 : wr.cell? ⟨g, q * 3 + 2, none⟩ = some (.int .i64 c) := hcl 2 c (by omega) rfl
          have y0 : wr.cell? ⟨h, q * 3, none⟩ = some (.int .i64 a) := kcl 0 a (by omega) rfl
          have y1 : wr.cell? ⟨h, q * 3 + 1, none⟩ = some (.int .i64 b) := kcl 1 b (by omega) rfl
          have y2 : wr.cell? ⟨h, q * 3 + 2, none⟩ = some (.int .i64 c) := kcl 2 c (by omega) rfl
          clear hcl kcl
          go_wp2_with fail
          go_region_held3 (fun w' => w'.cell? ⟨w.heap.size, 6, none⟩ = some (.slice (some ⟨g, 0, none⟩) r.roads.length capr) ∧ w'.cell? ⟨w.heap.size + 1, 6, none⟩ = some (.slice (some ⟨h, 0, none⟩) r.roads.length dcr) ∧ w'.cell? ⟨g, q * 3, none⟩ = some (.int .i64 a) ∧ w'.cell? ⟨g, q * 3 + 1, none⟩ = some (.int .i64 b) ∧ w'.cell? ⟨g, q * 3 + 2, none⟩ = some (.int .i64 c) ∧ w'.cell? ⟨h, q * 3, none⟩ = some (.int .i64 a) ∧ w'.cell? ⟨h, q * 3 + 1, none⟩ = some (.int .i64 b) ∧ w'.cell? ⟨h, q * 3 + 2, none⟩ = some (.int .i64 c)) (go_keep) (fail)
          go_wp2
          go_roundw
          case rel => exact ⟨q + 1, by go_num, by omega, HV.out.drew⟩
          case measure => simp [intOf]; omega
        · go_wp2
          go_ret
          exact ⟨rfl, HB.out⟩
end Go.Proofs.YtebinaopncclgaaDoor
