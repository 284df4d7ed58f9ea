/- Walks of the statements: an instance is held. -/
import Derived.Test.YtebinaopncclgaaGreatDoorHold
namespace Go.Proofs.YtebinaopncclgaaGreatDoor
open Go.RowKit Go.IntWalk

set_option maxRecDepth 100000 in
set_option maxHeartbeats 1000000 in
theorem instance_walk (bb bd hb B : Nat) (vi vr vs vd vn : Value) (I R S D N : List Value) (r : Rd) (us ur : Value) (w : World) (h : HoldIs w bb bd hb vi vr vs vd vn I R S D N) (hS : S.length ≤ 1000000000000) (hD : D.length ≤ 1000000000000) (hbd : bd ≤ B) (hbb : bb ≤ w.heap.size) (hbw : bd ≤ w.heap.size)
    (hs : w.ownsRow B 50 5 us r.stops.length (ints r.stops.flatten)) (hr : w.ownsRow B 52 3 ur r.roads.length (ints r.roads.flatten)) :
    Calls Tryz.prog 24 #[.pointer (some ⟨hb, 0, none⟩), inst r us ur] w fun e w' => ∃ vs' vd' s1 d1, e = .returned (.tuple #[]) ∧ HoldIs w' bb w'.heap.size hb vi vr vs' vd' vn I R (S ++ [s1]) (D ++ [d1]) N ∧ Below (min bb B) w w' := by
  obtain ⟨i0, hi, hz0, hz1, hz2⟩ := info_parts Tryz.infoSS
  obtain ⟨j0, hj, hy0, hy1, hy2⟩ := info_parts Tryz.infoSR
  have HH := hid h
  obtain ⟨avs, cvs, hvs, _, _⟩ := own_val h.os
  obtain ⟨avd, cvd, hvd, _, _⟩ := own_val h.od
  subst hvs hvd
  have hbl : hb < w.heap.size := (Array.getElem?_eq_some_iff.1 h.box).1
  have c2 : w.cell? ⟨hb, 2, none⟩ = some (.slice avs S.length cvs) := by rw [cell_of_row _ _ _ _ _ _ h.box]; rfl
  have hfz : ∀ o, w.frozen? ⟨hb, o, none⟩ = false := fun o => frozen_of_row w hb o _ _ h.box
  unfold inst
  obtain ⟨aus, cus, hus, hle, hroom⟩ := room_of hs
  obtain ⟨aur, cur, hur, hle', hroom'⟩ := room_of hr
  have HRM := hid hroom
  have HRN := hid hroom'
  have hcm := hroom.1
  have hcm' := hroom'.1
  unfold maxLen at hcm hcm'
  subst hus hur
  clear h hs hr hroom hroom'
  go_enter Tryz.func24, Tryz.ntmps24
  go_wp2_with (at_builtin; refine wpList_append_own _ rfl _ _ 28 rfl bb 33 i0 (.slice none 0 0) 1 24 Tryz.underlying28 hi hz0 hz1 hz2 rfl (by decide) _ _ _ rfl ((HH.out.os.alloc _).alloc _) ⟨w.heap.size + 1, 0, none⟩ 1 1 [.slice aus cus cus] rfl rfl ?c1 ?c2 ?c3 ?c4 ?c5 ?_)
  case c1 => exact news_b (w := w.alloc _) rfl rfl (by simp)
  case c2 => intro u hu; simp at hu; subst hu; rfl
  case c3 => unfold maxLen; omega
  case c4 => omega
  case c5 => simp; omega
  intro v' w1 hown' hgrow _
  obtain ⟨g5, cap5, cur5, hv5, hg5, hg5', _⟩ := own_shape hown' (by omega)
  subst hv5
  obtain ⟨X, hX, hgr, hxX⟩ : ∃ X, Below w.heap.size w X ∧ X.grownBy w1 (Value.slice avs S.length cvs).ownBlock ∧ X.heap[w.heap.size]? = some (.cells #[.int .i64 r.vans, .int .i64 r.load, .int .i64 r.close, .int .i64 r.nodes, .int .i64 r.home, .slice aus r.stops.length cus, .slice aur r.roads.length cur] 36 (0, 0)) :=
    ⟨_, below2 w _ _, hgrow, heap_alloc2_first w _ _⟩
  clear hgrow
  have hk1 : Keep [33] X w1 := Keep.grown (own_below HH.out.os hX) (by simp) hgr
  have hk0 : Keep [33] w w1 := (Keep.of_below hX).trans hk1
  have hbox1 := hk0 _ _ _ _ HH.out.box (by decide)
  have hx1 := hk1 _ _ _ _ hxX (by decide)
  have hbl1 : hb < w1.heap.size := (Array.getElem?_eq_some_iff.1 hbox1).1
  have c2 : w1.cell? ⟨hb, 2, none⟩ = some (.slice avs S.length cvs) := by rw [cell_of_row _ _ _ _ _ _ hbox1]; rfl
  have hfz1 : ∀ o, w1.frozen? ⟨hb, o, none⟩ = false := fun o => frozen_of_row w1 hb o _ _ hbox1
  obtain ⟨W2, hW2⟩ : ∃ W2, W2 = w1.setCell ⟨hb, 2, none⟩ (.slice (some ⟨g5, 0, none⟩) (S.length + 1) cap5) := ⟨_, rfl⟩
  have hk2 : Keep [32] w1 W2 := by rw [hW2]; exact Keep.setCell hbox1 (by simp) _
  have hbox2 : W2.heap[hb]? = some (.cells #[vi, vr, .slice (some ⟨g5, 0, none⟩) (S.length + 1) cap5, .slice avd D.length cvd, vn] 32 (0, 0)) := by rw [hW2]; exact heap_setCell_same w1 hb 2 _ _ _ hbox1
  have hx2 := hk2 _ _ _ _ hx1 (by decide)
  have HRB : Hid (∀ k, (Value.slice aus cus cus).ownBlock = some k → B ≤ k ∧ k < w.heap.size ∧ k ≠ hb ∧ ∃ crr, W2.heap[k]? = some (.cells crr 50 (0, 0))) := fun k e => by
    obtain ⟨h1, crr, h2⟩ := room_block HRM.out k e
    have h3 := hk2 _ _ _ _ (hk0 _ _ _ _ h2 (by decide)) (by decide)
    exact ⟨h1, (Array.getElem?_eq_some_iff.1 h2).1, fun e' => (by rw [e', hbox2] at h3; cases h3), crr, h3⟩
  have HRW : Hid (0 < cus → ∃ g crr, aus = some ⟨g, 0, none⟩ ∧ W2.heap[g]? = some (.cells crr 50 (0, 0)) ∧ crr.size = cus * 5) := fun hc => by
    obtain ⟨g, crr, k1, k2, k3, k4⟩ := HRM.out.2.1 hc
    exact ⟨g, crr, k1, hk2 _ _ _ _ (hk0 _ _ _ _ k3 (by decide)) (by decide), k4⟩
  have HGR := hid hgr
  have HX := hid hX
  have HOW := hid hown'
  have HBX := hid hbox2
  have HXB := hid hx2
  have HW2 := hid hW2
  have HK2 := hid hk2
  have HK0 := hid hk0
  clear hgr hX hown' hbox2 hx2 hk2 hk0 hk1 hxX hx1 hbox1 hg5 hg5'
  go_wp2_with fail
  rw [← hW2]
  clear hW2
  go_loopw [5] (fun i wr => ∃ k : Nat, i = .int .i64 k ∧ k ≤ cus ∧ Hid (W2.grownBy wr (Value.slice aus cus cus).ownBlock) ∧ Hid (0 < cus → ∃ g crr, aus = some ⟨g, 0, none⟩ ∧ wr.heap[g]? = some (.cells crr 50 (0, 0)) ∧ crr.size = cus * 5 ∧ ∀ j q, j < k → q < 5 → ∃ u, crr[j * 5 + q]? = some u ∧ isNum S.length q u)) (fun i _ => cus - (intOf i).toNat)
  case atStart =>
    refine ⟨0, rfl, by omega, grown_refl _ _, fun hc => ?_⟩
    obtain ⟨g, crr, k1, k4, k5⟩ := HRW.out hc
    exact ⟨g, crr, k1, k4, k5, fun j q hj => absurd hj (by omega)⟩
  case round =>
    obtain ⟨k, rfl, hk, HG, HF⟩ := hrel
    have hbw2 : wr.heap[hb]? = _ := (HG.out.block hb (Array.getElem?_eq_some_iff.1 HBX.out).1 (fun e => (HRB.out _ e.symm).2.2.1 rfl)).trans HBX.out
    have hblr : hb < wr.heap.size := (Array.getElem?_eq_some_iff.1 hbw2).1
    have b2 : wr.cell? ⟨hb, 2, none⟩ = some (.slice (some ⟨g5, 0, none⟩) (S.length + 1) cap5) := by rw [cell_of_row _ _ _ _ _ _ hbw2]; rfl
    by_cases hlt : k < cus
    · obtain ⟨g, crr, rfl, hg, hgz, hgp⟩ := HF.out (by omega)
      have ee : ∀ q, q < 5 → wr.cell? ⟨g, k * 5 + q, none⟩ = some (crr.getD (k * 5 + q) (.int .i64 0)) := fun q hq => by
        have hq' : k * 5 + q < crr.size := by omega
        rw [cell_of_row _ _ _ _ _ _ hg, Array.getElem?_eq_getElem hq']; simp [Array.getD, hq']
      have e0 : wr.cell? ⟨g, k * 5, none⟩ = some (crr.getD (k * 5) (.int .i64 0)) := ee 0 (by omega)
      have e1 : wr.cell? ⟨g, k * 5 + 1, none⟩ = some (crr.getD (k * 5 + 1) (.int .i64 0)) := ee 1 (by omega)
      have e2 : wr.cell? ⟨g, k * 5 + 2, none⟩ = some (crr.getD (k * 5 + 2) (.int .i64 0)) := ee 2 (by omega)
      have e3 : wr.cell? ⟨g, k * 5 + 3, none⟩ = some (crr.getD (k * 5 + 3) (.int .i64 0)) := ee 3 (by omega)
      have e4 : wr.cell? ⟨g, k * 5 + 4, none⟩ = some (crr.getD (k * 5 + 4) (.int .i64 0)) := ee 4 (by omega)
      have ef : ∀ o, wr.frozen? ⟨g, o, none⟩ = false := fun o => frozen_of_row wr g o _ _ hg
      have hgl : g < wr.heap.size := (Array.getElem?_eq_some_iff.1 hg).1
      have hgb : g ≠ hb := (HRB.out g rfl).2.2.1
      have HGZ := hid hgz
      have HGP := hid hgp
      have HGG := hid hg
      clear ee hgp hgz hg hbw2
      go_wp2_with fail
      go_roundw
      case rel =>
        refine ⟨k + 1, by go_num, by omega, grown_set (grown_set (grown_set (grown_set (grown_set HG.out _) _) _) _) _, fun _ => ?_⟩
        obtain ⟨crr', f1, f2, f3⟩ := fill5 (u0 := .int .i64 ((S.length : Int) + 1)) (u1 := .int .i64 0) (u2 := .int .i64 0) (u3 := .int .i64 0) (u4 := .int .i64 0) HGG.out HGZ.out hlt HGP.out (by simp [isNum]) rfl rfl rfl rfl
        exact ⟨g, crr', rfl, f1, f2, f3⟩
      case measure => simp [intOf]; omega
    · have hkc : k = cus := by omega
      subst hkc
      have hF1 : Full wr w.heap.size 50 5 (isNum S.length) (.slice aus k k) := ⟨aus, k, rfl, HRM.out.1, fun hc => by
        obtain ⟨g, crr, rfl, h2, h3, h4⟩ := HF.out hc
        exact ⟨g, crr, rfl, (HRB.out g rfl).2.1, h2, h4⟩⟩
      have hH1 := hold_stop (bd' := w.heap.size) HH.out HX.out HGR.out HOW.out (by rw [← HW2.out]; exact HG.out) (fun q e => by
        rw [← HW2.out]
        exact ⟨fun i hi g c e' hc => by have h1 := (HH.out.fs i hi).lt g c e' hc; have h2 := (HRB.out q e).1; omega, (HRB.out q e).2.2.2⟩) hF1 hbw
      have hxw : wr.heap[w.heap.size]? = _ := (HG.out.block _ (Array.getElem?_eq_some_iff.1 HXB.out).1 (fun e => by have := (HRB.out _ e.symm).2.1; omega)).trans HXB.out
      have hxl : w.heap.size < wr.heap.size := (Array.getElem?_eq_some_iff.1 hxw).1
      have x6 : wr.cell? ⟨w.heap.size, 6, none⟩ = some (.slice aur r.roads.length cur) := by rw [cell_of_row _ _ _ _ _ _ hxw]; rfl
      have b3 : wr.cell? ⟨hb, 3, none⟩ = some (.slice avd D.length cvd) := by rw [cell_of_row _ _ _ _ _ _ hbw2]; rfl
      have HB1 : Hid (Below (min bb B) w wr) := by
        have h1 : Below (min bb B) w w1 := (HX.out.mono (by omega)).trans ((Below.refl _ _).grown HGR.out (by have := HX.out.size; omega) (fun q hq => by have := (HH.out.os.lt q hq).1; omega))
        have h2 : Below (min bb B) w W2 := by rw [HW2.out]; exact h1.setCell (by have := HH.out.lo; show min bb B ≤ hb; omega) _
        exact h2.grown HG.out (by have := h2.size; omega) (fun q hq => by have := (HRB.out q hq).1; omega)
      have hkr : ∀ (q : Nat) (crr : Array Value), w.heap[q]? = some (.cells crr 52 (0, 0)) → wr.heap[q]? = some (.cells crr 52 (0, 0)) := fun q crr h =>
        grow_keep HG.out (fun k e => (HRB.out k e).2.2.2) q crr _ _ (HK2.out _ _ _ _ (HK0.out _ _ _ _ h (by decide)) (by decide)) (by decide)
      have HRO : Hid (∀ q, (Value.slice aur cur cur).ownBlock = some q → B ≤ q ∧ q < w.heap.size ∧ ∃ crr, wr.heap[q]? = some (.cells crr 52 (0, 0))) := fun q e => by
        obtain ⟨h1, crr, h2⟩ := room_block HRN.out q e
        exact ⟨h1, (Array.getElem?_eq_some_iff.1 h2).1, crr, hkr q crr h2⟩
      have HRP : Hid (0 < cur → ∃ g crr, aur = some ⟨g, 0, none⟩ ∧ wr.heap[g]? = some (.cells crr 52 (0, 0)) ∧ crr.size = cur * 3) := fun hc => by
        obtain ⟨g, crr, k1, k2, k3, k4⟩ := HRN.out.2.1 hc
        exact ⟨g, crr, k1, hkr g crr k3, k4⟩
      have HH1 := hid hH1
      have hfz3 : ∀ o, wr.frozen? ⟨hb, o, none⟩ = false := fun o => frozen_of_row wr hb o _ _ hbw2
      clear hkr hH1 hF1 HF HG HRM HRB HRW HBX HXB HX HGR HOW HW2 HK2 HK0 hbw2 b2 hxw
      go_wp2_with (at_builtin; refine wpList_append_own _ rfl _ _ 29 rfl bb 34 j0 (.slice none 0 0) 1 24 Tryz.underlying29 hj hy0 hy1 hy2 rfl (by decide) _ _ _ rfl (HH1.out.od.alloc _) ⟨wr.heap.size, 0, none⟩ 1 1 [.slice aur cur cur] rfl rfl ?c1 ?c2 ?c3 ?c4 ?c5 ?_)
      case c1 => exact news_at rfl rfl
      case c2 => intro u hu; simp at hu; subst hu; rfl
      case c3 => unfold maxLen; omega
      case c4 => omega
      case c5 => simp; omega
      intro v6 w4 hown6 hgrow6 _
      obtain ⟨g6, cap6, cur6, hv6, hg6, hg6', _⟩ := own_shape hown6 (by omega)
      subst hv6
      obtain ⟨X, hX, hgr⟩ : ∃ X, Below wr.heap.size wr X ∧ X.grownBy w4 (Value.slice avd D.length cvd).ownBlock := ⟨_, below1 wr _, hgrow6⟩
      clear hgrow6
      have hk1 : Keep [34] X w4 := Keep.grown (own_below HH1.out.od hX) (by simp) hgr
      have hk0 : Keep [34] wr w4 := (Keep.of_below hX).trans hk1
      have hbox1 := hk0 _ _ _ _ HH1.out.box (by decide)
      have hbl4 : hb < w4.heap.size := (Array.getElem?_eq_some_iff.1 hbox1).1
      have c3 : w4.cell? ⟨hb, 3, none⟩ = some (.slice avd D.length cvd) := by rw [cell_of_row _ _ _ _ _ _ hbox1]; rfl
      have hfz4 : ∀ o, w4.frozen? ⟨hb, o, none⟩ = false := fun o => frozen_of_row w4 hb o _ _ hbox1
      obtain ⟨W5, hW5⟩ : ∃ W5, W5 = w4.setCell ⟨hb, 3, none⟩ (.slice (some ⟨g6, 0, none⟩) (D.length + 1) cap6) := ⟨_, rfl⟩
      have hk2 : Keep [32] w4 W5 := by rw [hW5]; exact Keep.setCell hbox1 (by simp) _
      have hbox2 : W5.heap[hb]? = some (.cells #[vi, vr, .slice (some ⟨g5, 0, none⟩) (S.length + 1) cap5, .slice (some ⟨g6, 0, none⟩) (D.length + 1) cap6, vn] 32 (0, 0)) := by rw [hW5]; exact heap_setCell_same w4 hb 3 _ _ _ hbox1
      have HRB : Hid (∀ k, (Value.slice aur cur cur).ownBlock = some k → B ≤ k ∧ k < w.heap.size ∧ k ≠ hb ∧ ∃ crr, W5.heap[k]? = some (.cells crr 52 (0, 0))) := fun k e => by
        obtain ⟨h1, h1', crr, h2⟩ := HRO.out k e
        have h3 := hk2 _ _ _ _ (hk0 _ _ _ _ h2 (by decide)) (by decide)
        exact ⟨h1, h1', fun e' => (by rw [e', hbox2] at h3; cases h3), crr, h3⟩
      have HRW : Hid (0 < cur → ∃ g crr, aur = some ⟨g, 0, none⟩ ∧ W5.heap[g]? = some (.cells crr 52 (0, 0)) ∧ crr.size = cur * 3) := fun hc => by
        obtain ⟨g, crr, k1, k3, k4⟩ := HRP.out hc
        exact ⟨g, crr, k1, hk2 _ _ _ _ (hk0 _ _ _ _ k3 (by decide)) (by decide), k4⟩
      have HGR := hid hgr
      have HX := hid hX
      have HOW := hid hown6
      have HBX := hid hbox2
      have HW5 := hid hW5
      clear hgr hX hown6 hbox2 hk2 hk0 hk1 hbox1 hg6 hg6' x6 b3 hxl hfz3 HRO HRP
      go_wp2_with fail
      rw [← hW5]
      clear hW5
      go_loopw [7] (fun i wr => ∃ k : Nat, i = .int .i64 k ∧ k ≤ cur ∧ Hid (W5.grownBy wr (Value.slice aur cur cur).ownBlock) ∧ Hid (0 < cur → ∃ g crr, aur = some ⟨g, 0, none⟩ ∧ wr.heap[g]? = some (.cells crr 52 (0, 0)) ∧ crr.size = cur * 3 ∧ ∀ j q, j < k → q < 3 → ∃ u, crr[j * 3 + q]? = some u ∧ isNum D.length q u)) (fun i _ => cur - (intOf i).toNat)
      case atStart =>
        refine ⟨0, rfl, by omega, grown_refl _ _, fun hc => ?_⟩
        obtain ⟨g, crr, k1, k4, k5⟩ := HRW.out hc
        exact ⟨g, crr, k1, k4, k5, fun j q hj => absurd hj (by omega)⟩
      case round =>
        rename_i wz
        obtain ⟨p, rfl, hp, HG, HF⟩ := hrel
        have hbw2 : wr.heap[hb]? = _ := (HG.out.block hb (Array.getElem?_eq_some_iff.1 HBX.out).1 (fun e => (HRB.out _ e.symm).2.2.1 rfl)).trans HBX.out
        have hblr : hb < wr.heap.size := (Array.getElem?_eq_some_iff.1 hbw2).1
        have b3 : wr.cell? ⟨hb, 3, none⟩ = some (.slice (some ⟨g6, 0, none⟩) (D.length + 1) cap6) := by rw [cell_of_row _ _ _ _ _ _ hbw2]; rfl
        by_cases hlt : p < cur
        · obtain ⟨g, crr, rfl, hg, hgz, hgp⟩ := HF.out (by omega)
          have ee : ∀ q, q < 3 → wr.cell? ⟨g, p * 3 + q, none⟩ = some (crr.getD (p * 3 + q) (.int .i64 0)) := fun q hq => by
            have hq' : p * 3 + q < crr.size := by omega
            rw [cell_of_row _ _ _ _ _ _ hg, Array.getElem?_eq_getElem hq']; simp [Array.getD, hq']
          have e0 : wr.cell? ⟨g, p * 3, none⟩ = some (crr.getD (p * 3) (.int .i64 0)) := ee 0 (by omega)
          have e1 : wr.cell? ⟨g, p * 3 + 1, none⟩ = some (crr.getD (p * 3 + 1) (.int .i64 0)) := ee 1 (by omega)
          have e2 : wr.cell? ⟨g, p * 3 + 2, none⟩ = some (crr.getD (p * 3 + 2) (.int .i64 0)) := ee 2 (by omega)
          have ef : ∀ o, wr.frozen? ⟨g, o, none⟩ = false := fun o => frozen_of_row wr g o _ _ hg
          have hgl : g < wr.heap.size := (Array.getElem?_eq_some_iff.1 hg).1
          have hgb : g ≠ hb := (HRB.out g rfl).2.2.1
          have HGZ := hid hgz
          have HGP := hid hgp
          have HGG := hid hg
          clear ee hgp hgz hg hbw2
          go_wp2_with fail
          go_roundw
          case rel =>
            refine ⟨p + 1, by go_num, by omega, grown_set (grown_set (grown_set HG.out _) _) _, fun _ => ?_⟩
            obtain ⟨crr', f1, f2, f3⟩ := fill3 (u0 := .int .i64 ((D.length : Int) + 1)) (u1 := .int .i64 0) (u2 := .int .i64 0) HGG.out HGZ.out hlt HGP.out (by simp [isNum]) rfl rfl
            exact ⟨g, crr', rfl, f1, f2, f3⟩
          case measure => simp [intOf]; omega
        · have hkc : p = cur := by omega
          subst hkc
          have hsz : w.heap.size ≤ wr.heap.size := by
            have h1 := HB1.out.size; have h2 := HX.out.size; have h3 := HGR.out.size; have h4 := HG.out.size
            have h5 : w4.heap.size ≤ W5.heap.size := by rw [HW5.out]; exact ((Below.refl 0 w4).setCell (Nat.zero_le _) _).size
            omega
          have hF1 : Full wr wr.heap.size 52 3 (isNum D.length) (.slice aur p p) := ⟨aur, p, rfl, HRN.out.1, fun hc => by
            obtain ⟨g, crr, rfl, h2, h3, h4⟩ := HF.out hc
            exact ⟨g, crr, rfl, (Array.getElem?_eq_some_iff.1 h2).1, h2, h4⟩⟩
          have hH1 := hold_road (bd' := wr.heap.size) HH1.out HX.out HGR.out HOW.out (by rw [← HW5.out]; exact HG.out) (fun q e => by
            rw [← HW5.out]
            exact ⟨fun i hi g c e' hc => by have h1 := (HH.out.fd i hi).lt g c e' hc; have h2 := (HRB.out q e).1; omega, (HRB.out q e).2.2.2⟩) hF1 hsz
          have hB2 : Below (min bb B) w wr := by
            have h0 := HB1.out
            have h1 : Below (min bb B) w w4 := (h0.trans (HX.out.mono (by have := h0.size; omega))).trans ((Below.refl _ _).grown HGR.out (by have := HX.out.size; have := h0.size; omega) (fun q hq => by have := (HH1.out.od.lt q hq).1; omega))
            have h2 : Below (min bb B) w W5 := by rw [HW5.out]; exact h1.setCell (by have := HH.out.lo; show min bb B ≤ hb; omega) _
            exact h2.grown HG.out (by have := h2.size; omega) (fun q hq => by have := (HRB.out q hq).1; omega)
          have HH2 := hid hH1
          have HB2 := hid hB2
          clear hH1 hB2 hF1 HF HG HRB HRW HBX HX HGR HOW HW5 hbw2 b3
          go_wp2
          refine bodyPost_end (v := .tuple #[]) (by simp [results, Tryz.results24, go_sem]) rfl ?_
          exact ⟨_, _, _, _, rfl, HH2.out, HB2.out⟩
end Go.Proofs.YtebinaopncclgaaGreatDoor
